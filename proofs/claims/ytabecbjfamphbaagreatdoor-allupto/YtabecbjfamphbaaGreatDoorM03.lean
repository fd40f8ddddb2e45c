/- A part of the proof. -/
import Derived.Laws.BitsAllLaws
import Derived.Test.YtabecbjfamphbaaGreatDoorM02
import Derived.Deep.RegionWith
namespace Go.Proofs.YtabecbjfamphbaaGreatDoor
set_option maxRecDepth 100000
namespace Crc
def poly:Nat:=3988292384
def one (p:Nat):Nat:=if p % 2=1 then (p / 2) ^^^ poly else p / 2
def bits:Nat→Nat→Nat
 | 0,p=>p
 | n+1,p=>one (bits n p)
def byte (p:Nat) (b:UInt8):Nat:=bits 8 (p ^^^ b.toNat)
def state (l:List UInt8):Nat:=l.foldl byte 4294967295
def sum (l:List UInt8):Nat:=4294967295-state l
def a5s (b:Nat) (k:Nat) (x:Nat):Nat:=if x % 2≠(b / 2 ^ k) % 2 then (x / 2) ^^^ poly else x / 2
def a1f (b:Nat):Nat→Nat→Nat
 | 0,x=>x
 | n+1,x=>a5s b n (a1f b n x)
theorem au8 {a b:Nat} (ha:a<4294967296) (hb:b<4294967296):a ^^^ b<4294967296:=
 Nat.xor_lt_two_pow (n:=32) ha hb
theorem b23:poly<4294967296:=by decide
theorem b8c {p:Nat} (h:p<4294967296):one p<4294967296:=by
 unfold one
 have:=@b23
 split
 ·exact au8 (by omega) this
 ·omega
theorem b3f {p:Nat} (n:Nat) (h:p<4294967296):bits n p<4294967296:=by
 induction n with
 | zero=>exact h
 | succ n ih=>exact b8c ih
theorem b7i {p:Nat} (b:UInt8) (h:p<4294967296):byte p b<4294967296:=by
 have:=b.toNat_lt
 exact b3f 8 (au8 h (by omega))
theorem b75 (l:List UInt8):∀ p,p<4294967296→l.foldl byte p<4294967296:=by
 induction l with
 | nil=>exact fun p h=>h
 | cons b l ih=>exact fun p h=>ih _ (b7i b h)
theorem ax1 (l:List UInt8):state l<4294967296:=b75 l _ (by decide)
theorem b0t (l:List UInt8) (b:UInt8):state (l++[b])=byte (state l) b:=by
 simp [state,List.foldl_append]
theorem sum_lt (l:List UInt8):sum l<4294967296:=by unfold sum;omega
theorem b4m (a b:Nat):(a ^^^ b) / 2=a / 2 ^^^ b / 2:=by
 have h:=Nat.shiftRight_xor_distrib (a:=a) (b:=b) (i:=1)
 simpa [Nat.shiftRight_eq_div_pow] using h
theorem b6q (a b:Nat):(a ^^^ b) % 2=1↔a % 2≠b % 2:=by
 have h:=Nat.xor_mod_two_pow (a:=a) (b:=b) (n:=1)
 simp only [Nat.pow_one] at h
 rw [h]
 have ha:a % 2=0∨a % 2=1:=by omega
 have hb:b % 2=0∨b % 2=1:=by omega
 rcases ha with ha | ha<;>rcases hb with hb | hb<;>rw [ha,hb]<;>decide
theorem b4y (b x:Nat) (k:Nat):bits k (x ^^^ b)=a1f b k x ^^^ (b / 2 ^ k):=by
 induction k with
 | zero=>simp [bits,a1f]
 | succ k ih =>
  show one (bits k (x ^^^ b))=a5s b k (a1f b k x) ^^^ (b / 2 ^ (k+1))
  rw [ih]
  have e:b / 2 ^ (k+1)=b / 2 ^ k / 2:=by rw [Nat.pow_succ,Nat.div_div_eq_div_mul]
  rw [e]
  generalize a1f b k x=y
  unfold one a5s
  generalize b / 2 ^ k=c
  have ho:=b6q y c
  have hh:=b4m y c
  by_cases h:y % 2=c % 2
  ·rw [if_neg (fun hx=>(ho.1 hx) h),hh]
   rw [show (if y % 2≠c % 2 then y / 2 ^^^ poly else y / 2)=y / 2 from if_neg (by simp [h])]
  ·rw [if_pos (ho.2 h),hh]
   rw [show (if y % 2≠c % 2 then y / 2 ^^^ poly else y / 2)=y / 2 ^^^ poly from if_pos h]
   rw [Nat.xor_assoc,Nat.xor_comm (c / 2) poly,←Nat.xor_assoc]
theorem b5t (p:Nat) (b:UInt8):a1f b.toNat 8 p=byte p b:=by
 have h:=b4y b.toNat p 8
 have hb:=b.toNat_lt
 rw [show b.toNat / 2 ^ 8=0 from Nat.div_eq_of_lt (by simpa using hb),Nat.xor_zero] at h
 exact h.symm
theorem az2 {p:Nat} (b:Nat) (n:Nat) (h:p<4294967296):a1f b n p<4294967296:=by
 induction n with
 | zero=>exact h
 | succ n ih =>
  show a5s b n _<_
  unfold a5s
  have:=@b23
  split
  ·exact au8 (by omega) this
  ·omega
theorem a3s (s:ByteArray) (k:Nat) (h:k<s.size):s.data.toList.take (k+1)=s.data.toList.take k++[s[k]]:=by
 rw [List.take_succ_eq_append_getElem (by simpa using h)];rfl
theorem aa8 (s:ByteArray) (k:Nat) (h:k<s.size):state (s.data.toList.take (k+1))=byte (state (s.data.toList.take k)) s[k]:=by
 rw [a3s s k h,b0t]
end Crc
end Go.Proofs.YtabecbjfamphbaaGreatDoor
namespace Go.Proofs.YtabecbjfamphbaaGreatDoor
open Go.RowKit
set_option maxRecDepth 100000
theorem ao6 {k:IntKind} {a b:Int} (h:a=b):Ending.returned (.int k a)=.returned (.int k b):=by rw [h]
theorem a3u {k:IntKind} {a b:Int} (h:a=b):Value.int k a=.int k b:=by rw [h]
theorem b3u {p b:Nat} (hp:p<4294967296) (hb:b<256):bits .xor .u32 (p:Int) (b:Int)=((Crc.bits 0 (p ^^^ b):Nat):Int):=
 u32_xor_nat p b hp (by omega)
theorem and_one {q:Nat} (hq:q<4294967296):bits .and .u32 (q:Int) 1=((q % 2:Nat):Int):=by
 have h:=u32_and_nat q 1 hq (by decide)
 rw [Nat.and_one_is_mod] at h
 exact h
theorem b5q {q x j:Nat} (hq:q<4294967296) (h:(bits .and .u32 (q:Int) 1 == 1)=true) (hx:Crc.bits j x=q) :
  bits .xor .u32 ((q:Int) / 2) 3988292384=((Crc.bits (j+1) x:Nat):Int):=by
 rw [and_one hq] at h
 have h1:q % 2=1:=by have:=beq_iff_eq.1 h;omega
 have e:Crc.bits (j+1) x=(q / 2) ^^^ Crc.poly:=by show Crc.one (Crc.bits j x)=_;rw [hx];unfold Crc.one;rw [if_pos h1]
 rw [e]
 have:=u32_xor_nat (q / 2) 3988292384 (by omega) (by decide)
 rw [show Crc.poly=3988292384 from rfl]
 simpa using this
theorem b7m {q x j:Nat} (hq:q<4294967296) (h:(bits .and .u32 (q:Int) 1 == 1)=false) (hx:Crc.bits j x=q) :
  ((q:Int) / 2)=((Crc.bits (j+1) x:Nat):Int):=by
 rw [and_one hq] at h
 have h1:¬ q % 2=1:=by have:=beq_eq_false_iff_ne.1 h;omega
 have e:Crc.bits (j+1) x=q / 2:=by show Crc.one (Crc.bits j x)=_;rw [hx];unfold Crc.one;rw [if_neg h1]
 rw [e];omega
theorem ao2 (a b:Nat) (ha:a<4611686018427387904) (hb:b<4611686018427387904):bits .xor .i64 (a:Int) (b:Int)=((a ^^^ b:Nat):Int):=by
 have hx:a ^^^ b<2 ^ 62:=Nat.xor_lt_two_pow (by omega) (by omega)
 have o:∀ n:Nat,n<4611686018427387904→(BitVec.ofInt 64 (n:Int)).toNat=n:=fun n hn=>by
  rw [BitVec.ofInt_natCast,BitVec.toNat_ofNat];exact Nat.mod_eq_of_lt (by omega)
 show IntKind.i64.wrap ((BitVec.ofInt 64 (a:Int) ^^^ BitVec.ofInt 64 (b:Int)).toNat:Int)=_
 rw [BitVec.toNat_xor,o a ha,o b hb]
 generalize a ^^^ b=c at *
 simp only [IntKind.wrap,IntKind.bits,IntKind.signed]
 simp
 omega
theorem b3e {b j:Nat} (hb:b<256):(wrap64 ((b:Int) / 2 ^ j)).tmod 2=((b / 2 ^ j % 2:Nat):Int):=by
 have e:((b:Int) / 2 ^ j)=((b / 2 ^ j:Nat):Int):=by simp
 have hle:b / 2 ^ j≤b:=Nat.div_le_self _ _
 rw [e]
 generalize b / 2 ^ j=c at *
 rw [IntWalk.wrap64_in _ (by omega),Int.tmod_eq_emod_of_nonneg (by omega)]
 omega
theorem b7e {q x b j:Nat} (hq:q<4294967296) (hb:b<256) (h:((q:Int) % 2 != (wrap64 ((b:Int) / 2 ^ j)).tmod 2)=true) (hx:Crc.a1f b j x=q) :
  bits .xor .i64 ((q:Int) / 2) 3988292384=((Crc.a1f b (j+1) x:Nat):Int):=by
 rw [b3e hb] at h
 have h1:q % 2≠b / 2 ^ j % 2:=by have:=bne_iff_ne.1 h;omega
 have e:Crc.a1f b (j+1) x=(q / 2) ^^^ Crc.poly:=by show Crc.a5s b j (Crc.a1f b j x)=_;rw [hx];unfold Crc.a5s;rw [if_pos h1]
 rw [e]
 have:=ao2 (q / 2) 3988292384 (by omega) (by decide)
 rw [show Crc.poly=3988292384 from rfl]
 simpa using this
theorem b8d {q x b j:Nat} (hb:b<256) (h:((q:Int) % 2 != (wrap64 ((b:Int) / 2 ^ j)).tmod 2)=false) (hx:Crc.a1f b j x=q) :
  ((q:Int) / 2)=((Crc.a1f b (j+1) x:Nat):Int):=by
 rw [b3e hb] at h
 have h1:q % 2=b / 2 ^ j % 2:=by have:=bne_eq_false_iff_eq.1 h;omega
 have e:Crc.a1f b (j+1) x=q / 2:=by show Crc.a5s b j (Crc.a1f b j x)=_;rw [hx];unfold Crc.a5s;rw [if_neg (by simp [h1])]
 rw [e];omega
theorem b6i {p:Nat} (h:p<4294967296):4294967295 ^^^ p=4294967295-p:=by
 have:=Nat.xor_mod_two_pow (a:=4294967295) (b:=p) (n:=32)
 have e:=BitVec.toNat_not (x:=BitVec.ofNat 32 p)
 have e2: ~~~ (BitVec.ofNat 32 p)=BitVec.allOnes 32 ^^^ BitVec.ofNat 32 p:=by rw [BitVec.allOnes_xor]
 rw [e2,BitVec.toNat_xor,BitVec.toNat_allOnes,BitVec.toNat_ofNat,Nat.mod_eq_of_lt (by omega)] at e
 simpa using e
theorem b7k {p:Nat} (h:p<4294967296):wrap64 (bits .xor .u32 IntKind.u32.max (p:Int))=((4294967295-p:Nat):Int):=by
 have hm:IntKind.u32.max=((4294967295:Nat):Int):=by decide
 rw [hm,u32_xor_nat _ _ (by decide) h,b6i h,IntWalk.wrap64_in _ (by omega)]
theorem b46 {s:ByteArray} {k p:Nat} (hk:¬ k<s.size) (h:Crc.state (s.data.toList.take k)=p):Crc.sum s.data.toList=4294967295-p:=by
 rw [←h,List.take_of_length_le (by simpa using hk)];rfl
set_option maxHeartbeats 400000 in
theorem a5h (s:ByteArray) (w:World) (hs:s.size≤maxLen) :
  Calls Tryz.prog 183 #[.string s] w fun e w'=>e=.returned (.int .i64 (Crc.sum s.data.toList))∧w'=w:=by
 unfold maxLen at hs
 go_enter Tryz.func183,Tryz.ntmps183
 go_wp2
 go_loop [3,8] (fun n i=>∃ k:Nat,k≤s.size∧i=.int .i64 k∧n=.int .u32 (Crc.state (s.data.toList.take k))) (fun _ i=>s.size-(intOf i).toNat)
 case atStart=>exact ⟨0,Nat.zero_le _,rfl,rfl⟩
 case round =>
  obtain ⟨k,hk,rfl,rfl⟩:=hrel
  have hst:=Crc.ax1 (s.data.toList.take k)
  generalize hg:Crc.state (s.data.toList.take k)=p at *
  have HG:Hid (Crc.state (s.data.toList.take k)=p):=hg
  clear hg
  by_cases hlt:k<s.size
  ·have hb:=s[k].toNat_lt
   have HS:Hid (Crc.state (s.data.toList.take (k+1))=Crc.bits 8 (p ^^^ s[k].toNat)):=by rw [Crc.aa8 s k hlt,HG.out];rfl
   go_wp2
   go_loop [3,17] (fun n i=>∃ j:Nat,j≤8∧i=.int .i64 j∧n=.int .u32 (Crc.bits j (p ^^^ s[k].toNat))) (fun _ i=>8-(intOf i).toNat)
   case atStart=>exact ⟨0,Nat.zero_le _,rfl,a3u (b3u hst hb)⟩
   case round =>
    obtain ⟨j,hj,rfl,rfl⟩:=hrel
    have hq:=Crc.b3f j (Crc.au8 hst (show s[k].toNat<4294967296 by omega))
    generalize hgq:Crc.bits j (p ^^^ s[k].toNat)=q at *
    have HQ:Hid (Crc.bits j (p ^^^ s[k].toNat)=q):=hgq
    clear hgq
    by_cases hj8:j<8
    ·go_wp2
     all_goals
      go_round
      case rel=>exact ⟨j+1,by omega,by go_num,a3u (by first | exact b5q hq ‹_› HQ.out | exact b7m hq ‹_› HQ.out)⟩
      case measure=>simp [intOf];omega
    ·go_wp2
     go_round
     case rel=>exact ⟨k+1,by omega,by go_num,a3u (by rw [HS.out,←HQ.out,show j=8 by omega])⟩
     case measure=>simp [intOf];omega
  ·go_wp2
   go_ret
   exact ⟨ao6 (by rw [b7k hst,b46 hlt HG.out]),rfl⟩
set_option maxHeartbeats 400000 in
theorem a4w (s:ByteArray) (w:World) (hs:s.size≤maxLen) :
  Calls Tryz.prog 160 #[.string s] w fun e w'=>e=.returned (.int .i64 (Crc.sum s.data.toList))∧w'=w:=by
 unfold maxLen at hs
 go_enter Tryz.func160,Tryz.ntmps160
 go_wp2
 go_loop [3,4] (fun n i=>∃ k:Nat,k≤s.size∧i=.int .i64 k∧n=.int .i64 (Crc.state (s.data.toList.take k))) (fun _ i=>s.size-(intOf i).toNat)
 case atStart=>exact ⟨0,Nat.zero_le _,rfl,rfl⟩
 case round =>
  obtain ⟨k,hk,rfl,rfl⟩:=hrel
  have hst:=Crc.ax1 (s.data.toList.take k)
  generalize hg:Crc.state (s.data.toList.take k)=p at *
  have HG:Hid (Crc.state (s.data.toList.take k)=p):=hg
  clear hg
  by_cases hlt:k<s.size
  ·have hb:=s[k].toNat_lt
   have HS:Hid (Crc.state (s.data.toList.take (k+1))=Crc.a1f s[k].toNat 8 p):=by rw [Crc.aa8 s k hlt,HG.out,Crc.b5t];exact rfl
   go_wp2
   go_loop [3,5] (fun n i=>∃ j:Nat,j≤8∧i=.int .i64 j∧n=.int .i64 (Crc.a1f s[k].toNat j p)) (fun _ i=>8-(intOf i).toNat)
   case atStart=>exact ⟨0,Nat.zero_le _,rfl,rfl⟩
   case round =>
    obtain ⟨j,hj,rfl,rfl⟩:=hrel
    have hq:=Crc.az2 s[k].toNat j hst
    generalize hgq:Crc.a1f s[k].toNat j p=q at *
    have HQ:Hid (Crc.a1f s[k].toNat j p=q):=hgq
    clear hgq
    by_cases hj8:j<8
    ·go_wp2
     all_goals
      go_round
      case rel=>exact ⟨j+1,by omega,by go_num,a3u (by first | exact b7e hq hb ‹_› HQ.out | exact b8d hb ‹_› HQ.out)⟩
      case measure=>simp [intOf];omega
    ·go_wp2
     go_round
     case rel=>exact ⟨k+1,by omega,by go_num,a3u (by rw [HS.out,←HQ.out,show j=8 by omega])⟩
     case measure=>simp [intOf];omega
  ·go_wp2
   go_ret
   exact ⟨ao6 (by rw [b46 hlt HG.out];omega),rfl⟩
end Go.Proofs.YtabecbjfamphbaaGreatDoor
namespace Go.Proofs.YtabecbjfamphbaaGreatDoor
open Go.RowKit Go.Stop Go.Extern
set_option maxRecDepth 100000
def gOf:Nat→Nat
 | 1=>0
 | 2=>1
 | 3=>2
 | 4=>3
 | 5=>4
 | 6=>5
 | 7=>6
 | _=>7
structure Sents (w:World) (A:Nat→Addr):Prop where
 c:∀ k,1≤k→k≤8→w.cell? ⟨gOf k,0,none⟩=some (.iface 298 (.pointer (some (A k))))
 ne:∀ i j,1≤i→i≤8→1≤j→j≤8→i≠j→A i≠A j
 b:∀ k,1≤k→k≤8→∃ ca ta,w.heap[(A k).block]?=some (.cells ca ta (0,0))
structure Sent (w:World) (a0 a1:Addr):Prop where
 all:∃ A,Sents w A∧A 1=a0∧A 5=a1
theorem lt_of_some {w:World} {k:Nat} {o:Obj} (h:w.heap[k]?=some o):k<w.heap.size:=by
 rcases Nat.lt_or_ge k w.heap.size with h' | h'
 ·exact h'
 ·simp [Array.getElem?_eq_none h'] at h
theorem lt_of_cell {w:World} {b o:Nat} {v:Value} (h:w.cell? ⟨b,o,none⟩=some v):b<w.heap.size:=by
 rcases Nat.lt_or_ge b w.heap.size with h' | h'
 ·exact h'
 ·simp [World.cell?,Array.getElem?_eq_none h'] at h
theorem Sents.below {w w':World} {A:Nat→Addr} (h:Sents w A) (hb:Below w.heap.size w w'):Sents w' A:=
 ⟨fun k h1 h8=>(hb.cell (lt_of_cell (h.c k h1 h8))).trans (h.c k h1 h8),h.ne,fun k h1 h8=>by
  obtain ⟨c0,t0,e0⟩:=h.b k h1 h8
  exact ⟨c0,t0,(hb.block _ (lt_of_some e0)).trans e0⟩⟩
theorem Sent.below {w w':World} {a0 a1:Addr} (h:Sent w a0 a1) (hb:Below w.heap.size w w'):Sent w' a0 a1:=by
 obtain ⟨A,hA,e0,e1⟩:=h.all
 exact ⟨⟨A,hA.below hb,e0,e1⟩⟩
theorem Sent.c0 {w:World} {a0 a1:Addr} (h:Sent w a0 a1):w.cell? ⟨0,0,none⟩=some (.iface 298 (.pointer (some a0))):=by
 obtain ⟨A,hA,e0,e1⟩:=h.all
 rw [←e0];exact hA.c 1 (by omega) (by omega)
theorem Sent.c1 {w:World} {a0 a1:Addr} (h:Sent w a0 a1):w.cell? ⟨4,0,none⟩=some (.iface 298 (.pointer (some a1))):=by
 obtain ⟨A,hA,e0,e1⟩:=h.all
 rw [←e1];exact hA.c 5 (by omega) (by omega)
theorem Sent.alloc {w:World} {a0 a1:Addr} (h:Sent w a0 a1) (o:Obj):Sent (w.alloc o) a0 a1:=h.below ((Below.refl _ _).alloc (Nat.le_refl _) _)
theorem Sent.drew {w:World} {a0 a1:Addr} (h:Sent w a0 a1):Sent w.drew a0 a1:=h.below (Below.refl _ _).drew
theorem bthen {w w1 w2:World} (h:Below w.heap.size w w1) (k:Below w1.heap.size w1 w2):Below w.heap.size w w2:=h.trans (k.mono h.size)
structure a0l (A:Nat→Addr) (e:Value) (k:Nat):Prop where
 how:(e=.nilIface∧k=0)∨(1≤k∧k≤8∧∃ s,e=.iface 208 (.agg #[.string s,.iface 298 (.pointer (some (A k)))]))
  ∨ (1≤k∧k≤8∧∃ p s,e=.iface 247 (.agg #[.int .i64 p,.iface 208 (.agg #[.string s,.iface 298 (.pointer (some (A k)))])]))
structure IsErr (a0 a1:Addr) (e:Value) (n:Int):Prop where
 how:(e=.nilIface∧n=0)∨(∃ s,e=.iface 208 (.agg #[.string s,.iface 298 (.pointer (some a0))])∧n=1)
  ∨ (∃ s,e=.iface 208 (.agg #[.string s,.iface 298 (.pointer (some a1))])∧n=5)
  ∨ (∃ p s,e=.iface 247 (.agg #[.int .i64 p,.iface 208 (.agg #[.string s,.iface 298 (.pointer (some a1))])])∧n=5)
theorem b6b {A:Nat→Addr} {e:Value} {k:Nat} (he:a0l A e k) (j:Nat) (h1:1≤j) (h8:j≤8) (w:World) (hw:Sents w A) :
  Calls Tryz.prog 92 #[e,.iface 298 (.pointer (some (A j)))] w fun r w'=>r=.returned (.bool (decide (j=k)))∧Below w.heap.size w w':=by
 rcases he.how with ⟨rfl,rfl⟩ | ⟨k1,k8,s,rfl⟩ | ⟨k1,k8,p,s,rfl⟩
 ·refine (b88 _ _).mono ?_
  rintro r w' ⟨rfl,rfl⟩
  exact ⟨by rw [decide_eq_false (by omega)],Below.refl _ _⟩
 ·by_cases hjk:j=k
  ·subst hjk
   refine (an7 s (A j) w).mono ?_
   rintro r w' ⟨rfl,hb⟩
   exact ⟨by simp,hb⟩
  ·obtain ⟨ca,ta,hb0⟩:=hw.b k k1 k8
   obtain ⟨cb,tb,hb1⟩:=hw.b j h1 h8
   refine (ak9 s (A k) (A j) w (hw.ne k j k1 k8 h1 h8 (Ne.symm hjk)) hb0 hb1).mono ?_
   rintro r w' ⟨rfl,hb⟩
   exact ⟨by rw [decide_eq_false hjk],hb⟩
 ·by_cases hjk:j=k
  ·subst hjk
   refine (ay3 p s (A j) w).mono ?_
   rintro r w' ⟨rfl,hb⟩
   exact ⟨by simp,hb⟩
  ·obtain ⟨ca,ta,hb0⟩:=hw.b k k1 k8
   obtain ⟨cb,tb,hb1⟩:=hw.b j h1 h8
   refine (ar3 p s (A k) (A j) w (hw.ne k j k1 k8 h1 h8 (Ne.symm hjk)) hb0 hb1).mono ?_
   rintro r w' ⟨rfl,hb⟩
   exact ⟨by rw [decide_eq_false hjk],hb⟩
theorem a0l.le {A:Nat→Addr} {e:Value} {k:Nat} (h:a0l A e k):k≤8:=by
 rcases h.how with ⟨_,rfl⟩ | ⟨_,h,_⟩ | ⟨_,h,_⟩<;>omega
set_option maxHeartbeats 1000000 in
theorem a0c (A:Nat→Addr) (e:Value) (k:Nat) (he:a0l A e k) (w:World) (hw:Sents w A) :
  Calls Tryz.prog 53 #[e] w fun r w'=>r=.returned (.int .i64 (k:Int))∧Below w.heap.size w w':=by
 have HI:Hid (∀ j,1≤j→j≤8→j≠k→∀ w,Sents w A→Calls Tryz.prog 92 #[e,.iface 298 (.pointer (some (A j)))] w fun r w'=>r=.returned (.bool false)∧Below w.heap.size w w'):=fun j h1 h8 hjk w hw=>by
  have:=b6b he j h1 h8 w hw
  rw [decide_eq_false hjk] at this
  exact this
 have HY:Hid (1≤k→k≤8→∀ w,Sents w A→Calls Tryz.prog 92 #[e,.iface 298 (.pointer (some (A k)))] w fun r w'=>r=.returned (.bool true)∧Below w.heap.size w w'):=fun h1 h8 w hw=>by
  have:=b6b he k h1 h8 w hw
  rw [decide_eq_true rfl] at this
  exact this
 have hk8:=he.le
 have HW:Hid (Sents w A):=hw
 have HB:Hid (Below w.heap.size w w):=Below.refl _ _
 have c1:=hw.c 1 (by omega) (by omega)
 have hk:k=0∨k=1∨k=2∨k=3∨k=4∨k=5∨k=6∨k=7∨k=8:=by omega
 unfold gOf at c1
 clear he hw hk8
 rcases hk with rfl | rfl | rfl | rfl | rfl | rfl | rfl | rfl | rfl
 all_goals
  go_enter Tryz.func53,Tryz.ntmps53
  go_wp2_with (go_at_call 92;first
   | (refine (HI.out _ (by decide) (by decide) (by decide) _ HW.out).mono ?_;rintro r wn ⟨rfl,hb⟩;have hw:=HW.out.below hb;have HB1:Hid _:=bthen HB.out hb;clear HB;have HB:Hid _:=HB1.out;clear HB1;have HW1:Hid _:=hw;clear HW;have HW:Hid _:=HW1.out;clear HW1 hb c1;have c1:=hw.c 1 (by omega) (by omega);have c2:=hw.c 2 (by omega) (by omega);have c3:=hw.c 3 (by omega) (by omega);have c4:=hw.c 4 (by omega) (by omega);have c5:=hw.c 5 (by omega) (by omega);have c6:=hw.c 6 (by omega) (by omega);have c7:=hw.c 7 (by omega) (by omega);have c8:=hw.c 8 (by omega) (by omega);unfold gOf at c1 c2 c3 c4 c5 c6 c7 c8;clear hw)
   | (refine (HY.out (by decide) (by decide) _ HW.out).mono ?_;rintro r wn ⟨rfl,hb⟩;have HB1:Hid _:=bthen HB.out hb;clear HB;have HB:Hid _:=HB1.out;clear HB1 hb c1))
  go_ret
  exact ⟨rfl,HB.out⟩
theorem a6z (a0 a1:Addr) (e:Value) (n:Int) (he:IsErr a0 a1 e n) (w:World) (hw:Sent w a0 a1) :
  Calls Tryz.prog 53 #[e] w fun e w'=>e=.returned (.int .i64 n)∧Below w.heap.size w w':=by
 obtain ⟨A,hA,rfl,rfl⟩:=hw.all
 rcases he.how with ⟨rfl,rfl⟩ | ⟨s,rfl,rfl⟩ | ⟨s,rfl,rfl⟩ | ⟨p,s,rfl,rfl⟩
 ·exact a0c A _ 0 ⟨Or.inl ⟨rfl,rfl⟩⟩ w hA
 ·exact a0c A _ 1 ⟨Or.inr (Or.inl ⟨by omega,by omega,s,rfl⟩)⟩ w hA
 ·exact a0c A _ 5 ⟨Or.inr (Or.inl ⟨by omega,by omega,s,rfl⟩)⟩ w hA
 ·exact a0c A _ 5 ⟨Or.inr (Or.inr ⟨by omega,by omega,p,s,rfl⟩)⟩ w hA
set_option maxHeartbeats 400000 in
theorem a0t (a0 a1:Addr) (s:ByteArray) (w:World) (hw:Sent w a0 a1) :
  Calls Tryz.prog 144 #[.string s] w fun e w'=>e=.returned (.iface 208 (.agg #[.string s,.iface 298 (.pointer (some a0))]))∧w'=w:=by
 have c0:=hw.c0
 clear hw
 go_enter Tryz.func144,Tryz.ntmps144
 go_wp2
 go_ret
 exact ⟨rfl,rfl⟩
set_option maxHeartbeats 400000 in
theorem a1j (a0 a1:Addr) (s:ByteArray) (w:World) (hw:Sent w a0 a1) :
  Calls Tryz.prog 227 #[.string s] w fun e w'=>e=.returned (.iface 208 (.agg #[.string s,.iface 298 (.pointer (some a1))]))∧w'=w:=by
 have c1:=hw.c1
 clear hw
 go_enter Tryz.func227,Tryz.ntmps227
 go_wp2
 go_ret
 exact ⟨rfl,rfl⟩
set_option maxHeartbeats 400000 in
theorem a0n (a0 a1:Addr) (p:Int) (s:ByteArray) (w:World) (hw:Sent w a0 a1) :
  Calls Tryz.prog 209 #[.int .i64 p,.string s] w fun e w'=>e=.returned (.iface 247 (.agg #[.int .i64 p,.iface 208 (.agg #[.string s,.iface 298 (.pointer (some a1))])]))∧w'=w:=by
 have HW:Hid (Sent w a0 a1):=hw
 clear hw
 go_enter Tryz.func209,Tryz.ntmps209
 go_wp2_with (go_at_call 227;refine (a1j a0 a1 _ _ HW.out).mono ?_;rintro e w' ⟨rfl,rfl⟩)
 go_ret
 exact ⟨rfl,rfl⟩
def okG (N W B L:Int):Bool:=decide (2≤N∧N≤8∧1≤W∧W≤8∧0≤B∧B≤40∧1≤L∧L≤65535)
theorem a0u {N W B L:Int}:okG N W B L=true↔(2≤N∧N≤8∧1≤W∧W≤8∧0≤B∧B≤40∧1≤L∧L≤65535):=by simp [okG]
theorem b6g {N W B L:Int}:okG N W B L=false↔¬ (2≤N∧N≤8∧1≤W∧W≤8∧0≤B∧B≤40∧1≤L∧L≤65535):=by simp [okG]
set_option maxHeartbeats 800000 in
theorem a2i (N W B L:Int) (w:World) (h:okG N W B L=true) :
  Calls Tryz.prog 88 #[.agg #[.int .i64 N,.int .i64 W,.int .i64 B,.int .i64 L]] w fun e w'=>e=.returned .nilIface∧Below w.heap.size w w':=by
 obtain ⟨h1,h2,h3,h4,h5,h6,h7,h8⟩:=a0u.1 h
 clear h
 go_enter Tryz.func88,Tryz.ntmps88
 go_wp2
 go_ret
 exact ⟨rfl,(Below.refl _ _).alloc (Nat.le_refl _) _⟩
set_option maxHeartbeats 1600000 in
theorem a2v (a0 a1:Addr) (N W B L:Int) (w:World) (hw:Sent w a0 a1) (h:okG N W B L=false) :
  Calls Tryz.prog 88 #[.agg #[.int .i64 N,.int .i64 W,.int .i64 B,.int .i64 L]] w fun e w'=>(∃ s,e=.returned (.iface 208 (.agg #[.string s,.iface 298 (.pointer (some a0))])))∧Below w.heap.size w w':=by
 have h':=b6g.1 h
 clear h
 have HW:Hid (Sent w a0 a1):=hw
 clear hw
 by_cases h1:N<2
 ·clear h'
  go_enter Tryz.func88,Tryz.ntmps88
  go_wp2_with (go_at_call 144;refine (a0t a0 a1 _ _ (HW.out.alloc _)).mono ?_;rintro e w' ⟨rfl,rfl⟩)
  go_ret
  exact ⟨⟨_,rfl⟩,(Below.refl _ _).alloc (Nat.le_refl _) _⟩
 by_cases h2:8<N
 ·clear h'
  go_enter Tryz.func88,Tryz.ntmps88
  go_wp2_with (go_at_call 144;refine (a0t a0 a1 _ _ (HW.out.alloc _)).mono ?_;rintro e w' ⟨rfl,rfl⟩)
  go_ret
  exact ⟨⟨_,rfl⟩,(Below.refl _ _).alloc (Nat.le_refl _) _⟩
 by_cases h3:W<1
 ·clear h'
  go_enter Tryz.func88,Tryz.ntmps88
  go_wp2_with (go_at_call 144;refine (a0t a0 a1 _ _ (HW.out.alloc _)).mono ?_;rintro e w' ⟨rfl,rfl⟩)
  go_ret
  exact ⟨⟨_,rfl⟩,(Below.refl _ _).alloc (Nat.le_refl _) _⟩
 by_cases h4:8<W
 ·clear h'
  go_enter Tryz.func88,Tryz.ntmps88
  go_wp2_with (go_at_call 144;refine (a0t a0 a1 _ _ (HW.out.alloc _)).mono ?_;rintro e w' ⟨rfl,rfl⟩)
  go_ret
  exact ⟨⟨_,rfl⟩,(Below.refl _ _).alloc (Nat.le_refl _) _⟩
 by_cases h5:B<0
 ·clear h'
  go_enter Tryz.func88,Tryz.ntmps88
  go_wp2_with (go_at_call 144;refine (a0t a0 a1 _ _ (HW.out.alloc _)).mono ?_;rintro e w' ⟨rfl,rfl⟩)
  go_ret
  exact ⟨⟨_,rfl⟩,(Below.refl _ _).alloc (Nat.le_refl _) _⟩
 by_cases h6:40<B
 ·clear h'
  go_enter Tryz.func88,Tryz.ntmps88
  go_wp2_with (go_at_call 144;refine (a0t a0 a1 _ _ (HW.out.alloc _)).mono ?_;rintro e w' ⟨rfl,rfl⟩)
  go_ret
  exact ⟨⟨_,rfl⟩,(Below.refl _ _).alloc (Nat.le_refl _) _⟩
 have h7:L<1∨65535<L:=by omega
 clear h'
 rcases h7 with h7 | h7
 ·go_enter Tryz.func88,Tryz.ntmps88
  go_wp2_with (go_at_call 144;refine (a0t a0 a1 _ _ (HW.out.alloc _)).mono ?_;rintro e w' ⟨rfl,rfl⟩)
  go_ret
  exact ⟨⟨_,rfl⟩,(Below.refl _ _).alloc (Nat.le_refl _) _⟩
 ·go_enter Tryz.func88,Tryz.ntmps88
  go_wp2_with (go_at_call 144;refine (a0t a0 a1 _ _ (HW.out.alloc _)).mono ?_;rintro e w' ⟨rfl,rfl⟩)
  go_ret
  exact ⟨⟨_,rfl⟩,(Below.refl _ _).alloc (Nat.le_refl _) _⟩
theorem a4z (a0 a1:Addr) (N W B L:Int) (w:World) (hw:Sent w a0 a1) :
  Calls Tryz.prog 88 #[.agg #[.int .i64 N,.int .i64 W,.int .i64 B,.int .i64 L]] w fun e w'=>(∃ v,e=.returned v∧IsErr a0 a1 v (if okG N W B L then 0 else 1)∧(okG N W B L=true→v=.nilIface))∧Below w.heap.size w w':=by
 by_cases h:okG N W B L=true
 ·refine (a2i N W B L w h).mono ?_
  rintro e w' ⟨rfl,hb⟩
  exact ⟨⟨_,rfl,⟨Or.inl ⟨rfl,by rw [if_pos h]⟩⟩,fun _=>rfl⟩,hb⟩
 ·refine (a2v a0 a1 N W B L w hw (by simpa using h)).mono ?_
  rintro e w' ⟨⟨s,rfl⟩,hb⟩
  exact ⟨⟨_,rfl,⟨Or.inr (Or.inl ⟨s,rfl,by rw [if_neg h]⟩)⟩,fun h'=>absurd h' h⟩,hb⟩
set_option maxHeartbeats 800000 in
theorem b04 (a0 a1:Addr) (N W B L:Int) (w:World) (hw:Sent w a0 a1) :
  Calls Tryz.prog 157 #[.agg #[.int .i64 N,.int .i64 W,.int .i64 B,.int .i64 L]] w fun e w'=>e=.returned (.int .i64 (if okG N W B L then 0 else 1))∧Below w.heap.size w w':=by
 have HW:Hid (Sent w a0 a1):=hw
 clear hw
 generalize hn:(if okG N W B L=true then (0:Int) else 1)=n
 have HN:Hid ((if okG N W B L=true then (0:Int) else 1)=n):=hn
 clear hn
 go_enter Tryz.func157,Tryz.ntmps157
 go_wp2_with fail
 refine (a4z a0 a1 N W B L _ (HW.out.alloc _)).mono ?_
 rintro e w' ⟨⟨v,rfl,hv,-⟩,hb⟩
 rw [HN.out] at hv
 have HV:Hid (IsErr a0 a1 v n):=hv
 clear hv
 have HB:Hid _:=hb
 clear hb
 go_wp2_with fail
 refine (a6z a0 a1 v n HV.out w' ((HW.out.alloc _).below HB.out)).mono ?_
 rintro e w2 ⟨rfl,hb2⟩
 have HB2:Hid _:=hb2
 clear hb2
 go_wp2
 go_ret
 refine ⟨rfl,?_⟩
 have hb:=HB.out
 have hb2:=HB2.out
 exact ((Below.refl _ _).alloc (Nat.le_refl _) _).trans ((hb.mono (by simp)).trans (hb2.mono (by have:=hb.size;simp at this;omega)))
set_option maxHeartbeats 800000 in
theorem a14 (N W B L:Int) (w:World) :
  Calls Tryz.prog 158 #[.agg #[.int .i64 N,.int .i64 W,.int .i64 B,.int .i64 L]] w fun e w'=>e=.returned (.int .i64 (if okG N W B L then 0 else 1))∧Below w.heap.size w w':=by
 by_cases h:okG N W B L=true
 ·obtain ⟨h1,h2,h3,h4,h5,h6,h7,h8⟩:=a0u.1 h
  rw [if_pos h]
  clear h
  go_enter Tryz.func158,Tryz.ntmps158
  go_wp2
  go_ret
  exact ⟨rfl,(Below.refl _ _).alloc (Nat.le_refl _) _⟩
 ·rw [if_neg h]
  have h':=b6g.1 (by simpa using h)
  clear h
  by_cases h1:N<2
  ·clear h'
   go_enter Tryz.func158,Tryz.ntmps158
   go_wp2
   go_ret
   exact ⟨rfl,(Below.refl _ _).alloc (Nat.le_refl _) _⟩
  by_cases h2:8<N
  ·clear h'
   go_enter Tryz.func158,Tryz.ntmps158
   go_wp2
   go_ret
   exact ⟨rfl,(Below.refl _ _).alloc (Nat.le_refl _) _⟩
  by_cases h3:W<1
  ·clear h'
   go_enter Tryz.func158,Tryz.ntmps158
   go_wp2
   go_ret
   exact ⟨rfl,(Below.refl _ _).alloc (Nat.le_refl _) _⟩
  by_cases h4:8<W
  ·clear h'
   go_enter Tryz.func158,Tryz.ntmps158
   go_wp2
   go_ret
   exact ⟨rfl,(Below.refl _ _).alloc (Nat.le_refl _) _⟩
  by_cases h5:B<0
  ·clear h'
   go_enter Tryz.func158,Tryz.ntmps158
   go_wp2
   go_ret
   exact ⟨rfl,(Below.refl _ _).alloc (Nat.le_refl _) _⟩
  by_cases h6:40<B
  ·clear h'
   go_enter Tryz.func158,Tryz.ntmps158
   go_wp2
   go_ret
   exact ⟨rfl,(Below.refl _ _).alloc (Nat.le_refl _) _⟩
  have h7:L<1∨65535<L:=by omega
  clear h'
  rcases h7 with h7 | h7
  ·go_enter Tryz.func158,Tryz.ntmps158
   go_wp2
   go_ret
   exact ⟨rfl,(Below.refl _ _).alloc (Nat.le_refl _) _⟩
  ·go_enter Tryz.func158,Tryz.ntmps158
   go_wp2
   go_ret
   exact ⟨rfl,(Below.refl _ _).alloc (Nat.le_refl _) _⟩
set_option maxHeartbeats 400000 in
theorem b57 (s:ByteArray) (w:World) (hs:s.size≤maxLen) :
  Calls Tryz.prog 159 #[.string s] w fun e w'=>e=.returned (.int .i64 (Crc.sum s.data.toList))∧w'=w:=by
 have HS:Hid (s.size≤maxLen):=hs
 clear hs
 go_enter Tryz.func159,Tryz.ntmps159
 go_wp2_with (go_at_call 183;refine (a5h _ _ HS.out).mono ?_;rintro e w' ⟨rfl,rfl⟩)
 go_ret
 exact ⟨rfl,rfl⟩
set_option maxHeartbeats 400000 in
theorem a11 (n:Int) (w:World) :
  Calls Tryz.prog 107 #[.int .i64 n] w fun e w'=>e=.returned (.int .i64 n)∧w'=w:=by
 go_enter Tryz.func107,Tryz.ntmps107
 go_wp2
 go_ret
 go_show
 exact ⟨rfl,rfl⟩
end Go.Proofs.YtabecbjfamphbaaGreatDoor
