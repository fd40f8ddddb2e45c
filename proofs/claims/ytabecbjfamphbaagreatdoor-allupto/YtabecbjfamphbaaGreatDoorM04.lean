/- A part of the proof. -/
import Derived.Test.YtabecbjfamphbaaGreatDoorM03
import Derived.Test.YtabecbjfamphbaaGreatDoorM01
import Derived.Deep.QuietTactic
import Derived.Laws.CopyRow
import Derived.Deep.RegionHeld3
namespace Go.Proofs.YtabecbjfamphbaaGreatDoor
open Go.RowKit Go.Stop Go.Extern
set_option maxRecDepth 100000
theorem a00 (w:World) (o:Obj):Below w.heap.size w (w.alloc o):=(Below.refl _ _).alloc (Nat.le_refl _) _
theorem a09 (w:World) (o p:Obj):Below w.heap.size w ((w.alloc o).alloc p):=(a00 w o).alloc (by simp) _
structure Ints (w:World) (ad:Option Addr) (n:Nat) (vs:List Int):Prop where
 len:vs.length=n
 cell:∀ i:Nat,i<n→∃ b off,ad=some ⟨b,off,none⟩∧b<w.heap.size∧w.cell? ⟨b,off+i,none⟩=some (.int .i64 (vs.getD i 0))
theorem Ints.below {w w':World} {ad:Option Addr} {n:Nat} {vs:List Int} (h:Ints w ad n vs) (hb:Below w.heap.size w w'):Ints w' ad n vs:=
 ⟨h.len,fun i hi=>by
  obtain ⟨b,off,e,hlt,hc⟩:=h.cell i hi
  exact ⟨b,off,e,Nat.lt_of_lt_of_le hlt hb.size,(hb.cell (p:=⟨b,off+i,none⟩) hlt).trans hc⟩⟩
theorem Ints.alloc {w:World} {ad:Option Addr} {n:Nat} {vs:List Int} (h:Ints w ad n vs) (o:Obj):Ints (w.alloc o) ad n vs:=h.below (a00 w o)
theorem Ints.drew {w:World} {ad:Option Addr} {n:Nat} {vs:List Int} (h:Ints w ad n vs):Ints w.drew ad n vs:=h.below (Below.refl _ _).drew
structure IsF (a1:Addr) (v:Value) (r:Option (Option Int)):Prop where
 how:(r=none∧v=.nilIface)∨(r=some none∧∃ s,v=.iface 208 (.agg #[.string s,.iface 298 (.pointer (some a1))]))
  ∨ (∃ p s,r=some (some p)∧v=.iface 247 (.agg #[.int .i64 p,.iface 208 (.agg #[.string s,.iface 298 (.pointer (some a1))])]))
theorem IsF.nil (a1:Addr):IsF a1 .nilIface none:=⟨Or.inl ⟨rfl,rfl⟩⟩
theorem IsF.why (a1:Addr) (s:ByteArray):IsF a1 (.iface 208 (.agg #[.string s,.iface 298 (.pointer (some a1))])) (some none):=⟨Or.inr (Or.inl ⟨rfl,s,rfl⟩)⟩
theorem IsF.at (a1:Addr) (p:Int) (s:ByteArray):IsF a1 (.iface 247 (.agg #[.int .i64 p,.iface 208 (.agg #[.string s,.iface 298 (.pointer (some a1))])])) (some (some p)):=⟨Or.inr (Or.inr ⟨p,s,rfl,rfl⟩)⟩
theorem IsF.a1b {a1:Addr} {v:Value} {r:Option (Option Int)} (h:IsF a1 v r):(r=none→v=.nilIface)∧(∀ x,r=some x→∃ t y,v=.iface t y):=by
 rcases h.how with ⟨rfl,rfl⟩ | ⟨rfl,s,rfl⟩ | ⟨p,s,rfl,rfl⟩
 ·exact ⟨fun _=>rfl,fun x hx=>(by cases hx)⟩
 ·exact ⟨fun hx=>(by cases hx),fun x hx=>⟨_,_,rfl⟩⟩
 ·exact ⟨fun hx=>(by cases hx),fun x hx=>⟨_,_,rfl⟩⟩
theorem IsF.err {a0 a1:Addr} {v:Value} {r:Option (Option Int)} (h:IsF a1 v r):IsErr a0 a1 v (if r=none then 0 else 5):=by
 rcases h.how with ⟨rfl,rfl⟩ | ⟨rfl,s,rfl⟩ | ⟨p,s,rfl,rfl⟩
 ·exact ⟨Or.inl ⟨rfl,rfl⟩⟩
 ·exact ⟨Or.inr (Or.inr (Or.inl ⟨s,rfl,rfl⟩))⟩
 ·exact ⟨Or.inr (Or.inr (Or.inr ⟨p,s,rfl,rfl⟩))⟩
/-! The rules as functions. -/
def rKind (K:Int):Option (Option Int):=if K=1∨K=2 then none else some (some 2)
def rFrom (N F:Int):Option (Option Int):=if 0≤F∧F<N then none else some (some 4)
def vbad (L K O S:Int) (i:Nat) (v:Int):Bool:=decide (v<0∨L<v∨(K=1∧(i:Int)=O∧v≠S-1))
def a4e (L K O S:Int) (vs:List Int):Option Nat:=(List.range vs.length).find? fun i=>vbad L K O S i (vs.getD i 0)
def vAt (K:Int):Int:=if K=1 then 10 else 5
def rVec (N L K O S:Int) (vs:List Int):Option (Option Int):=if (vs.length:Int)=N then (a4e L K O S vs).map fun i=>some (vAt K+2 * (i:Int)) else some none
def a4n (N L K O S Lw:Int) (vs:List Int) (body:Bool):Option (Option Int):=if O=0∧S=0∧Lw=0∧body=true then rVec N L K O S vs else some none
def rData (N W B L K O S Lw:Int) (vs:List Int) (n:Nat):Option (Option Int):=
 if ¬ (0≤O∧O<N) then some (some 5) else if S<1∨L<S then some (some 6) else if Lw<0∨S≤Lw∨Lw<S-W then some (some 8) else
 match rVec N L K O S vs with
 | some x=>some x
 | none=>if B<(n:Int) then some (some (10+2 * N)) else none
theorem ah7 {p:Nat→Bool} {n:Nat} (h:∀ i,i<n→p i=false):(List.range n).find? p=none:=by
 rw [List.find?_eq_none];intro i hi;simp [h i (by simpa using hi)]
theorem af3 {p:Nat→Bool} {n k:Nat} (hk:k<n) (hp:p k=true) (h:∀ i,i<k→p i=false):(List.range n).find? p=some k:=by
 rw [List.find?_eq_some_iff_append]
 refine ⟨hp,List.range k,(List.range (n-k-1)).map (k+1+·),?_,fun i hi=>by simp [h i (by simpa using hi)]⟩
 have e:n=k+(1+(n-k-1)):=by omega
 conv=>lhs;rw [e]
 rw [List.range_add,List.range_add]
 simp [Function.comp_def,Nat.add_assoc]
set_option maxHeartbeats 400000 in
theorem a3o (N W B L p:Int) (w:World) :
  Calls Tryz.prog 89 #[.agg #[.int .i64 N,.int .i64 W,.int .i64 B,.int .i64 L],.int .i64 p] w fun e w'=>e=.returned (.bool (decide (0≤p∧p<N)))∧Below w.heap.size w w':=by
 by_cases h1:0≤p
 ·by_cases h2:p<N
  ·rw [decide_eq_true (by exact ⟨h1,h2⟩)]
   go_enter Tryz.func89,Tryz.ntmps89
   go_wp2
   go_ret
   exact ⟨rfl,a00 _ _⟩
  ·rw [decide_eq_false (by omega)]
   go_enter Tryz.func89,Tryz.ntmps89
   go_wp2
   go_ret
   exact ⟨rfl,a00 _ _⟩
 ·rw [decide_eq_false (by omega)]
  go_enter Tryz.func89,Tryz.ntmps89
  go_wp2
  go_ret
  exact ⟨rfl,a00 _ _⟩
set_option maxHeartbeats 400000 in
theorem a2o (K:Int) (w:World) :
  Calls Tryz.prog 237 #[.int .i64 K] w fun e w'=>e=.returned (.int .i64 (vAt K))∧w'=w:=by
 by_cases h:K=1
 ·subst h
  go_enter Tryz.func237,Tryz.ntmps237
  go_wp2
  go_ret
  exact ⟨rfl,rfl⟩
 ·have hb:(K == 1)=false:=beq_eq_false_iff_ne.2 h
  have hv:vAt K=5:=if_neg h
  rw [hv]
  clear h hv
  go_enter Tryz.func237,Tryz.ntmps237
  go_wp2
  go_ret
  exact ⟨rfl,rfl⟩
set_option maxHeartbeats 400000 in
theorem aa7 (N W B L:Int) (h1:2≤N) (h2:N≤8) (w:World) :
  Calls Tryz.prog 229 #[.agg #[.int .i64 N,.int .i64 W,.int .i64 B,.int .i64 L]] w fun e w'=>e=.returned (.int .i64 (10+2 * N))∧Below w.heap.size w w':=by
 go_enter Tryz.func229,Tryz.ntmps229
 go_wp2
 go_ret
 exact ⟨rfl,a00 _ _⟩
set_option maxHeartbeats 400000 in
theorem a6n (a0 a1:Addr) (K F O S Lw:Int) (ad:Option Addr) (len cap:Nat) (body:ByteArray) (w:World) (hw:Sent w a0 a1) :
  Calls Tryz.prog 204 #[.agg #[.int .i64 K,.int .i64 F,.int .i64 O,.int .i64 S,.int .i64 Lw,.slice ad len cap,.string body]] w fun e w'=>(∃ v,e=.returned v∧IsF a1 v (rKind K))∧Below w.heap.size w w':=by
 have HW:Hid (Sent w a0 a1):=hw
 clear hw
 by_cases h1:K=1
 ·rw [show rKind K=none from if_pos (Or.inl h1)]
  subst h1
  go_enter Tryz.func204,Tryz.ntmps204
  go_wp2
  go_ret
  exact ⟨⟨_,rfl,IsF.nil a1⟩,a00 _ _⟩
 ·by_cases h2:K=2
  ·rw [show rKind K=none from if_pos (Or.inr h2)]
   subst h2
   clear h1
   go_enter Tryz.func204,Tryz.ntmps204
   go_wp2
   go_ret
   exact ⟨⟨_,rfl,IsF.nil a1⟩,a00 _ _⟩
  ·rw [show rKind K=some (some 2) from if_neg (by omega)]
   have hb1:(K != 1)=true:=bne_iff_ne.2 h1
   have hb2:(K != 2)=true:=bne_iff_ne.2 h2
   clear h1 h2
   go_enter Tryz.func204,Tryz.ntmps204
   go_wp2_with (go_at_call 209;refine (a0n a0 a1 _ _ _ (HW.out.alloc _)).mono ?_;rintro e w' ⟨rfl,rfl⟩)
   go_ret
   exact ⟨⟨_,rfl,IsF.at a1 _ _⟩,a00 _ _⟩
set_option maxHeartbeats 400000 in
theorem a6h (a0 a1:Addr) (N W B L K F O S Lw:Int) (ad:Option Addr) (len cap:Nat) (body:ByteArray) (w:World) (hw:Sent w a0 a1) :
  Calls Tryz.prog 205 #[.agg #[.int .i64 N,.int .i64 W,.int .i64 B,.int .i64 L],.agg #[.int .i64 K,.int .i64 F,.int .i64 O,.int .i64 S,.int .i64 Lw,.slice ad len cap,.string body]] w fun e w'=>(∃ v,e=.returned v∧IsF a1 v (rFrom N F))∧Below w.heap.size w w':=by
 have HW:Hid (Sent w a0 a1):=hw
 clear hw
 by_cases h:0≤F∧F<N
 ·rw [show rFrom N F=none from if_pos h]
  have hd:decide (0≤F∧F<N)=true:=decide_eq_true h
  clear h
  go_enter Tryz.func205,Tryz.ntmps205
  go_wp2_with fail
  refine (a3o N W B L F _).mono ?_
  rintro e w' ⟨rfl,hb⟩
  have HB:Hid _:=hb
  clear hb
  rw [hd]
  go_wp2
  go_ret
  exact ⟨⟨_,rfl,IsF.nil a1⟩,bthen (a09 _ _ _) HB.out⟩
 ·rw [show rFrom N F=some (some 4) from if_neg h]
  have hd:decide (0≤F∧F<N)=false:=decide_eq_false h
  clear h
  go_enter Tryz.func205,Tryz.ntmps205
  go_wp2_with fail
  refine (a3o N W B L F _).mono ?_
  rintro e w' ⟨rfl,hb⟩
  have HB:Hid _:=hb
  clear hb
  rw [hd]
  go_wp2_with (go_at_call 209;refine (a0n a0 a1 _ _ _ (((HW.out.alloc _).alloc _).below HB.out)).mono ?_;rintro e w' ⟨rfl,rfl⟩)
  go_ret
  exact ⟨⟨_,rfl,IsF.at a1 _ _⟩,bthen (a09 _ _ _) HB.out⟩
def RowI (w:World) (g:Nat) (zs:List Int):Prop:=w.heap[g]?=some (.cells (zs.map (Value.int .i64)).toArray 3 (0,0))
theorem RowI.cell {w:World} {g:Nat} {zs:List Int} (h:RowI w g zs) {j:Nat} (hj:j<zs.length):w.cell? ⟨g,j,none⟩=some (.int .i64 (zs.getD j 0)):=by
 rw [cell_of_row w g j _ 3 (0,0) h]
 simp [List.getD_eq_getElem?_getD,hj]
theorem RowI.free {w:World} {g:Nat} {zs:List Int} (h:RowI w g zs) (j:Nat):w.frozen? ⟨g,j,none⟩=false:=frozen_of_row w g j _ 3 h
theorem RowI.set {w:World} {g:Nat} {zs:List Int} (h:RowI w g zs) (j:Nat) (x:Int):RowI (w.setCell ⟨g,j,none⟩ (.int .i64 x)) g (zs.set j x):=by
 have:=heap_setCell_same w g j _ 3 (.int .i64 x) h
 unfold RowI
 rw [this]
 simp
theorem RowI.below {w w':World} {g:Nat} {zs:List Int} (h:RowI w g zs) {B:Nat} (hb:Below B w w') (hg:g<B):RowI w' g zs:=(hb.block g hg).trans h
theorem RowI.lt {w:World} {g:Nat} {zs:List Int} (h:RowI w g zs):g<w.heap.size:=lt_of_some h
theorem RowI.ints {w:World} {g:Nat} {vs ms:List Int} (h:RowI w g (vs++ms)):Ints w (some ⟨g,0,none⟩) vs.length vs:=
 ⟨rfl,fun i hi=>⟨g,0,rfl,h.lt,by
  have:=h.cell (j:=i) (by simp;omega)
  rw [Nat.zero_add,this]
  simp [List.getD_eq_getElem?_getD,List.getElem?_append_left hi]⟩⟩
structure Alike (w w':World) (E:Nat→Prop):Prop where
 size:w.heap.size≤w'.heap.size
 block:∀ k,k<w.heap.size→¬ E k→w'.heap[k]?=w.heap[k]?
 same:w'.os=w.os∧w'.tape=w.tape∧w'.output=w.output
theorem Alike.refl (w:World) (E:Nat→Prop):Alike w w E:=⟨Nat.le_refl _,fun _ _ _=>rfl,rfl,rfl,rfl⟩
theorem Alike.trans {w w' w'':World} {E E':Nat→Prop} (h:Alike w w' E) (h':Alike w' w'' E') (hE:∀ k,k<w.heap.size→E' k→E k):Alike w w'' E:=
 ⟨Nat.le_trans h.size h'.size,fun k hk hn=>(h'.block k (Nat.lt_of_lt_of_le hk h.size) (fun he=>hn (hE k hk he))).trans (h.block k hk hn),h'.same.1.trans h.same.1,h'.same.2.1.trans h.same.2.1,h'.same.2.2.trans h.same.2.2⟩
theorem Alike.of_below {w w':World} (h:Below w.heap.size w w') (E:Nat→Prop):Alike w w' E:=⟨h.size,fun k hk _=>h.block k hk,h.os,h.tape,h.output⟩
theorem Alike.a2h {w w':World} {row:Option Nat} (h:w.grownBy w' row):Alike w w' (fun k=>row=some k):=by
 obtain ⟨h1,h2,h3,hs,hb⟩:=h
 exact ⟨hs,fun k hk hn=>hb k hk (fun e=>hn e.symm),h1,h2,h3⟩
theorem Alike.alloc (w:World) (o:Obj) (E:Nat→Prop):Alike w (w.alloc o) E:=⟨by simp,fun k hk _=>Below.heap_alloc _ _ _ hk,rfl,rfl,rfl⟩
theorem Alike.setCell (w:World) (a:Addr) (v:Value):Alike w (w.setCell a v) (fun k=>k=a.block):=⟨by simp [World.setCell],fun k _ hn=>heap_setCell_other w a k v hn,rfl,rfl,rfl⟩
theorem Alike.cell {w w':World} {E:Nat→Prop} (h:Alike w w' E) {b i:Nat} {v:Value} (hc:w.cell? ⟨b,i,none⟩=some v) (hE:¬ E b):w'.cell? ⟨b,i,none⟩=some v:=by
 rw [World.cell?_of_block (w:=w) (h.block b (lt_of_cell hc) hE)];exact hc
theorem Alike.frozen {w w':World} {E:Nat→Prop} (h:Alike w w' E) {b i:Nat} (hb:b<w.heap.size) (hf:w.frozen? ⟨b,i,none⟩=false) (hE:¬ E b):w'.frozen? ⟨b,i,none⟩=false:=by
 rw [World.frozen?_of_block (w:=w) (h.block b hb hE)];exact hf
structure NB (w:World) (b:Nat) (n:Nat) (W B L:Int) (p:Nat) (gv:Nat):Prop where
 c0:w.cell? ⟨b,0,none⟩=some (.int .i64 (n:Int))
 c1:w.cell? ⟨b,1,none⟩=some (.int .i64 W)
 c2:w.cell? ⟨b,2,none⟩=some (.int .i64 B)
 c3:w.cell? ⟨b,3,none⟩=some (.int .i64 L)
 c4:w.cell? ⟨b,4,none⟩=some (.int .i64 (p:Int))
 c5:w.cell? ⟨b,5,none⟩=some (.slice (some ⟨gv,0,none⟩) n n)
 ty:∃ cur,w.heap[b]?=some (.cells cur 149 (0,0))
structure NVw (w:World) (gv n:Nat) (rows:List Nat) (vs:List (List Int)):Prop where
 row:∀ q,q<n→w.cell? ⟨gv,q,none⟩=some (.slice (some ⟨rows.getD q 0,0,none⟩) n n)
 ty:∃ cur,w.heap[gv]?=some (.cells cur 34 (0,0))
 each:∀ q,q<n→RowI w (rows.getD q 0) (vs.getD q [])
 rlen:rows.length=n
 vlen:vs.length=n
 elen:∀ q,q<n→(vs.getD q []).length=n
 nodup:rows.Nodup
theorem ty_ne {w:World} {j k:Nat} {c c':Array Value} {t t':TypeId} {f f':Nat × Nat} (h:w.heap[j]?=some (.cells c t f)) (h':w.heap[k]?=some (.cells c' t' f')) (ht:t≠t'):j≠k:=by
 rintro rfl
 rw [h] at h'
 cases h'
 exact ht rfl
theorem NB.alike {w w':World} {b n:Nat} {W B L:Int} {p gv:Nat} {E:Nat→Prop} (h:NB w b n W B L p gv) (ha:Alike w w' E) (hE:¬ E b):NB w' b n W B L p gv:=by
 obtain ⟨c0,c1,c2,c3,c4,c5,cur,ht⟩:=h
 exact ⟨ha.cell c0 hE,ha.cell c1 hE,ha.cell c2 hE,ha.cell c3 hE,ha.cell c4 hE,ha.cell c5 hE,cur,(ha.block b (lt_of_some ht) hE).trans ht⟩
theorem NVw.alike {w w':World} {gv n:Nat} {rows:List Nat} {vs:List (List Int)} {E:Nat→Prop} (h:NVw w gv n rows vs) (ha:Alike w w' E) (hg:¬ E gv) (hr:∀ q,q<n→¬ E (rows.getD q 0)):NVw w' gv n rows vs:=by
 obtain ⟨cur,ht⟩:=h.ty
 exact ⟨fun q hq=>ha.cell (h.row q hq) hg,⟨cur,(ha.block gv (lt_of_some ht) hg).trans ht⟩,fun q hq=>(ha.block _ (h.each q hq).lt (hr q hq)).trans (h.each q hq),h.rlen,h.vlen,h.elen,h.nodup⟩
theorem NVw.cell {w:World} {gv n:Nat} {rows:List Nat} {vs:List (List Int)} (h:NVw w gv n rows vs) {q o:Nat} (hq:q<n) (ho:o<n):w.cell? ⟨rows.getD q 0,o,none⟩=some (.int .i64 (vw vs q o)):=
 (h.each q hq).cell (by rw [h.elen q hq];exact ho)
theorem NVw.set {w:World} {gv n:Nat} {rows:List Nat} {vs:List (List Int)} (h:NVw w gv n rows vs) {q o:Nat} (hq:q<n) (x:Int):NVw (w.setCell ⟨rows.getD q 0,o,none⟩ (.int .i64 x)) gv n rows (vset vs q o x):=by
 obtain ⟨cur,ht⟩:=h.ty
 have hv:=h.vlen
 have hr:=h.rlen
 have hne:gv≠rows.getD q 0:=ty_ne ht (h.each q hq) (by decide)
 have ha:=Alike.setCell w ⟨rows.getD q 0,o,none⟩ (.int .i64 x)
 have hget:∀ j,j<n→(vset vs q o x).getD j []=if q=j then (vs.getD q []).set o x else vs.getD j []:=fun j hj=>by
  unfold vset
  rw [a1q]
  by_cases e:q=j
  ·rw [if_pos ⟨e,by omega⟩,if_pos e]
  ·rw [if_neg (fun c=>e c.1),if_neg e]
 refine ⟨fun j hj=>ha.cell (h.row j hj) hne,⟨cur,(ha.block gv (lt_of_some ht) hne).trans ht⟩,fun j hj=>?_,hr,by unfold vset;simpa using hv,fun j hj=>?_,h.nodup⟩
 ·rw [hget j hj]
  by_cases e:q=j
  ·subst e
   rw [if_pos rfl]
   exact (h.each q hq).set o x
  ·rw [if_neg e]
   refine (ha.block _ (h.each j hj).lt ?_).trans (h.each j hj)
   intro c
   have c':rows.getD j 0=rows.getD q 0:=c
   rw [List.getD_eq_getElem?_getD,List.getD_eq_getElem?_getD,List.getElem?_eq_getElem (by omega),List.getElem?_eq_getElem (by omega)] at c'
   exact e ((List.getElem_inj h.nodup).1 c').symm
 ·rw [hget j hj]
  split
  ·rw [List.length_set];exact h.elen q hq
  ·exact h.elen j hj
set_option maxHeartbeats 1000000 in
theorem a2x (b n:Nat) (W B L:Int) (p gv:Nat) (rows:List Nat) (vs:List (List Int)) (w:World) (hb:NB w b n W B L p gv) (hv:NVw w gv n rows vs) (hp:p<n) :
  Calls Tryz.prog 102 #[.pointer (some ⟨b,0,none⟩)] w fun e w'=>e=.returned (.slice (some ⟨rows.getD p 0,0,none⟩) n n)∧∃ m,w'=w.drewN m:=by
 have hr:=hv.row p hp
 obtain ⟨c0,c1,c2,c3,c4,c5,_⟩:=hb
 have hpi:(p:Int)<(n:Int):=by omega
 clear hv
 go_enter Tryz.func102,Tryz.ntmps102
 go_wp2_with fail
 go_quiet (fail)
 go_wp2_with fail
 go_ret
 exact ⟨rfl,_,rfl⟩
set_option maxHeartbeats 2000000 in
theorem am7 (b n:Nat) (W B L:Int) (p gv:Nat) (rows:List Nat) (vs:List (List Int)) (q o:Nat) (x:Int) (w:World) (hb:NB w b n W B L p gv) (hv:NVw w gv n rows vs) (hq:q<n) (ho:o<n) :
  Calls Tryz.prog 197 #[.pointer (some ⟨b,0,none⟩),.int .i64 (q:Int),.int .i64 (o:Int),.int .i64 x] w
   fun e w'=>e=.returned (.tuple #[])∧NVw w' gv n rows (vset vs q o (imax (vw vs q o) x))∧Alike w w' (fun k=>k=rows.getD q 0):=by
 have hr:=hv.row q hq
 have hc:=hv.cell hq ho
 have hf:=(hv.each q hq).free o
 have HV:Hid _:=hv.set (o:=o) hq (imax (vw vs q o) x)
 obtain ⟨c0,c1,c2,c3,c4,c5,_⟩:=hb
 have hqi:(q:Int)<(n:Int):=by omega
 have hoi:(o:Int)<(n:Int):=by omega
 generalize vw vs q o=y at *
 generalize rows.getD q 0=g at *
 clear hv
 go_enter Tryz.func197,Tryz.ntmps197
 go_wp2_with fail
 go_region
 generalize hm:(if y<x then x else y)=m
 have hm':imax y x=m:=hm
 rw [hm'] at HV
 clear hm
 go_wp2_with fail
 refine bodyPost_end (v:=.tuple #[]) (by simp [results,Tryz.results197,go_sem]) rfl ⟨rfl,?_,?_⟩
 ·rw [hm']
  exact HV.out.alike (E:=fun _=>False) (Alike.of_below (Below.refl _ _).drew _) (fun h=>h) (fun _ _ h=>h)
 ·exact (Alike.setCell _ _ _).trans (E':=fun _=>False) (Alike.of_below (Below.refl _ _).drew _) (fun _ _ h=>h.elim)
set_option maxHeartbeats 2000000 in
theorem an2 (b n:Nat) (W B L:Int) (p gv:Nat) (rows:List Nat) (vs:List (List Int)) (o:Nat) (w:World) (hb:NB w b n W B L p gv) (hv:NVw w gv n rows vs) (ho:o<n) (hn:n≤8) :
  Calls Tryz.prog 188 #[.pointer (some ⟨b,0,none⟩),.int .i64 (o:Int)] w fun e w'=>e=.returned (.int .i64 (lowTo vs L o n))∧w'=w:=by
 have HV:Hid _:=hv
 obtain ⟨c0,c1,c2,c3,c4,c5,_⟩:=hb
 have hoi:(o:Int)<(n:Int):=by omega
 clear hv
 go_enter Tryz.func188,Tryz.ntmps188
 go_wp2_with fail
 go_loop [5,18] (fun c d=>∃ k:Nat,k≤n∧d=.int .i64 k∧c=.int .i64 (lowTo vs L o k)) (fun _ d=>n-(intOf d).toNat)
 case atStart=>exact ⟨0,Nat.zero_le _,rfl,rfl⟩
 case round =>
  obtain ⟨k,hkn,rfl,rfl⟩:=hrel
  by_cases hlt:k<n
  ·have hr:=HV.out.row k hlt
   have hc:=HV.out.cell hlt ho
   have hki:(k:Int)<(n:Int):=by omega
   have HL:Hid (lowTo vs L o (k+1)=if vw vs k o<lowTo vs L o k then vw vs k o else lowTo vs L o k):=rfl
   generalize lowTo vs L o k=x at *
   generalize vw vs k o=y at *
   generalize rows.getD k 0=g at *
   go_wp2_with fail
   go_round
   case rel=>exact ⟨k+1,by omega,by go_num,by rw [HL.out]⟩
   case measure=>simp [intOf];omega
  ·have hkn':k=n:=by omega
   subst hkn'
   go_wp2_with fail
   go_ret
   exact ⟨rfl,rfl⟩
set_option maxHeartbeats 2000000 in
theorem a8i (b n:Nat) (W B L:Int) (p gv:Nat) (rows:List Nat) (vs:List (List Int)) (q:Nat) (ad:Option Addr) (cap:Nat) (v:List Int) (w:World) (hb:NB w b n W B L p gv) (hv:NVw w gv n rows vs) (hq:q<n) (hi:Ints w ad n v) (hn:n≤8) (hne:∀ c off,ad=some ⟨c,off,none⟩→c≠rows.getD q 0) :
  Calls Tryz.prog 156 #[.pointer (some ⟨b,0,none⟩),.int .i64 (q:Int),.slice ad n cap] w
   fun e w'=>e=.returned (.tuple #[])∧NVw w' gv n rows (a1n vs q v n)∧Alike w w' (fun k=>k=rows.getD q 0):=by
 have HV:Hid _:=hv
 have HB:Hid _:=hb
 have HI:Hid _:=hi
 have HNb:Hid (b≠rows.getD q 0):=by
  obtain ⟨cur,ht⟩:=hb.ty
  exact ty_ne ht (hv.each q hq) (by decide)
 clear hv hb hi
 go_enter Tryz.func156,Tryz.ntmps156
 go_wp2_with fail
 go_loopw [10] (fun c wr=>∃ k:Nat,k≤n∧c=.int .i64 k∧NVw wr gv n rows (a1n vs q v k)∧Alike w wr (fun k=>k=rows.getD q 0)) (fun c _=>n-(intOf c).toNat)
 case atStart=>exact ⟨0,Nat.zero_le _,rfl,HV.out,Alike.refl _ _⟩
 case round =>
  obtain ⟨k,hkn,rfl,hvr,har⟩:=hrel
  have HVr:Hid _:=hvr
  have HAr:Hid _:=har
  clear hvr har
  by_cases hlt:k<n
  ·obtain ⟨c,off,rfl,_,hc0⟩:=HI.out.cell k hlt
   have hc:wr.cell? ⟨c,off+k,none⟩=some (.int .i64 (v.getD k 0)):=HAr.out.cell hc0 (fun h=>hne c off rfl h)
   clear hc0
   have hki:(k:Int)<(n:Int):=by omega
   generalize hx:v.getD k 0=x at *
   go_wp2_with fail
   refine (am7 b n W B L p gv rows (a1n vs q v k) q k x wr (HB.out.alike HAr.out HNb.out) HVr.out hq hlt).mono ?_
   rintro e w1 ⟨rfl,hv1,ha1⟩
   have HV1:Hid _:=hv1
   have HA1:Hid _:=ha1
   clear hv1 ha1 hc
   go_wp2_with fail
   go_roundw
   case rel=>exact ⟨k+1,by omega,by go_num,by unfold a1n;rw [hx];exact HV1.out,HAr.out.trans HA1.out (fun _ _ h=>h)⟩
   case measure=>simp [intOf];omega
  ·have hkn':k=n:=by omega
   subst hkn'
   go_wp2_with fail
   refine bodyPost_end (v:=.tuple #[]) (by simp [results,Tryz.results156,go_sem]) rfl ⟨rfl,HVr.out,HAr.out⟩
set_option maxHeartbeats 2000000 in
theorem ai9 (b n:Nat) (W B L:Int) (p gv:Nat) (rows:List Nat) (vs:List (List Int)) (o:Nat) (x:Int) (w:World) (hb:NB w b n W B L p gv) (hv:NVw w gv n rows vs) (ho:o<n) (hn:n≤8) :
  Calls Tryz.prog 195 #[.pointer (some ⟨b,0,none⟩),.int .i64 (o:Int),.int .i64 x] w
   fun e w'=>e=.returned (.tuple #[])∧NVw w' gv n rows (vlow vs p o x n)∧Alike w w' (fun k=>∃ q,q<n∧q≠p∧k=rows.getD q 0):=by
 have HV:Hid _:=hv
 have HB:Hid _:=hb
 have HNb:Hid (∀ q,q<n→b≠rows.getD q 0):=fun q hq=>by
  obtain ⟨cur,ht⟩:=hb.ty
  exact ty_ne ht (hv.each q hq) (by decide)
 obtain ⟨c0,c1,c2,c3,c4,c5,_⟩:=hb
 clear hv
 go_enter Tryz.func195,Tryz.ntmps195
 go_wp2_with fail
 go_loopw [12] (fun c wr=>∃ k:Nat,k≤n∧c=.int .i64 k∧NVw wr gv n rows (vlow vs p o x k)∧Alike w wr (fun k=>∃ q,q<n∧q≠p∧k=rows.getD q 0)) (fun c _=>n-(intOf c).toNat)
 case atStart=>exact ⟨0,Nat.zero_le _,rfl,HV.out,Alike.refl _ _⟩
 case round =>
  obtain ⟨k,hkn,rfl,hvr,har⟩:=hrel
  have HVr:Hid _:=hvr
  have HAr:Hid _:=har
  clear hvr har
  have HBr:Hid (NB wr b n W B L p gv):=HB.out.alike HAr.out (fun ⟨q,hq,_,he⟩=>HNb.out q hq he)
  have d4:=HBr.out.c4
  by_cases hlt:k<n
  ·have hki:(k:Int)<(n:Int):=by omega
   by_cases hkp:k=p
   ·subst hkp
    have hne:((k:Int) != k)=false:=by simp
    go_wp2_with fail
    go_roundw
    case rel=>exact ⟨k+1,by omega,by go_num,by unfold vlow;rw [if_pos rfl];exact HVr.out,HAr.out⟩
    case measure=>simp [intOf];omega
   ·have hne:((k:Int) != p)=true:=by simp;omega
    go_wp2_with fail
    refine (am7 b n W B L p gv rows (vlow vs p o x k) k o x wr HBr.out HVr.out hlt ho).mono ?_
    rintro e w1 ⟨rfl,hv1,ha1⟩
    have HV1:Hid _:=hv1
    have HA1:Hid _:=ha1
    clear hv1 ha1
    go_wp2_with fail
    go_roundw
    case rel=>exact ⟨k+1,by omega,by go_num,by unfold vlow;rw [if_neg hkp];exact HV1.out,HAr.out.trans HA1.out (fun j _ h=>⟨k,hlt,hkp,h⟩)⟩
    case measure=>simp [intOf];omega
  ·have hkn':k=n:=by omega
   subst hkn'
   go_wp2_with fail
   refine bodyPost_end (v:=.tuple #[]) (by simp [results,Tryz.results195,go_sem]) rfl ⟨rfl,HVr.out,HAr.out⟩
structure Seven (g:Nat) (x:World) (v0 v1 v2 v3 v4 v5 v6:Value):Prop where
 c0:x.cell? ⟨g,0,none⟩=some v0
 c1:x.cell? ⟨g,1,none⟩=some v1
 c2:x.cell? ⟨g,2,none⟩=some v2
 c3:x.cell? ⟨g,3,none⟩=some v3
 c4:x.cell? ⟨g,4,none⟩=some v4
 c5:x.cell? ⟨g,5,none⟩=some v5
 c6:x.cell? ⟨g,6,none⟩=some v6
 z:g<x.heap.size
theorem Seven.below {g:Nat} {x y:World} {v0 v1 v2 v3 v4 v5 v6:Value} (h:Seven g x v0 v1 v2 v3 v4 v5 v6) {c:Nat} (hb:Below c x y) (hz:g<c):Seven g y v0 v1 v2 v3 v4 v5 v6:=by
 have e:∀ (i:Nat),y.cell? ⟨g,i,none⟩=x.cell? ⟨g,i,none⟩:=fun i=>hb.cell (p:=⟨g,i,none⟩) hz
 exact ⟨(e _).trans h.c0,(e _).trans h.c1,(e _).trans h.c2,(e _).trans h.c3,(e _).trans h.c4,(e _).trans h.c5,(e _).trans h.c6,Nat.lt_of_lt_of_le h.z hb.size⟩
theorem a05 (w:World) (v0 v1 v2 v3 v4 v5 v6:Value) (t:TypeId):Seven w.heap.size (w.alloc (.cells #[v0,v1,v2,v3,v4,v5,v6] t)) v0 v1 v2 v3 v4 v5 v6:=by
 have e:∀ i,(w.alloc (.cells #[v0,v1,v2,v3,v4,v5,v6] t)).cell? ⟨w.heap.size,i,none⟩=#[v0,v1,v2,v3,v4,v5,v6][i]?:=fun i=>cell_of_row _ _ i _ t (0,0) (heap_alloc_new _ _)
 exact ⟨e 0,e 1,e 2,e 3,e 4,e 5,e 6,by simp⟩
structure Fr where
 kind:Int
 frm:Int
 org:Int
 seq:Int
 low:Int
 ad:Option Addr
 cap:Nat
 vec:List Int
 body:ByteArray
def Fr.cells (n:Nat) (f:Fr):List Value:=[.int .i64 f.kind,.int .i64 f.frm,.int .i64 f.org,.int .i64 f.seq,.int .i64 f.low,.slice f.ad n f.cap,.string f.body]
def Fr.agg (n:Nat) (f:Fr):Value:=.agg #[.int .i64 f.kind,.int .i64 f.frm,.int .i64 f.org,.int .i64 f.seq,.int .i64 f.low,.slice f.ad n f.cap,.string f.body]
def frow (n:Nat) (fs:List Fr):List Value:=fs.flatMap (Fr.cells n)
theorem a0e (n:Nat) (fs:List Fr):(frow n fs).length=7 * fs.length:=by
 induction fs with
 | nil=>rfl
 | cons f fs ih =>
  show (Fr.cells n f++frow n fs).length=_
  rw [List.length_append,ih];simp [Fr.cells];omega
theorem a1e (n:Nat) (fs gs:List Fr):frow n (fs++gs)=frow n fs++frow n gs:=by simp [frow]
theorem b4p (n:Nat) (fs:List Fr) (i j:Nat) (hi:i<fs.length) (hj:j<7):(frow n fs)[7 * i+j]?=(Fr.cells n fs[i])[j]?:=by
 conv=>lhs;rw [←List.take_append_drop i fs,List.drop_eq_getElem_cons hi,a1e]
 rw [List.getElem?_append_right (by rw [a0e,List.length_take];omega),a0e,List.length_take]
 show (Fr.cells n fs[i]++frow n (fs.drop (i+1)))[_]?=_
 rw [List.getElem?_append_left (by simp [Fr.cells];omega)]
 congr 1
 omega
structure Frs (w:World) (n:Nat) (ad:Option Addr) (len cap:Nat) (fs:List Fr):Prop where
 flen:fs.length=len
 own:w.ownsRow 0 45 7 (.slice ad len cap) len (frow n fs)
theorem Frs.block {w:World} {n:Nat} {ad:Option Addr} {len cap:Nat} {fs:List Fr} (h:Frs w n ad len cap fs) (h0:0<len):∃ g cur,ad=some ⟨g,0,none⟩∧w.heap[g]?=some (.cells cur 45 (0,0)):=by
 rcases h.own.2 with ⟨_,he⟩ | ⟨g,cap',cur,he,_,hg,_⟩
 ·omega
 ·cases he
  exact ⟨g,cur,rfl,hg⟩
theorem Frs.cell {w:World} {n:Nat} {g len cap:Nat} {fs:List Fr} (h:Frs w n (some ⟨g,0,none⟩) len cap fs) {i:Nat} (hi:i<len) (j:Nat) (hj:j<7):w.cell? ⟨g,7 * i+j,none⟩=(Fr.cells n (fs[i]'(by rw [h.flen];exact hi)))[j]?:=by
 have hl:=h.flen
 rw [World.ownsRow.cellAt h.own (7 * i+j) (by omega),b4p n fs i j (by omega) hj]
theorem Frs.seven {w:World} {n:Nat} {g len cap:Nat} {fs:List Fr} (h:Frs w n (some ⟨g,0,none⟩) len cap fs) {i:Nat} (hi:i<len) {f:Fr} (hf:fs[i]?=some f) :
  w.cell? ⟨g,i * 7,none⟩=some (.int .i64 f.kind)∧w.cell? ⟨g,i * 7+1,none⟩=some (.int .i64 f.frm)∧w.cell? ⟨g,i * 7+2,none⟩=some (.int .i64 f.org)∧w.cell? ⟨g,i * 7+3,none⟩=some (.int .i64 f.seq)∧w.cell? ⟨g,i * 7+4,none⟩=some (.int .i64 f.low)∧w.cell? ⟨g,i * 7+5,none⟩=some (.slice f.ad n f.cap)∧w.cell? ⟨g,i * 7+6,none⟩=some (.string f.body):=by
 have hl:=h.flen
 have hfi:fs[i]'(by omega)=f:=by rw [List.getElem?_eq_getElem (by omega)] at hf;exact Option.some.inj hf
 have e:∀ j,j<7→w.cell? ⟨g,i * 7+j,none⟩=(Fr.cells n f)[j]?:=fun j hj=>by
  have:=h.cell hi j hj
  rw [hfi] at this
  rw [Nat.mul_comm i 7];exact this
 exact ⟨e 0 (by omega),e 1 (by omega),e 2 (by omega),e 3 (by omega),e 4 (by omega),e 5 (by omega),e 6 (by omega)⟩
set_option maxHeartbeats 1000000 in
theorem aj8 (b n:Nat) (W B L:Int) (p gv:Nat) (rows:List Nat) (vs:List (List Int)) (pb:Nat) (f:Fr) (o:Nat) (ho:f.org=o) (hon:o<n) (hn:n≤8) (w:World) (hb:NB w b n W B L p gv) (hv:NVw w gv n rows vs) (hp:w.cell? ⟨pb,0,none⟩=some (.pointer (some ⟨b,0,none⟩))) :
  Calls Tryz.prog 193 #[Fr.agg n f,.pointer (some ⟨pb,0,none⟩)] w fun e w'=>e=.returned (.bool (decide (f.seq≤lowTo vs L o n)))∧Below w.heap.size w w':=by
 have hbox:=a05 w (.int .i64 f.kind) (.int .i64 f.frm) (.int .i64 f.org) (.int .i64 f.seq) (.int .i64 f.low) (.slice f.ad n f.cap) (.string f.body) 45
 have hal:=a00 w (.cells #[.int .i64 f.kind,.int .i64 f.frm,.int .i64 f.org,.int .i64 f.seq,.int .i64 f.low,.slice f.ad n f.cap,.string f.body] 45)
 have HLo:Hid (∀ m,Calls Tryz.prog 188 #[.pointer (some ⟨b,0,none⟩),.int .i64 (o:Int)] ((w.alloc (.cells #[.int .i64 f.kind,.int .i64 f.frm,.int .i64 (o:Int),.int .i64 f.seq,.int .i64 f.low,.slice f.ad n f.cap,.string f.body] 45)).drewN m) fun e w'=>e=.returned (.int .i64 (lowTo vs L o n))∧w'=(w.alloc (.cells #[.int .i64 f.kind,.int .i64 f.frm,.int .i64 (o:Int),.int .i64 f.seq,.int .i64 f.low,.slice f.ad n f.cap,.string f.body] 45)).drewN m):=fun m=>by
  have ha:Alike w ((w.alloc (.cells #[.int .i64 f.kind,.int .i64 f.frm,.int .i64 (o:Int),.int .i64 f.seq,.int .i64 f.low,.slice f.ad n f.cap,.string f.body] 45)).drewN m) (fun _=>False):=Alike.of_below (below_drewN (a00 _ _) m) _
  exact an2 b n W B L p gv rows vs o _ (hb.alike ha (fun h=>h)) (hv.alike ha (fun h=>h) (fun _ _ h=>h)) hon hn
 unfold Fr.agg
 rw [ho] at hal ⊢
 have hpb:pb<w.heap.size:=lt_of_cell hp
 have hp':(w.alloc (.cells #[.int .i64 f.kind,.int .i64 f.frm,.int .i64 (o:Int),.int .i64 f.seq,.int .i64 f.low,.slice f.ad n f.cap,.string f.body] 45)).cell? ⟨pb,0,none⟩=some (.pointer (some ⟨b,0,none⟩)):=(hal.cell (p:=⟨pb,0,none⟩) hpb).trans hp
 clear hb hv hbox
 have HAL:Hid _:=hal
 clear hal
 generalize lowTo vs L o n=lo at *
 go_enter Tryz.func193,Tryz.ntmps193
 go_wp2_with fail
 go_quiet (first|(go_at_call 188;exact Calls.quiet_of_same (HLo.out _)))
 go_wp2_with fail
 go_ret
 exact ⟨rfl,below_drewN HAL.out _⟩
theorem Frs.low {w w':World} {n:Nat} {ad:Option Addr} {len cap:Nat} {fs:List Fr} (h:Frs w n ad len cap fs) (hb:Below w.heap.size w w'):Frs w' n ad len cap fs:=by
 refine ⟨h.flen,h.own.1,?_⟩
 rcases h.own.2 with h | ⟨g,cap',cur,he,hg,hh,hr⟩
 ·exact Or.inl h
 ·exact Or.inr ⟨g,cap',cur,he,hg,(hb.block g (lt_of_some hh)).trans hh,hr⟩
def idxI:Option Nat→Int
 | some i=>(i:Int)
 | none=>-1
theorem ah0 {fs:List Fr} {D:Fr→Bool} {k:Nat} {f:Fr} (h:∀ j f,j<k→fs[j]?=some f→D f=false) (hf:fs[k]?=some f) (hD:D f=true):fs.findIdx? D=some k:=by
 obtain ⟨hk,he⟩:=List.getElem?_eq_some_iff.1 hf
 rw [List.findIdx?_eq_some_iff_getElem]
 refine ⟨hk,by rw [he];exact hD,fun j hj=>?_⟩
 simpa using h j _ hj (List.getElem?_eq_getElem (by omega))
theorem ag4 {fs:List Fr} {D:Fr→Bool} (h:∀ (j:Nat) f,fs[j]?=some f→D f=false):fs.findIdx? D=none:=by
 rw [List.findIdx?_eq_none_iff]
 intro f hf
 obtain ⟨j,hj⟩:=List.mem_iff_getElem?.1 hf
 exact h j f hj
set_option maxHeartbeats 2000000 in
theorem ac6 (n:Nat) (ad:Option Addr) (len cap:Nat) (fs:List Fr) (D:Fr→Bool) (pb:Nat) (w:World) (hr:Frs w n ad len cap fs) (hl:len≤1000)
  (hD:∀ x f,Below w.heap.size w x→f∈fs→Calls Tryz.prog 193 #[Fr.agg n f,.pointer (some ⟨pb,0,none⟩)] x fun e w'=>e=.returned (.bool (D f))∧Below x.heap.size x w') :
  Calls Tryz.prog 223 #[.slice ad len cap,.func (.func 193) #[] #[.pointer (some ⟨pb,0,none⟩)]] w
   fun e w'=>e=.returned (.int .i64 (idxI (fs.findIdx? D)))∧Below w.heap.size w w':=by
 have HR:Hid _:=hr
 have HD:Hid _:=hD
 clear hr hD
 go_enter Tryz.func223,Tryz.ntmps223
 go_wp2_with fail
 go_loopw [8] (fun c wr=>∃ k:Nat,k≤len∧c=.int .i64 k∧(∀ j f,j<k→fs[j]?=some f→D f=false)∧Below w.heap.size w wr) (fun c _=>len-(intOf c).toNat)
 case atStart=>exact ⟨0,Nat.zero_le _,rfl,fun j f h=>absurd h (Nat.not_lt_zero _),Below.refl _ _⟩
 case round =>
  obtain ⟨k,hkn,rfl,hno,hbel⟩:=hrel
  have HNo:Hid _:=hno
  have HBel:Hid _:=hbel
  clear hno hbel
  by_cases hlt:k<len
  ·obtain ⟨g,cur,rfl,_⟩:=HR.out.block (by omega)
   have hfl:=HR.out.flen
   obtain ⟨f,hf⟩:∃ f,fs[k]?=some f:=⟨fs[k]'(by omega),List.getElem?_eq_getElem _⟩
   obtain ⟨s0,s1,s2,s3,s4,s5,s6⟩:=(HR.out.low HBel.out).seven hlt hf
   have hki:(k:Int)<(len:Int):=by omega
   go_wp2_with fail
   refine (HD.out wr f HBel.out (List.mem_of_getElem? hf)).mono ?_
   rintro e w1 ⟨rfl,hb1⟩
   have HB1:Hid _:=bthen HBel.out hb1
   clear hb1 s0 s1 s2 s3 s4 s5 s6
   cases hDf:D f with
   | true =>
    go_wp2_with fail
    go_ret
    refine ⟨?_,HB1.out⟩
    rw [ah0 HNo.out hf hDf]
    rfl
   | false =>
    go_wp2_with fail
    go_roundw
    case rel=>exact ⟨k+1,by omega,by go_num,fun j f' hj hf'=>by
     rcases Nat.lt_or_ge j k with h | h
     ·exact HNo.out j f' h hf'
     ·obtain rfl:j=k:=by omega
      rw [hf] at hf'
      cases hf'
      exact hDf,HB1.out⟩
    case measure=>simp [intOf];omega
  ·have hkn':k=len:=by omega
   subst hkn'
   go_wp2_with fail
   go_ret
   refine ⟨?_,HBel.out⟩
   rw [ag4 (fs:=fs) (D:=D) (fun j f hf=>HNo.out j f (by have:=HR.out.flen;have:=(List.getElem?_eq_some_iff.1 hf).1;omega) hf)]
   rfl
theorem au0 (n:Nat) (f:Fr):∀ (fs:List Fr) (i:Nat),i<fs.length→frow n (fs.set i f)=(((((((frow n fs).set (i * 7) (.int .i64 f.kind)).set (i * 7+1) (.int .i64 f.frm)).set (i * 7+2) (.int .i64 f.org)).set (i * 7+3) (.int .i64 f.seq)).set (i * 7+4) (.int .i64 f.low)).set (i * 7+5) (.slice f.ad n f.cap)).set (i * 7+6) (.string f.body)
 | [],i,h=>absurd h (Nat.not_lt_zero _)
 | a :: fs,0,_=>rfl
 | a :: fs,i+1,h=>by
  have ih:=au0 n f fs i (by simpa using h)
  have hl:(Fr.cells n a).length=7:=rfl
  show Fr.cells n a++frow n (fs.set i f)=_
  rw [ih]
  show _=((((((((Fr.cells n a++frow n fs).set _ _).set _ _).set _ _).set _ _).set _ _).set _ _).set _ _)
  rw [List.set_append_right _ _ (by omega),List.set_append_right _ _ (by omega),List.set_append_right _ _ (by omega),List.set_append_right _ _ (by omega),List.set_append_right _ _ (by omega),List.set_append_right _ _ (by omega),List.set_append_right _ _ (by omega)]
  rw [hl,show (i+1) * 7-7=i * 7 by omega,show (i+1) * 7+1-7=i * 7+1 by omega,show (i+1) * 7+2-7=i * 7+2 by omega,show (i+1) * 7+3-7=i * 7+3 by omega,show (i+1) * 7+4-7=i * 7+4 by omega,show (i+1) * 7+5-7=i * 7+5 by omega,show (i+1) * 7+6-7=i * 7+6 by omega]
theorem a99 (n:Nat) (fs:List Fr) (i:Nat):frow n (fs.take i)=(frow n fs).take (i * 7):=by
 rcases Nat.lt_or_ge fs.length i with h | h
 ·rw [List.take_of_length_le (by omega),List.take_of_length_le (by rw [a0e];omega)]
 ·conv=>rhs;rw [←List.take_append_drop i fs,a1e]
  rw [List.take_left' (by rw [a0e,List.length_take];omega)]
theorem Frs.put {w:World} {n g len cap:Nat} {fs:List Fr} (h:Frs w n (some ⟨g,0,none⟩) len cap fs) {i:Nat} (hi:i<len) (f:Fr) :
  Frs (((((((w.setCell ⟨g,i * 7,none⟩ (.int .i64 f.kind)).setCell ⟨g,i * 7+1,none⟩ (.int .i64 f.frm)).setCell ⟨g,i * 7+2,none⟩ (.int .i64 f.org)).setCell ⟨g,i * 7+3,none⟩ (.int .i64 f.seq)).setCell ⟨g,i * 7+4,none⟩ (.int .i64 f.low)).setCell ⟨g,i * 7+5,none⟩ (.slice f.ad n f.cap)).setCell ⟨g,i * 7+6,none⟩ (.string f.body)) n (some ⟨g,0,none⟩) len cap (fs.set i f):=by
 refine ⟨by rw [List.length_set];exact h.flen,?_⟩
 rw [au0 n f fs i (by rw [h.flen];exact hi)]
 have h0:=(World.ownsRow.stored h.own (i * 7) (.int .i64 f.kind)).1
 have h1:=(World.ownsRow.stored h0 (i * 7+1) (.int .i64 f.frm)).1
 have h2:=(World.ownsRow.stored h1 (i * 7+2) (.int .i64 f.org)).1
 have h3:=(World.ownsRow.stored h2 (i * 7+3) (.int .i64 f.seq)).1
 have h4:=(World.ownsRow.stored h3 (i * 7+4) (.int .i64 f.low)).1
 have h5:=(World.ownsRow.stored h4 (i * 7+5) (.slice f.ad n f.cap)).1
 exact (World.ownsRow.stored h5 (i * 7+6) (.string f.body)).1
theorem Frs.free {w:World} {n g len cap:Nat} {fs:List Fr} (h:Frs w n (some ⟨g,0,none⟩) len cap fs) (j:Nat):w.frozen? ⟨g,j,none⟩=false:=World.ownsRow.frozenAt h.own j
theorem Frs.alike {w w':World} {n:Nat} {ad:Option Addr} {len cap:Nat} {fs:List Fr} {E:Nat→Prop} (h:Frs w n ad len cap fs) (ha:Alike w w' E) (hE:∀ g off,ad=some ⟨g,off,none⟩→¬ E g):Frs w' n ad len cap fs:=by
 refine ⟨h.flen,h.own.1,?_⟩
 rcases h.own.2 with h | ⟨g,cap',cur,he,hg,hh,hr⟩
 ·exact Or.inl h
 ·cases he
  exact Or.inr ⟨g,cap,cur,rfl,hg,(ha.block g (lt_of_some hh) (hE g 0 rfl)).trans hh,hr⟩
theorem ax2 (w:World) (g a:Nat) (v:Value):Alike w (w.setCell ⟨g,a,none⟩ v) (fun k=>k=g):=Alike.setCell w ⟨g,a,none⟩ v
theorem a7l {w w':World} {g:Nat} (h:Alike w w' (fun k=>k=g)) (a:Nat) (v:Value):Alike w (w'.setCell ⟨g,a,none⟩ v) (fun k=>k=g):=h.trans (ax2 w' g a v) (fun _ _ h=>h)
theorem a4q (w:World) (g a0 a1 a2 a3 a4 a5 a6:Nat) (v0 v1 v2 v3 v4 v5 v6:Value):Alike w (((((((w.setCell ⟨g,a0,none⟩ v0).setCell ⟨g,a1,none⟩ v1).setCell ⟨g,a2,none⟩ v2).setCell ⟨g,a3,none⟩ v3).setCell ⟨g,a4,none⟩ v4).setCell ⟨g,a5,none⟩ v5).setCell ⟨g,a6,none⟩ v6) (fun k=>k=g):=
 a7l (a7l (a7l (a7l (a7l (a7l (ax2 w g a0 v0) a1 v1) a2 v2) a3 v3) a4 v4) a5 v5) a6 v6
theorem Tryz.b2h:(Tryz.prog.info? 45).map (fun i=>(i.zero,i.size))=some (some (.agg #[.int .i64 0,.int .i64 0,.int .i64 0,.int .i64 0,.int .i64 0,.slice none 0 0,.string ⟨#[]⟩]),7):=by kernel_rfl
theorem b25 (w:World) (n g len cap:Nat) (fs:List Fr) (i:Nat) (h:Frs w n (some ⟨g,0,none⟩) len cap fs) (hi:i<len) (ty:TypeId) (c:Nat) :
  ∃ w',(Builtin.clear_ #[147] ty #[.slice (some ⟨g,i * 7,none⟩) (len-i) c]).run Tryz.prog w=.ok (.tuple #[]) w'∧Frs w' n (some ⟨g,0,none⟩) i cap (fs.take i)∧Alike w w' (fun k=>k=g):=by
 obtain ⟨hl,h2⟩:=h.own
 rcases h2 with ⟨he,_⟩ | ⟨g',cap',cur,he,hg,hh,hnc,hcm,hcs,htk⟩
 ·cases he
 ·cases he
  obtain ⟨q,hq,hqz⟩:=Option.map_eq_some_iff.1 Tryz.b2h
  simp only [Prod.mk.injEq] at hqz
  obtain ⟨hq0,hq7⟩:=hqz
  have hzc:((Builtin.zeroCells (Value.agg #[.int .i64 0,.int .i64 0,.int .i64 0,.int .i64 0,.int .i64 0,.slice none 0 0,.string ⟨#[]⟩]).cells (len-i)).toList).length=7 * (len-i):=by
   simp [Builtin.zeroCells,Value.cells];omega
  have hone:∀ v∈(Builtin.zeroCells (Value.agg #[.int .i64 0,.int .i64 0,.int .i64 0,.int .i64 0,.int .i64 0,.slice none 0 0,.string ⟨#[]⟩]).cells (len-i)).toList,v.oneCell'=true:=by
   intro v hv
   simp only [Builtin.zeroCells,Value.cells,Array.toList_map,List.mem_map] at hv
   obtain ⟨k,_,rfl⟩:=hv
   have hk:k % 7=0∨k % 7=1∨k % 7=2∨k % 7=3∨k % 7=4∨k % 7=5∨k % 7=6:=by omega
   show ((#[Value.int .i64 0,.int .i64 0,.int .i64 0,.int .i64 0,.int .i64 0,.slice none 0 0,.string ⟨#[]⟩]:Array Value)[k % 7]!).oneCell'=true
   rcases hk with e | e | e | e | e | e | e<;>rw [e]<;>rfl
  have hst:=run_storeCells_at Tryz.prog g (i * 7) 45 _ 0 cur w hh (by rw [hzc,hcs];omega) hone
  rw [hzc,Nat.add_zero] at hst
  refine ⟨w.setRow g (cur.toList.take (i * 7)++(Builtin.zeroCells (Value.agg #[.int .i64 0,.int .i64 0,.int .i64 0,.int .i64 0,.int .i64 0,.slice none 0 0,.string ⟨#[]⟩]).cells (len-i)).toList++cur.toList.drop (i * 7+7 * (len-i))).toArray,?_,?_,?_⟩
  ·generalize hzz:(Builtin.zeroCells (Value.agg #[.int .i64 0,.int .i64 0,.int .i64 0,.int .i64 0,.int .i64 0,.slice none 0 0,.string ⟨#[]⟩]).cells (len-i)).toList=zs at *
   obtain ⟨m,hm⟩:∃ m,len-i=m+1:=⟨len-i-1,by omega⟩
   rw [hm] at hst hzz ⊢
   simp [Builtin.clear_,run_underlying Tryz.underlying147,zeroValue,typeInfo,hq,hq0,hzz,hst]
  ·generalize (Builtin.zeroCells (Value.agg #[.int .i64 0,.int .i64 0,.int .i64 0,.int .i64 0,.int .i64 0,.slice none 0 0,.string ⟨#[]⟩]).cells (len-i)).toList=zs at *
   have hfl:=h.flen
   have hcl:cur.toList.length=cap * 7:=by rw [Array.length_toList];exact hcs
   refine ⟨by rw [List.length_take];omega,by rw [a0e,List.length_take];omega,Or.inr ⟨g,cap,_,rfl,hg,setRow_heap _ _ _ _ _ _ hh,by omega,hcm,?_,?_⟩⟩
   ·simp [hzc,hcs];omega
   ·rw [show ∀ l:List Value,l.toArray.toList=l from fun l=>by simp,List.append_assoc,List.take_left' (by rw [List.length_take];omega),a99 n fs i,←htk,List.take_take]
    rw [Nat.min_eq_left (by omega)]
  ·exact ⟨by simp,fun k _ hk=>setRow_other _ _ _ _ hk,rfl,rfl,rfl⟩
def onB (ad:Option Addr) (k:Nat):Prop:=∃ off,ad=some ⟨k,off,none⟩
theorem Frs.b69 {w:World} {n:Nat} {ad:Option Addr} {len cap:Nat} {fs:List Fr} (h:Frs w n ad len cap fs):len≤cap:=by
 rcases h.own.2 with ⟨he,h0⟩ | ⟨g,cap',cur,he,hg,hh,hnc,_⟩
 ·omega
 ·cases he;exact hnc
def keptF (D:Fr→Bool) (fs:List Fr):List Fr:=fs.filter fun f=>!D f
theorem b0c {D:Fr→Bool} {fs:List Fr} (h:fs.findIdx? D=none):keptF D fs=fs:=by
 unfold keptF
 rw [List.findIdx?_eq_none_iff] at h
 exact List.filter_eq_self.2 (fun f hf=>by simp [h f hf])
theorem ab1 {D:Fr→Bool} {fs:List Fr} {j:Nat} {f:Fr} (hf:fs[j]?=some f):keptF D (fs.take (j+1))=if D f then keptF D (fs.take j) else keptF D (fs.take j)++[f]:=by
 obtain ⟨hj,he⟩:=List.getElem?_eq_some_iff.1 hf
 unfold keptF
 rw [List.take_succ_eq_append_getElem hj,List.filter_append,he]
 cases h:D f<;>simp [h]
theorem as2 {D:Fr→Bool} {fs:List Fr} {i:Nat} (h:fs.findIdx? D=some i):i<fs.length∧keptF D (fs.take (i+1))=fs.take i:=by
 rw [List.findIdx?_eq_some_iff_getElem] at h
 obtain ⟨hi,hD,hno⟩:=h
 refine ⟨hi,?_⟩
 rw [ab1 (List.getElem?_eq_getElem hi),if_pos hD]
 unfold keptF
 refine List.filter_eq_self.2 (fun f hf=>?_)
 obtain ⟨j,hj⟩:=List.mem_iff_getElem?.1 hf
 rw [List.getElem?_take] at hj
 split at hj
 ·rename_i hji
  rw [List.getElem?_eq_getElem (by omega)] at hj
  have:=hno j hji
  rw [Option.some.inj hj] at this
  simpa using this
 ·cases hj
set_option maxHeartbeats 4000000 in
theorem a9p (n:Nat) (ad:Option Addr) (len cap:Nat) (fs:List Fr) (D:Fr→Bool) (pb:Nat) (w:World) (hr:Frs w n ad len cap fs) (hl:len≤1000)
  (hD:∀ x f,Alike w x (onB ad)→f∈fs→Calls Tryz.prog 193 #[Fr.agg n f,.pointer (some ⟨pb,0,none⟩)] x fun e w'=>e=.returned (.bool (D f))∧Below x.heap.size x w') :
  Calls Tryz.prog 192 #[.slice ad len cap,.func (.func 193) #[] #[.pointer (some ⟨pb,0,none⟩)]] w
   fun e w'=>(∃ len',e=.returned (.slice ad len' cap)∧Frs w' n ad len' cap (keptF D fs))∧Alike w w' (onB ad):=by
 have HR:Hid _:=hr
 have HD:Hid (∀ x f,Alike w x (onB ad)→f∈fs→Calls Tryz.prog 193 #[Fr.agg n f,.pointer (some ⟨pb,0,none⟩)] x fun e w'=>e=.returned (.bool (D f))∧Below x.heap.size x w'):=hD
 have HI:Hid _:=ac6 n ad len cap fs D pb w hr hl (fun x f hx hf=>hD x f (Alike.of_below hx _) hf)
 clear hr hD
 go_enter Tryz.func192,Tryz.ntmps192
 go_wp2_with fail
 refine (show Calls _ _ _ _ _ from HI.out).mono ?_
 rintro e w1 ⟨rfl,hb1⟩
 have HB1:Hid _:=hb1
 clear hb1 HI
 cases hfi:fs.findIdx? D with
 | none =>
  simp only [idxI]
  go_wp2_with fail
  go_ret
  refine ⟨⟨len,rfl,?_⟩,Alike.of_below HB1.out _⟩
  rw [b0c hfi]
  exact HR.out.low HB1.out
 | some i0 =>
  simp only [idxI]
  obtain ⟨hi0,hk0⟩:=as2 hfi
  have hfl:=HR.out.flen
  obtain ⟨g,cur,rfl,_⟩:=HR.out.block (by omega)
  have hne:((i0:Int) == -1)=false:=by simp
  have HR1:Hid _:=HR.out.low HB1.out
  have hlc:len≤cap:=HR.out.b69
  go_wp2_with fail
  go_loopw [5,6] (fun c d wr=>∃ (i j:Nat) (fs':List Fr),i<j∧j≤len∧c=.int .i64 i∧d=.int .i64 j∧fs'.take i=keptF D (fs.take j)∧fs'.drop j=fs.drop j∧Frs wr n (some ⟨g,0,none⟩) len cap fs'∧Alike w wr (onB (some ⟨g,0,none⟩))) (fun _ d _=>len-(intOf d).toNat)
  case atStart=>exact ⟨i0,i0+1,fs,by omega,by omega,rfl,by go_num,hk0.symm,rfl,HR1.out,Alike.of_below HB1.out _⟩
  case round =>
   obtain ⟨i,j,fs',hij,hjl,rfl,rfl,htk,hdr,hfr,hal⟩:=hrel
   have HFr:Hid _:=hfr
   have HAl:Hid _:=hal
   have HTk:Hid _:=htk
   have HDr:Hid _:=hdr
   clear hfr hal htk hdr
   have hfl':=HFr.out.flen
   by_cases hlt:j<len
   ·obtain ⟨f,hf⟩:∃ f,fs[j]?=some f:=⟨fs[j]'(by omega),List.getElem?_eq_getElem _⟩
    have hf':fs'[j]?=some f:=by
     have h1:(fs'.drop j)[0]?=(fs.drop j)[0]?:=by rw [HDr.out]
     rw [List.getElem?_drop,List.getElem?_drop,Nat.add_zero] at h1
     rw [h1];exact hf
    obtain ⟨s0,s1,s2,s3,s4,s5,s6⟩:=HFr.out.seven hlt hf'
    have hji:(j:Int)<(len:Int):=by omega
    have HDc:Hid _:=HD.out (wr.alloc (.cells #[.int .i64 f.kind,.int .i64 f.frm,.int .i64 f.org,.int .i64 f.seq,.int .i64 f.low,.slice f.ad n f.cap,.string f.body] 45)) f (HAl.out.trans (Alike.alloc _ _ (fun _=>False)) (fun _ _ h=>h.elim)) (List.mem_of_getElem? hf)
    have hbox:=a05 wr (.int .i64 f.kind) (.int .i64 f.frm) (.int .i64 f.org) (.int .i64 f.seq) (.int .i64 f.low) (.slice f.ad n f.cap) (.string f.body) 45
    go_wp2_with fail
    refine (show Calls _ _ _ _ _ from HDc.out).mono ?_
    rintro e w2 ⟨rfl,hb2⟩
    have hbx:=hbox.below hb2 hbox.z
    obtain ⟨x0,x1,x2,x3,x4,x5,x6,xz⟩:=hbx
    have HF2:Hid (Frs w2 n (some ⟨g,0,none⟩) len cap fs'):=(HFr.out.low (a00 _ _)).low hb2
    have HA2:Hid (Alike w w2 (onB (some ⟨g,0,none⟩))):=(HAl.out.trans (Alike.alloc _ _ (fun _=>False)) (fun _ _ h=>h.elim)).trans (E':=fun _=>False) (Alike.of_below hb2 _) (fun _ _ h=>h.elim)
    clear hb2 hbox s0 s1 s2 s3 s4 s5 s6
    have hstep:=ab1 (D:=D) hf
    cases hDf:D f with
    | true =>
     rw [hDf,if_pos rfl] at hstep
     go_wp2_with fail
     go_roundw
     case rel=>exact ⟨i,j+1,fs',by omega,by omega,rfl,by go_num,by rw [hstep];exact HTk.out,by rw [←List.drop_drop,←List.drop_drop,HDr.out],HF2.out,HA2.out⟩
     case measure=>simp [intOf];omega
    | false =>
     rw [hDf,if_neg (by decide)] at hstep
     obtain ⟨s0,s1,s2,s3,s4,s5,s6⟩:=HF2.out.seven (i:=i) (by omega) (f:=fs'[i]'(by omega)) (List.getElem?_eq_getElem _)
     have ff:=HF2.out.free
     have hii:(i:Int)<(len:Int):=by omega
     generalize fs'[i]'(by omega)=fo at *
     go_wp2_with fail
     go_roundw
     case rel =>
      refine ⟨i+1,j+1,fs'.set i f,by omega,by omega,by go_num,by go_num,?_,?_,HF2.out.put (by omega) f,HA2.out.trans (a4q _ _ _ _ _ _ _ _ _ _ _ _ _ _ _ _) (fun k _ hk=>⟨0,congrArg (fun j=>some (⟨j,0,none⟩:Addr)) (Eq.symm hk)⟩)⟩
      ·rw [hstep,←HTk.out,List.take_succ_eq_append_getElem (by rw [List.length_set];omega),List.take_set_of_le (by omega),List.getElem_set_self]
      ·rw [List.drop_set_of_lt (by omega),←List.drop_drop,←List.drop_drop,HDr.out]
     case measure=>simp [intOf];omega
   ·have hjl':j=len:=by omega
    subst hjl'
    have hji:¬ (j:Int)<(j:Int):=by omega
    have hic:(i:Int)≤(j:Int):=by omega
    have hicap:i<cap:=by omega
    have hicn:¬ i=cap:=by omega
    obtain ⟨wc,hclr,hfc,hac⟩:=b25 wr n g j cap fs' i HFr.out hij 0 (cap-i)
    have HFc:Hid _:=hfc
    have HAc:Hid _:=hac
    clear hfc hac
    go_wp2_with fail
    go_ret
    refine ⟨⟨i,rfl,?_⟩,HAl.out.trans HAc.out (fun k _ hk=>⟨0,congrArg (fun j=>some (⟨j,0,none⟩:Addr)) (Eq.symm hk)⟩)⟩
    have h1:keptF D fs=fs'.take i:=by rw [HTk.out,List.take_of_length_le (by omega)]
    rw [h1]
    exact HFc.out
def cmpI (a b:Int):Int:=if a<b then -1 else if b<a then 1 else 0
def ordI (o s o' s':Int):Int:=if cmpI o o'=0 then cmpI s s' else cmpI o o'
set_option maxHeartbeats 1000000 in
theorem a98 (a:Int) (w:World):Calls Tryz.prog 235 #[.int .i64 a] w fun e w'=>e=.returned (.bool false)∧w'=w:=by
 have hne:((a:Int) != a)=false:=by simp
 go_enter Tryz.func235,Tryz.ntmps235
 go_wp2_with fail
 go_ret
 exact ⟨rfl,rfl⟩
set_option maxHeartbeats 1000000 in
theorem aq3 (a b:Int) (w:World):Calls Tryz.prog 220 #[.int .i64 a,.int .i64 b] w fun e w'=>e=.returned (.int .i64 (cmpI a b))∧w'=w:=by
 unfold cmpI
 by_cases h1:a<b
 ·rw [if_pos h1]
  go_enter Tryz.func220,Tryz.ntmps220
  go_wp2_with (go_at_call 235;refine (a98 _ _).mono ?_;rintro e w' ⟨rfl,rfl⟩)
  go_ret
  exact ⟨rfl,rfl⟩
 ·rw [if_neg h1]
  by_cases h2:b<a
  ·rw [if_pos h2]
   go_enter Tryz.func220,Tryz.ntmps220
   go_wp2_with (go_at_call 235;refine (a98 _ _).mono ?_;rintro e w' ⟨rfl,rfl⟩)
   go_ret
   exact ⟨rfl,rfl⟩
  ·rw [if_neg h2]
   go_enter Tryz.func220,Tryz.ntmps220
   go_wp2_with (go_at_call 235;refine (a98 _ _).mono ?_;rintro e w' ⟨rfl,rfl⟩)
   go_ret
   exact ⟨rfl,rfl⟩
set_option maxHeartbeats 1000000 in
theorem b7b (g:Nat) (x y:Int) (w:World) (h0:w.cell? ⟨g,0,none⟩=some (.int .i64 x)) (h1:w.cell? ⟨g,1,none⟩=some (.int .i64 y)) :
  Calls Tryz.prog 219 #[.slice (some ⟨g,0,none⟩) 2 2] w fun e w'=>e=.returned (.int .i64 (if x=0 then y else x))∧w'=w:=by
 by_cases hx:x=0
 ·subst hx
  rw [if_pos rfl]
  by_cases hy:y=0
  ·subst hy
   go_enter Tryz.func219,Tryz.ntmps219
   go_wp2_with fail
   refine wp_loop_rounds 3 ?_
   rw [rounds_succ]
   go_wp2_with fail
   rw [rounds_succ]
   go_wp2_with fail
   rw [rounds_succ]
   go_wp2_with fail
   go_ret
   exact ⟨rfl,rfl⟩
  ·go_enter Tryz.func219,Tryz.ntmps219
   go_wp2_with fail
   refine wp_loop_rounds 2 ?_
   rw [rounds_succ]
   go_wp2_with fail
   rw [rounds_succ]
   go_wp2_with fail
   go_ret
   exact ⟨rfl,rfl⟩
 ·rw [if_neg hx]
  go_enter Tryz.func219,Tryz.ntmps219
  go_wp2_with fail
  refine wp_loop_rounds 1 ?_
  rw [rounds_succ]
  go_wp2_with fail
  go_ret
  exact ⟨rfl,rfl⟩
set_option maxHeartbeats 4000000 in
theorem b3w (k f o s l k' f' o' s' l':Int) (v v':Value) (d d':ByteArray) (w:World) :
  Calls Tryz.prog 190 #[.agg #[.int .i64 k,.int .i64 f,.int .i64 o,.int .i64 s,.int .i64 l,v,.string d],.agg #[.int .i64 k',.int .i64 f',.int .i64 o',.int .i64 s',.int .i64 l',v',.string d']] w
   fun e w'=>e=.returned (.int .i64 (ordI o s o' s'))∧Below w.heap.size w w':=by
 go_enter Tryz.func190,Tryz.ntmps190
 have HC:Hid (∀ a b w,Calls Tryz.prog 220 #[.int .i64 a,.int .i64 b] w fun e w'=>e=.returned (.int .i64 (cmpI a b))∧w'=w):=fun a b w=>aq3 a b w
 have hz:((w.alloc (.cells #[.int .i64 k,.int .i64 f,.int .i64 o,.int .i64 s,.int .i64 l,v,.string d] 45)).alloc (.cells #[.int .i64 k',.int .i64 f',.int .i64 o',.int .i64 s',.int .i64 l',v',.string d'] 45)).heap.size=w.heap.size+1+1:=by simp
 have hA:=a05 w (.int .i64 k) (.int .i64 f) (.int .i64 o) (.int .i64 s) (.int .i64 l) v (.string d) 45
 have hA':=hA.below (a00 _ (.cells #[.int .i64 k',.int .i64 f',.int .i64 o',.int .i64 s',.int .i64 l',v',.string d'] 45)) hA.z
 have hB:=a05 (w.alloc (.cells #[.int .i64 k,.int .i64 f,.int .i64 o,.int .i64 s,.int .i64 l,v,.string d] 45)) (.int .i64 k') (.int .i64 f') (.int .i64 o') (.int .i64 s') (.int .i64 l') v' (.string d') 45
 rw [show (w.alloc (.cells #[.int .i64 k,.int .i64 f,.int .i64 o,.int .i64 s,.int .i64 l,v,.string d] 45)).heap.size=w.heap.size+1 by simp] at hB
 have HB0:Hid _:=a09 w (.cells #[.int .i64 k,.int .i64 f,.int .i64 o,.int .i64 s,.int .i64 l,v,.string d] 45) (.cells #[.int .i64 k',.int .i64 f',.int .i64 o',.int .i64 s',.int .i64 l',v',.string d'] 45)
 go_wp2_with fail
 generalize (w.alloc (.cells #[.int .i64 k,.int .i64 f,.int .i64 o,.int .i64 s,.int .i64 l,v,.string d] 45)).alloc (.cells #[.int .i64 k',.int .i64 f',.int .i64 o',.int .i64 s',.int .i64 l',v',.string d'] 45)=X at *
 have HO:Hid (Calls Tryz.prog 219 #[.slice (some ⟨w.heap.size+1+1,0,none⟩) 2 2] (X.alloc (.cells #[.int .i64 (cmpI o o'),.int .i64 (cmpI s s')] 3)).drew fun e w'=>e=.returned (.int .i64 (ordI o s o' s'))∧w'=(X.alloc (.cells #[.int .i64 (cmpI o o'),.int .i64 (cmpI s s')] 3)).drew):=by
  rw [←hz]
  have e:∀ i,(X.alloc (.cells #[.int .i64 (cmpI o o'),.int .i64 (cmpI s s')] 3)).drew.cell? ⟨X.heap.size,i,none⟩=#[Value.int .i64 (cmpI o o'),.int .i64 (cmpI s s')][i]?:=fun i=>cell_of_row _ _ i _ 3 (0,0) (heap_alloc_new _ _)
  exact b7b X.heap.size (cmpI o o') (cmpI s s') _ (e 0) (e 1)
 obtain ⟨_,_,a2,a3,_,_,_,az⟩:=hA'
 obtain ⟨_,_,b2,b3,_,_,_,bz⟩:=hB
 have HK:Hid (∀ x,Below X.heap.size X x→x.cell? ⟨w.heap.size,2,none⟩=some (.int .i64 o)∧x.cell? ⟨w.heap.size,3,none⟩=some (.int .i64 s)∧x.cell? ⟨w.heap.size+1,2,none⟩=some (.int .i64 o')∧x.cell? ⟨w.heap.size+1,3,none⟩=some (.int .i64 s')):=fun x hx=>⟨(hx.cell (p:=⟨w.heap.size,2,none⟩) az).trans a2,(hx.cell (p:=⟨w.heap.size,3,none⟩) az).trans a3,(hx.cell (p:=⟨w.heap.size+1,2,none⟩) bz).trans b2,(hx.cell (p:=⟨w.heap.size+1,3,none⟩) bz).trans b3⟩
 go_region_held3 (fun x=>x.cell? ⟨w.heap.size,2,none⟩=some (.int .i64 o)∧x.cell? ⟨w.heap.size,3,none⟩=some (.int .i64 s)∧x.cell? ⟨w.heap.size+1,2,none⟩=some (.int .i64 o')∧x.cell? ⟨w.heap.size+1,3,none⟩=some (.int .i64 s'))
  (first|(exact HK.out _ (Below.refl _ _))|(exact HK.out _ (Below.refl _ _).drew)|(exact HK.out _ (a00 _ _).drew)|(exact HK.out _ (a00 _ _)) | go_keep)
  (first
   | (go_at_call 220;refine (HC.out _ _ _).mono ?_;rintro e w' ⟨rfl,rfl⟩)
   | (go_at_call 219;refine HO.out.mono ?_;rintro e w' ⟨rfl,rfl⟩))
 all_goals
  go_wp2_with fail
  go_ret
  exact ⟨rfl,bthen HB0.out (a00 _ _).drew⟩
end Go.Proofs.YtabecbjfamphbaaGreatDoor
