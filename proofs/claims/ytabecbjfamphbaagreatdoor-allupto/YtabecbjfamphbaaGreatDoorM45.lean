/- A part of the proof. -/
import Derived.Test.YtabecbjfamphbaaGreatDoorM44
namespace Go.Proofs.YtabecbjfamphbaaGreatDoor
open Go.RowKit Go.Stop Go.Extern
set_option maxRecDepth 100000
set_option maxHeartbeats 4000000
theorem ai0 (A:Nat→Addr) (base:Nat) (R:Nat→Prop) (wb t u m:Nat) (ks:List Kn) (ns:List Wb) (O:Nat→Prop) (F:Bool × Nat→Nat→Prop) (K:Int) (on oa:Int) (ox:ByteArray) (N W B L f0 f1 f2 f3 f4:Int) (fa:Option Addr) (fl fc:Nat) (fs:ByteArray) (hK:11≤K∧K≤19) (hks:0<ks.length) (ht:t≤240000) (hu:u≤240000) (hm:m≤1000000) (ho:I64 on) (ha:I64 oa) (hx:ox.size≤maxLen) (w:World) (h:LW A base R w wb t u m ks ns O F) :
  Calls Tryz.prog 37 #[.pointer (some ⟨wb,0,none⟩),.agg #[.int .i64 K,.int .i64 on,.int .i64 oa,.string ox,.int .i64 N,.int .i64 W,.int .i64 B,.int .i64 L,.int .i64 f0,.int .i64 f1,.int .i64 f2,.int .i64 f3,.int .i64 f4,.slice fa fl fc,.string fs]] w fun e w'=>e=.returned (.bool true)∧KW A base R wb t u m ks ns w w':=by
 have hfew:=h.few.1
 have hpb:=pk_bd on ks.length (by omega)
 obtain ⟨i,hip⟩:∃ i:Nat,(i:Int)=pk on ks.length:=⟨(pk on ks.length).toNat,by omega⟩
 have hil:i<ks.length:=by omega
 obtain ⟨k,hi⟩:∃ k,ks[i]?=some k:=⟨ks[i],List.getElem?_eq_getElem hil⟩
 have HPk:Hid (∀ y,Calls Tryz.prog 69 #[.int .i64 on,.int .i64 (ks.length:Int)] y fun e w'=>e=.returned (.int .i64 (i:Int))∧w'=y):=fun y=>by rw [hip];exact a5p on ks.length y ho (by omega) (by omega)
 obtain ⟨ka,kc,c3,hown,_⟩:=(h.low (a00 w (.cells #[.int .i64 K,.int .i64 on,.int .i64 oa,.string ox,.int .i64 N,.int .i64 W,.int .i64 B,.int .i64 L,.int .i64 f0,.int .i64 f1,.int .i64 f2,.int .i64 f3,.int .i64 f4,.slice fa fl fc,.string fs] 81))).bk.kn
 obtain ⟨r0,r1⟩:=ai1 ks i k hi
 obtain ⟨gk,e1,k0,k1⟩:∃ gk,ka=some ⟨gk,0,none⟩∧(w.alloc (.cells #[.int .i64 K,.int .i64 on,.int .i64 oa,.string ox,.int .i64 N,.int .i64 W,.int .i64 B,.int .i64 L,.int .i64 f0,.int .i64 f1,.int .i64 f2,.int .i64 f3,.int .i64 f4,.slice fa fl fc,.string fs] 81)).cell? ⟨gk,i * 2,none⟩=some (.pointer (some ⟨k.fb,0,none⟩))∧(w.alloc (.cells #[.int .i64 K,.int .i64 on,.int .i64 oa,.string ox,.int .i64 N,.int .i64 W,.int .i64 B,.int .i64 L,.int .i64 f0,.int .i64 f1,.int .i64 f2,.int .i64 f3,.int .i64 f4,.slice fa fl fc,.string fs] 81)).cell? ⟨gk,i * 2+1,none⟩=some (.pointer (some ⟨k.rb,0,none⟩)):=by
  rcases hown.2 with ⟨_,h9⟩ | ⟨gk,cap',cur,e,_⟩
  ·omega
  ·cases e
   exact ⟨gk,rfl,(World.ownsRow.cellAt hown (i * 2) (by omega)).trans r0,(World.ownsRow.cellAt hown (i * 2+1) (by omega)).trans r1⟩
 subst e1
 have qo:∀ j,(w.alloc (.cells #[.int .i64 K,.int .i64 on,.int .i64 oa,.string ox,.int .i64 N,.int .i64 W,.int .i64 B,.int .i64 L,.int .i64 f0,.int .i64 f1,.int .i64 f2,.int .i64 f3,.int .i64 f4,.slice fa fl fc,.string fs] 81)).cell? ⟨w.heap.size,j,none⟩=#[Value.int .i64 K,.int .i64 on,.int .i64 oa,.string ox,.int .i64 N,.int .i64 W,.int .i64 B,.int .i64 L,.int .i64 f0,.int .i64 f1,.int .i64 f2,.int .i64 f3,.int .i64 f4,.slice fa fl fc,.string fs][j]?:=fun j=>cell_of_row _ _ j _ _ (0,0) (heap_alloc_new _ _)
 have o0:(w.alloc (.cells #[.int .i64 K,.int .i64 on,.int .i64 oa,.string ox,.int .i64 N,.int .i64 W,.int .i64 B,.int .i64 L,.int .i64 f0,.int .i64 f1,.int .i64 f2,.int .i64 f3,.int .i64 f4,.slice fa fl fc,.string fs] 81)).cell? ⟨w.heap.size,0,none⟩=some (.int .i64 K):=qo 0
 have o1:(w.alloc (.cells #[.int .i64 K,.int .i64 on,.int .i64 oa,.string ox,.int .i64 N,.int .i64 W,.int .i64 B,.int .i64 L,.int .i64 f0,.int .i64 f1,.int .i64 f2,.int .i64 f3,.int .i64 f4,.slice fa fl fc,.string fs] 81)).cell? ⟨w.heap.size,1,none⟩=some (.int .i64 on):=qo 1
 have o2:(w.alloc (.cells #[.int .i64 K,.int .i64 on,.int .i64 oa,.string ox,.int .i64 N,.int .i64 W,.int .i64 B,.int .i64 L,.int .i64 f0,.int .i64 f1,.int .i64 f2,.int .i64 f3,.int .i64 f4,.slice fa fl fc,.string fs] 81)).cell? ⟨w.heap.size,2,none⟩=some (.int .i64 oa):=qo 2
 have o3:(w.alloc (.cells #[.int .i64 K,.int .i64 on,.int .i64 oa,.string ox,.int .i64 N,.int .i64 W,.int .i64 B,.int .i64 L,.int .i64 f0,.int .i64 f1,.int .i64 f2,.int .i64 f3,.int .i64 f4,.slice fa fl fc,.string fs] 81)).cell? ⟨w.heap.size,3,none⟩=some (.string ox):=qo 3
 have o4:(w.alloc (.cells #[.int .i64 K,.int .i64 on,.int .i64 oa,.string ox,.int .i64 N,.int .i64 W,.int .i64 B,.int .i64 L,.int .i64 f0,.int .i64 f1,.int .i64 f2,.int .i64 f3,.int .i64 f4,.slice fa fl fc,.string fs] 81)).cell? ⟨w.heap.size,4,none⟩=some (.int .i64 N):=qo 4
 have o5:(w.alloc (.cells #[.int .i64 K,.int .i64 on,.int .i64 oa,.string ox,.int .i64 N,.int .i64 W,.int .i64 B,.int .i64 L,.int .i64 f0,.int .i64 f1,.int .i64 f2,.int .i64 f3,.int .i64 f4,.slice fa fl fc,.string fs] 81)).cell? ⟨w.heap.size,5,none⟩=some (.int .i64 W):=qo 5
 have o6:(w.alloc (.cells #[.int .i64 K,.int .i64 on,.int .i64 oa,.string ox,.int .i64 N,.int .i64 W,.int .i64 B,.int .i64 L,.int .i64 f0,.int .i64 f1,.int .i64 f2,.int .i64 f3,.int .i64 f4,.slice fa fl fc,.string fs] 81)).cell? ⟨w.heap.size,6,none⟩=some (.int .i64 B):=qo 6
 have o7:(w.alloc (.cells #[.int .i64 K,.int .i64 on,.int .i64 oa,.string ox,.int .i64 N,.int .i64 W,.int .i64 B,.int .i64 L,.int .i64 f0,.int .i64 f1,.int .i64 f2,.int .i64 f3,.int .i64 f4,.slice fa fl fc,.string fs] 81)).cell? ⟨w.heap.size,7,none⟩=some (.int .i64 L):=qo 7
 have o8:(w.alloc (.cells #[.int .i64 K,.int .i64 on,.int .i64 oa,.string ox,.int .i64 N,.int .i64 W,.int .i64 B,.int .i64 L,.int .i64 f0,.int .i64 f1,.int .i64 f2,.int .i64 f3,.int .i64 f4,.slice fa fl fc,.string fs] 81)).cell? ⟨w.heap.size,8,none⟩=some (.int .i64 f0):=qo 8
 have o9:(w.alloc (.cells #[.int .i64 K,.int .i64 on,.int .i64 oa,.string ox,.int .i64 N,.int .i64 W,.int .i64 B,.int .i64 L,.int .i64 f0,.int .i64 f1,.int .i64 f2,.int .i64 f3,.int .i64 f4,.slice fa fl fc,.string fs] 81)).cell? ⟨w.heap.size,9,none⟩=some (.int .i64 f1):=qo 9
 have o10:(w.alloc (.cells #[.int .i64 K,.int .i64 on,.int .i64 oa,.string ox,.int .i64 N,.int .i64 W,.int .i64 B,.int .i64 L,.int .i64 f0,.int .i64 f1,.int .i64 f2,.int .i64 f3,.int .i64 f4,.slice fa fl fc,.string fs] 81)).cell? ⟨w.heap.size,10,none⟩=some (.int .i64 f2):=qo 10
 have o11:(w.alloc (.cells #[.int .i64 K,.int .i64 on,.int .i64 oa,.string ox,.int .i64 N,.int .i64 W,.int .i64 B,.int .i64 L,.int .i64 f0,.int .i64 f1,.int .i64 f2,.int .i64 f3,.int .i64 f4,.slice fa fl fc,.string fs] 81)).cell? ⟨w.heap.size,11,none⟩=some (.int .i64 f3):=qo 11
 have o12:(w.alloc (.cells #[.int .i64 K,.int .i64 on,.int .i64 oa,.string ox,.int .i64 N,.int .i64 W,.int .i64 B,.int .i64 L,.int .i64 f0,.int .i64 f1,.int .i64 f2,.int .i64 f3,.int .i64 f4,.slice fa fl fc,.string fs] 81)).cell? ⟨w.heap.size,12,none⟩=some (.int .i64 f4):=qo 12
 have o13:(w.alloc (.cells #[.int .i64 K,.int .i64 on,.int .i64 oa,.string ox,.int .i64 N,.int .i64 W,.int .i64 B,.int .i64 L,.int .i64 f0,.int .i64 f1,.int .i64 f2,.int .i64 f3,.int .i64 f4,.slice fa fl fc,.string fs] 81)).cell? ⟨w.heap.size,13,none⟩=some (.slice fa fl fc):=qo 13
 have o14:(w.alloc (.cells #[.int .i64 K,.int .i64 on,.int .i64 oa,.string ox,.int .i64 N,.int .i64 W,.int .i64 B,.int .i64 L,.int .i64 f0,.int .i64 f1,.int .i64 f2,.int .i64 f3,.int .i64 f4,.slice fa fl fc,.string fs] 81)).cell? ⟨w.heap.size,14,none⟩=some (.string fs):=qo 14
 clear qo
 have hki:(i:Int)<(ks.length:Int):=by omega
 have hkp:(0:Int)<(ks.length:Int):=by omega
 have HKn:Hid (∀ y,Below (w.alloc (.cells #[.int .i64 K,.int .i64 on,.int .i64 oa,.string ox,.int .i64 N,.int .i64 W,.int .i64 B,.int .i64 L,.int .i64 f0,.int .i64 f1,.int .i64 f2,.int .i64 f3,.int .i64 f4,.slice fa fl fc,.string fs] 81)).heap.size (w.alloc (.cells #[.int .i64 K,.int .i64 on,.int .i64 oa,.string ox,.int .i64 N,.int .i64 W,.int .i64 B,.int .i64 L,.int .i64 f0,.int .i64 f1,.int .i64 f2,.int .i64 f3,.int .i64 f4,.slice fa fl fc,.string fs] 81)) y→Calls Tryz.prog 68 #[.pointer (some ⟨wb,0,none⟩),.agg #[.pointer (some ⟨k.fb,0,none⟩),.pointer (some ⟨k.rb,0,none⟩)],.agg #[.int .i64 K,.int .i64 on,.int .i64 oa,.string ox,.int .i64 N,.int .i64 W,.int .i64 B,.int .i64 L,.int .i64 f0,.int .i64 f1,.int .i64 f2,.int .i64 f3,.int .i64 f4,.slice fa fl fc,.string fs]] y fun e w'=>e=.returned (.bool true)∧KW A base R wb t u m ks ns w w'∧w'.cell? ⟨wb,3,none⟩=some (.slice (some ⟨gk,0,none⟩) ks.length kc)∧w'.cell? ⟨gk,i * 2,none⟩=some (.pointer (some ⟨k.fb,0,none⟩))∧w'.cell? ⟨gk,i * 2+1,none⟩=some (.pointer (some ⟨k.rb,0,none⟩))∧w'.cell? ⟨w.heap.size,0,none⟩=some (.int .i64 K)∧w'.cell? ⟨w.heap.size,1,none⟩=some (.int .i64 on)∧w'.cell? ⟨w.heap.size,2,none⟩=some (.int .i64 oa)∧w'.cell? ⟨w.heap.size,3,none⟩=some (.string ox)∧w'.cell? ⟨w.heap.size,4,none⟩=some (.int .i64 N)∧w'.cell? ⟨w.heap.size,5,none⟩=some (.int .i64 W)∧w'.cell? ⟨w.heap.size,6,none⟩=some (.int .i64 B)∧w'.cell? ⟨w.heap.size,7,none⟩=some (.int .i64 L)∧w'.cell? ⟨w.heap.size,8,none⟩=some (.int .i64 f0)∧w'.cell? ⟨w.heap.size,9,none⟩=some (.int .i64 f1)∧w'.cell? ⟨w.heap.size,10,none⟩=some (.int .i64 f2)∧w'.cell? ⟨w.heap.size,11,none⟩=some (.int .i64 f3)∧w'.cell? ⟨w.heap.size,12,none⟩=some (.int .i64 f4)∧w'.cell? ⟨w.heap.size,13,none⟩=some (.slice fa fl fc)∧w'.cell? ⟨w.heap.size,14,none⟩=some (.string fs)):=fun y hy=>by
  have hLX:=h.wider (R':=fun j=>R j∨j=w.heap.size) (a00 w (.cells #[.int .i64 K,.int .i64 on,.int .i64 oa,.string ox,.int .i64 N,.int .i64 W,.int .i64 B,.int .i64 L,.int .i64 f0,.int .i64 f1,.int .i64 f2,.int .i64 f3,.int .i64 f4,.slice fa fl fc,.string fs] 81)) (fun j hj=>Or.inl hj) (fun j hj=>by
   rcases hj with h1 | rfl
   ·exact Or.inl h1
   ·exact Or.inr ⟨Nat.le_refl _,by simp⟩)
  have hyc:∀ j,y.cell? ⟨w.heap.size,j,none⟩=(w.alloc (.cells #[.int .i64 K,.int .i64 on,.int .i64 oa,.string ox,.int .i64 N,.int .i64 W,.int .i64 B,.int .i64 L,.int .i64 f0,.int .i64 f1,.int .i64 f2,.int .i64 f3,.int .i64 f4,.slice fa fl fc,.string fs] 81)).cell? ⟨w.heap.size,j,none⟩:=fun j=>World.cell?_of_block (hy.block w.heap.size (by simp))
  refine (b5d A base (fun j=>R j∨j=w.heap.size) wb t u m ks ns O F i k K on oa ox N W B L f0 f1 f2 f3 f4 fa fl fc fs hK hi ht hu (by omega) ha hx y (hLX.low hy)).mono fun e w' hh=>⟨hh.1,(hh.2.less (R':=R) (fun j hj=>Or.inl hj) h.rb).of ((h.same (a00 w _)).trans (((h.low (a00 w _)).same hy))),?_⟩
  have hko:=hh.2.2.kp.blk w.heap.size (Or.inr rfl)
  have hkc:∀ j,w'.cell? ⟨w.heap.size,j,none⟩=(w.alloc (.cells #[.int .i64 K,.int .i64 on,.int .i64 oa,.string ox,.int .i64 N,.int .i64 W,.int .i64 B,.int .i64 L,.int .i64 f0,.int .i64 f1,.int .i64 f2,.int .i64 f3,.int .i64 f4,.slice fa fl fc,.string fs] 81)).cell? ⟨w.heap.size,j,none⟩:=fun j=>(World.cell?_of_block hko).trans (hyc j)
  obtain ⟨a1,a2⟩:=((hLX.same hy).trans hh.2.2).kn 3 (Or.inl rfl) _ _ _ c3
  have hrow:∀ j,w'.cell? ⟨gk,j,none⟩=(w.alloc (.cells #[.int .i64 K,.int .i64 on,.int .i64 oa,.string ox,.int .i64 N,.int .i64 W,.int .i64 B,.int .i64 L,.int .i64 f0,.int .i64 f1,.int .i64 f2,.int .i64 f3,.int .i64 f4,.slice fa fl fc,.string fs] 81)).cell? ⟨gk,j,none⟩:=fun j=>World.cell?_of_block (a2 gk ⟨0,rfl⟩)
  exact ⟨a1,(hrow _).trans k0,(hrow _).trans k1,(hkc 0).trans o0,(hkc 1).trans o1,(hkc 2).trans o2,(hkc 3).trans o3,(hkc 4).trans o4,(hkc 5).trans o5,(hkc 6).trans o6,(hkc 7).trans o7,(hkc 8).trans o8,(hkc 9).trans o9,(hkc 10).trans o10,(hkc 11).trans o11,(hkc 12).trans o12,(hkc 13).trans o13,(hkc 14).trans o14⟩
 obtain ⟨h1,h2⟩:=hK
 obtain ⟨fb,rb,g,p,s⟩:=k
 simp only at k0 k1 HKn
 clear h hi hown r0 r1 hpb hip
 generalize KW A base R wb t u m ks ns w=KK at *
 generalize ks.length=kl at *
 go_enter Tryz.func37,Tryz.ntmps37
 go_wp2_with fail
 generalize w.alloc (.cells #[.int .i64 K,.int .i64 on,.int .i64 oa,.string ox,.int .i64 N,.int .i64 W,.int .i64 B,.int .i64 L,.int .i64 f0,.int .i64 f1,.int .i64 f2,.int .i64 f3,.int .i64 f4,.slice fa fl fc,.string fs] 81)=X at *
 have HS0:Hid (X.cell? ⟨wb,3,none⟩=some (.slice (some ⟨gk,0,none⟩) kl kc)∧X.cell? ⟨gk,i * 2,none⟩=some (.pointer (some ⟨fb,0,none⟩))∧X.cell? ⟨gk,i * 2+1,none⟩=some (.pointer (some ⟨rb,0,none⟩))∧X.cell? ⟨w.heap.size,0,none⟩=some (.int .i64 K)∧X.cell? ⟨w.heap.size,1,none⟩=some (.int .i64 on)∧X.cell? ⟨w.heap.size,2,none⟩=some (.int .i64 oa)∧X.cell? ⟨w.heap.size,3,none⟩=some (.string ox)∧X.cell? ⟨w.heap.size,4,none⟩=some (.int .i64 N)∧X.cell? ⟨w.heap.size,5,none⟩=some (.int .i64 W)∧X.cell? ⟨w.heap.size,6,none⟩=some (.int .i64 B)∧X.cell? ⟨w.heap.size,7,none⟩=some (.int .i64 L)∧X.cell? ⟨w.heap.size,8,none⟩=some (.int .i64 f0)∧X.cell? ⟨w.heap.size,9,none⟩=some (.int .i64 f1)∧X.cell? ⟨w.heap.size,10,none⟩=some (.int .i64 f2)∧X.cell? ⟨w.heap.size,11,none⟩=some (.int .i64 f3)∧X.cell? ⟨w.heap.size,12,none⟩=some (.int .i64 f4)∧X.cell? ⟨w.heap.size,13,none⟩=some (.slice fa fl fc)∧X.cell? ⟨w.heap.size,14,none⟩=some (.string fs)):=⟨c3,k0,k1,o0,o1,o2,o3,o4,o5,o6,o7,o8,o9,o10,o11,o12,o13,o14⟩
 go_region_held3 (fun v=>v.cell? ⟨wb,3,none⟩=some (.slice (some ⟨gk,0,none⟩) kl kc)∧v.cell? ⟨gk,i * 2,none⟩=some (.pointer (some ⟨fb,0,none⟩))∧v.cell? ⟨gk,i * 2+1,none⟩=some (.pointer (some ⟨rb,0,none⟩))∧v.cell? ⟨w.heap.size,0,none⟩=some (.int .i64 K)∧v.cell? ⟨w.heap.size,1,none⟩=some (.int .i64 on)∧v.cell? ⟨w.heap.size,2,none⟩=some (.int .i64 oa)∧v.cell? ⟨w.heap.size,3,none⟩=some (.string ox)∧v.cell? ⟨w.heap.size,4,none⟩=some (.int .i64 N)∧v.cell? ⟨w.heap.size,5,none⟩=some (.int .i64 W)∧v.cell? ⟨w.heap.size,6,none⟩=some (.int .i64 B)∧v.cell? ⟨w.heap.size,7,none⟩=some (.int .i64 L)∧v.cell? ⟨w.heap.size,8,none⟩=some (.int .i64 f0)∧v.cell? ⟨w.heap.size,9,none⟩=some (.int .i64 f1)∧v.cell? ⟨w.heap.size,10,none⟩=some (.int .i64 f2)∧v.cell? ⟨w.heap.size,11,none⟩=some (.int .i64 f3)∧v.cell? ⟨w.heap.size,12,none⟩=some (.int .i64 f4)∧v.cell? ⟨w.heap.size,13,none⟩=some (.slice fa fl fc)∧v.cell? ⟨w.heap.size,14,none⟩=some (.string fs)) (first|(exact HS0.out)|(exact HSW.out) | go_keep)
  (first|(go_at_call 69;refine (show Calls _ _ _ _ _ from HPk.out _).mono ?_;rintro e w' ⟨rfl,rfl⟩)|(go_at_call 68;refine (show Calls _ _ _ _ _ from HKn.out _ (by first | exact (Below.refl _ _).drew | exact Below.refl _ _ | exact below_drewN (Below.refl _ _) _)).mono ?_;rintro e w' ⟨rfl,hK,hSw⟩;have HK:Hid _:=hK;have HSW:Hid _:=hSw;clear hK hSw))
 all_goals
  go_wp2_with fail
  go_ret
  exact ⟨rfl,HK.out⟩
theorem av1 (A:Nat→Addr) (base:Nat) (R:Nat→Prop) (wb t u m:Nat) (ks:List Kn) (ns:List Wb) (O:Nat→Prop) (F:Bool × Nat→Nat→Prop) (on oa:Int) (ox:ByteArray) (N W B L f0 f1 f2 f3 f4:Int) (fa:Option Addr) (fl fc:Nat) (fs:ByteArray) (hm:m≤1000000) (w:World) (h:LW A base R w wb t u m ks ns O F) :
  Calls Tryz.prog 37 #[.pointer (some ⟨wb,0,none⟩),.agg #[.int .i64 20,.int .i64 on,.int .i64 oa,.string ox,.int .i64 N,.int .i64 W,.int .i64 B,.int .i64 L,.int .i64 f0,.int .i64 f1,.int .i64 f2,.int .i64 f3,.int .i64 f4,.slice fa fl fc,.string fs]] w fun e w'=>e=.returned (.bool true)∧NW A base R wb t u m ks ns 0 (if okG N W B L then 1 else 0) w w':=by
 have HN:Hid (∀ X,Below w.heap.size w X→Calls Tryz.prog 70 #[.pointer (some ⟨wb,0,none⟩),.agg #[.int .i64 N,.int .i64 W,.int .i64 B,.int .i64 L]] X fun e w'=>e=.returned (.bool true)∧NW A base R wb t u m ks ns 0 (if okG N W B L then 1 else 0) w w'):=fun X hb=>by
  by_cases e:okG N W B L=true
  ·rw [if_pos e]
   exact (b78 A base R wb t u m ks ns O F N W B L e hm X (h.low hb)).mono fun e w' hh=>⟨hh.1,hh.2.1,(h.same hb).kp.trans hh.2.2⟩
  ·rw [if_neg e]
   exact (b86 A base R wb t u m ks ns O F N W B L (by simpa using e) X (h.low hb)).mono fun e w' hh=>⟨hh.1,hh.2.1,(h.same hb).kp.trans hh.2.2⟩
 obtain ⟨ka,kc,c3,_⟩:=(h.low (a00 w (.cells #[.int .i64 20,.int .i64 on,.int .i64 oa,.string ox,.int .i64 N,.int .i64 W,.int .i64 B,.int .i64 L,.int .i64 f0,.int .i64 f1,.int .i64 f2,.int .i64 f3,.int .i64 f4,.slice fa fl fc,.string fs] 81))).bk.kn
 clear h
 generalize NW A base R wb t u m ks ns 0 (if okG N W B L then 1 else 0) w=KK at *
 go_enter Tryz.func37,Tryz.ntmps37
 go_wp2_with fail
 refine (show Calls _ _ _ _ _ from HN.out _ (a00 _ _)).mono ?_
 rintro e w' ⟨rfl,hK⟩
 have HK:Hid _:=hK
 clear hK
 go_wp2_with fail
 go_ret
 exact ⟨rfl,HK.out⟩
theorem az5 (A:Nat→Addr) (base:Nat) (R:Nat→Prop) (wb t u m:Nat) (ks:List Kn) (ns:List Wb) (O:Nat→Prop) (F:Bool × Nat→Nat→Prop) (K:Int) (on oa:Int) (ox:ByteArray) (N W B L f0 f1 f2 f3 f4:Int) (fa:Option Addr) (fl fc:Nat) (fs:ByteArray) (hK:21≤K∧K≤31) (hns:ns.length=0) (w:World) (h:LW A base R w wb t u m ks ns O F) :
  Calls Tryz.prog 37 #[.pointer (some ⟨wb,0,none⟩),.agg #[.int .i64 K,.int .i64 on,.int .i64 oa,.string ox,.int .i64 N,.int .i64 W,.int .i64 B,.int .i64 L,.int .i64 f0,.int .i64 f1,.int .i64 f2,.int .i64 f3,.int .i64 f4,.slice fa fl fc,.string fs]] w fun e w'=>e=.returned (.bool true)∧KW A base R wb t u m ks ns w w':=by
 have HK:Hid (∀ X,Below w.heap.size w X→KW A base R wb t u m ks ns w X):=fun X hb=>⟨⟨ks,ns,O,F,(h.low hb).more (Nat.le_succ _) (Nat.le_succ _) (Nat.le_succ _),rfl,rfl⟩,h.same hb⟩
 obtain ⟨ka,kc,c3,_⟩:=(h.low (a00 w (.cells #[.int .i64 K,.int .i64 on,.int .i64 oa,.string ox,.int .i64 N,.int .i64 W,.int .i64 B,.int .i64 L,.int .i64 f0,.int .i64 f1,.int .i64 f2,.int .i64 f3,.int .i64 f4,.slice fa fl fc,.string fs] 81))).bk.nt
 rw [hns] at c3
 obtain ⟨h1,h2⟩:=hK
 have hb1:decide (K<10)=false:=decide_eq_false (by omega)
 have hb2:(K == 10)=false:=by simp;omega
 have hb3:decide (K<20)=false:=decide_eq_false (by omega)
 have hb4:(K == 20)=false:=by simp;omega
 have hb5:decide (20<K)=true:=decide_eq_true (by omega)
 clear h hns
 generalize KW A base R wb t u m ks ns w=KK at *
 by_cases h27:K<27
 ·have hb6:decide (K<27)=true:=decide_eq_true h27
  have hb7:decide (27≤K)=false:=decide_eq_false (by omega)
  go_enter Tryz.func37,Tryz.ntmps37
  go_wp2_with fail
  go_ret
  exact ⟨rfl,HK.out _ (a00 _ _)⟩
 ·have hb6:decide (K<27)=false:=decide_eq_false h27
  have hb7:decide (27≤K)=true:=decide_eq_true (by omega)
  go_enter Tryz.func37,Tryz.ntmps37
  go_wp2_with fail
  go_ret
  exact ⟨rfl,HK.out _ (a00 _ _)⟩
theorem b74 (A:Nat→Addr) (base:Nat) (R:Nat→Prop) (wb t u m:Nat) (ks:List Kn) (ns:List Wb) (O:Nat→Prop) (F:Bool × Nat→Nat→Prop) (i:Nat) (k:Wb) (on oa:Int) (ox:ByteArray) (N W B L f0 f1 f2 f3 f4:Int) (fa:Option Addr) (fl fc:Nat) (fs:ByteArray) (hi:ns[i]?=some k) (hm:m≤1000000) (w:World) (h:LW A base R w wb t u m ks ns O F) :
  Calls Tryz.prog 71 #[.agg #[.pointer (some ⟨k.fb,0,none⟩),.pointer (some ⟨k.nb,0,none⟩)],.agg #[.int .i64 21,.int .i64 on,.int .i64 oa,.string ox,.int .i64 N,.int .i64 W,.int .i64 B,.int .i64 L,.int .i64 f0,.int .i64 f1,.int .i64 f2,.int .i64 f3,.int .i64 f4,.slice fa fl fc,.string fs]] w fun e w'=>e=.returned (.bool true)∧KW A base R wb t u m ks ns w w':=by
 obtain ⟨X,hX⟩:∃ X,X=((w.alloc (.cells #[.pointer (some ⟨k.fb,0,none⟩),.pointer (some ⟨k.nb,0,none⟩)] 128)).alloc (.cells #[.int .i64 21,.int .i64 on,.int .i64 oa,.string ox,.int .i64 N,.int .i64 W,.int .i64 B,.int .i64 L,.int .i64 f0,.int .i64 f1,.int .i64 f2,.int .i64 f3,.int .i64 f4,.slice fa fl fc,.string fs] 81)):=⟨_,rfl⟩
 have hbX:Below w.heap.size w X:=by rw [hX];exact bthen (a00 _ _) (a00 _ _)
 have q1:X.cell? ⟨w.heap.size,1,none⟩=some (.pointer (some ⟨k.nb,0,none⟩)):=by rw [hX];exact (Below.cell (a00 _ _) (p:=⟨w.heap.size,1,none⟩) (by simp)).trans (cell_of_row _ _ 1 _ _ (0,0) (heap_alloc_new _ _))
 have hsz:(w.alloc (.cells #[.pointer (some ⟨k.fb,0,none⟩),.pointer (some ⟨k.nb,0,none⟩)] 128)).heap.size=w.heap.size+1:=by simp
 have qo:∀ j,X.cell? ⟨w.heap.size+1,j,none⟩=#[Value.int .i64 21,.int .i64 on,.int .i64 oa,.string ox,.int .i64 N,.int .i64 W,.int .i64 B,.int .i64 L,.int .i64 f0,.int .i64 f1,.int .i64 f2,.int .i64 f3,.int .i64 f4,.slice fa fl fc,.string fs][j]?:=fun j=>by rw [hX,←hsz];exact cell_of_row _ _ j _ _ (0,0) (heap_alloc_new _ _)
 have o2:X.cell? ⟨w.heap.size+1,2,none⟩=some (.int .i64 oa):=qo 2
 have o3:X.cell? ⟨w.heap.size+1,3,none⟩=some (.string ox):=qo 3
 have hk:=h.nt i k hi
 have hxo:=hk.x.ok (by omega)
 obtain ⟨D,hF,hC,hR⟩:=h.a4s hi hbX (x':=(k.x.sayR k.g oa ox).x) (hk.x.sayR hk.g oa ox) (f1:=40) (f2:=122) (a1:=#[.pointer (some ⟨k.fb,0,none⟩),.int .i64 oa,.string ox]) (a2:=#[.pointer (some ⟨k.nb,0,none⟩),.int .i64 oa,.string ox]) (v:=.tuple #[.int .i64 (k.x.sayR k.g oa ox).q,.int .i64 ((k.x.sayR k.g oa ox).k:Int)]) (fun F1 hn hb hs=>b8b A base k.fb k.g k.x F1 oa ox hk.g hxo X hs hb hn) (fun w1 F2 hn=>b6o k.nb k.g k.x m F2 oa ox hk.g hxo (by omega) w1 hn)
 have HF:Hid _:=hF
 have HC1:Hid _:=fun w1 hd=>hC w1 hd w.heap.size 1 _ (Nat.le_refl _) q1
 have HC2:Hid _:=fun w1 hd=>hC w1 hd (w.heap.size+1) 2 _ (Nat.le_succ _) o2
 have HC3:Hid _:=fun w1 hd=>hC w1 hd (w.heap.size+1) 3 _ (Nat.le_succ _) o3
 have HR:Hid _:=hR
 generalize (k.x.sayR k.g oa ox)=RR at *
 obtain ⟨rq,rk,rx⟩:=RR
 obtain ⟨fb,nb,g,x⟩:=k
 subst hX
 clear h hi hF hC hR qo q1 o2 o3 hbX hsz hk hxo
 generalize KW A base R wb t u m ks ns w=KK at *
 go_enter Tryz.func71,Tryz.ntmps71
 go_wp2_with fail
 generalize (w.alloc (.cells #[.pointer (some ⟨fb,0,none⟩),.pointer (some ⟨nb,0,none⟩)] 128)).alloc (.cells #[.int .i64 21,.int .i64 on,.int .i64 oa,.string ox,.int .i64 N,.int .i64 W,.int .i64 B,.int .i64 L,.int .i64 f0,.int .i64 f1,.int .i64 f2,.int .i64 f3,.int .i64 f4,.slice fa fl fc,.string fs] 81)=X at *
 refine (show Calls _ _ _ _ _ from HF.out).mono ?_
 rintro e w1 ⟨rfl,hd⟩
 have q1:=HC1.out w1 hd
 have o2:=HC2.out w1 hd
 have o3:=HC3.out w1 hd
 have HD:Hid _:=hd
 clear hd
 go_wp2_with fail
 refine (show Calls _ _ _ _ _ from HR.out w1 HD.out).mono ?_
 rintro e w2 ⟨rfl,hK⟩
 have HK:Hid _:=hK
 clear hK q1 o2 o3
 have ek:((rk:Int) == rk)=true:=by simp
 have eq:((rq:Int) == rq)=true:=by simp
 go_wp2_with (go_at_call 107;refine (a11 _ _).mono ?_;rintro e w'' ⟨rfl,rfl⟩)
 go_ret
 exact ⟨rfl,HK.out⟩
theorem b5a (A:Nat→Addr) (base:Nat) (R:Nat→Prop) (wb t u m:Nat) (ks:List Kn) (ns:List Wb) (O:Nat→Prop) (F:Bool × Nat→Nat→Prop) (i:Nat) (k:Wb) (on oa:Int) (ox:ByteArray) (N W B L f0 f1 f2 f3 f4:Int) (fa:Option Addr) (fl fc:Nat) (fs:ByteArray) (hi:ns[i]?=some k) (hm:m≤1000000) (w:World) (h:LW A base R w wb t u m ks ns O F) :
  Calls Tryz.prog 71 #[.agg #[.pointer (some ⟨k.fb,0,none⟩),.pointer (some ⟨k.nb,0,none⟩)],.agg #[.int .i64 22,.int .i64 on,.int .i64 oa,.string ox,.int .i64 N,.int .i64 W,.int .i64 B,.int .i64 L,.int .i64 f0,.int .i64 f1,.int .i64 f2,.int .i64 f3,.int .i64 f4,.slice fa fl fc,.string fs]] w fun e w'=>e=.returned (.bool true)∧KW A base R wb t u m ks ns w w':=by
 obtain ⟨X,hX⟩:∃ X,X=((w.alloc (.cells #[.pointer (some ⟨k.fb,0,none⟩),.pointer (some ⟨k.nb,0,none⟩)] 128)).alloc (.cells #[.int .i64 22,.int .i64 on,.int .i64 oa,.string ox,.int .i64 N,.int .i64 W,.int .i64 B,.int .i64 L,.int .i64 f0,.int .i64 f1,.int .i64 f2,.int .i64 f3,.int .i64 f4,.slice fa fl fc,.string fs] 81)):=⟨_,rfl⟩
 have hbX:Below w.heap.size w X:=by rw [hX];exact bthen (a00 _ _) (a00 _ _)
 have q1:X.cell? ⟨w.heap.size,1,none⟩=some (.pointer (some ⟨k.nb,0,none⟩)):=by rw [hX];exact (Below.cell (a00 _ _) (p:=⟨w.heap.size,1,none⟩) (by simp)).trans (cell_of_row _ _ 1 _ _ (0,0) (heap_alloc_new _ _))
 have hsz:(w.alloc (.cells #[.pointer (some ⟨k.fb,0,none⟩),.pointer (some ⟨k.nb,0,none⟩)] 128)).heap.size=w.heap.size+1:=by simp
 have qo:∀ j,X.cell? ⟨w.heap.size+1,j,none⟩=#[Value.int .i64 22,.int .i64 on,.int .i64 oa,.string ox,.int .i64 N,.int .i64 W,.int .i64 B,.int .i64 L,.int .i64 f0,.int .i64 f1,.int .i64 f2,.int .i64 f3,.int .i64 f4,.slice fa fl fc,.string fs][j]?:=fun j=>by rw [hX,←hsz];exact cell_of_row _ _ j _ _ (0,0) (heap_alloc_new _ _)
 have o2:X.cell? ⟨w.heap.size+1,2,none⟩=some (.int .i64 oa):=qo 2
 have o3:X.cell? ⟨w.heap.size+1,3,none⟩=some (.string ox):=qo 3
 have hk:=h.nt i k hi
 have hxo:=hk.x.ok (by omega)
 obtain ⟨D,hF,hC,hR⟩:=h.a4s hi hbX (x':=(k.x.tickR k.g oa).x) (hk.x.tickR hk.g oa) (f1:=43) (f2:=123) (a1:=#[.pointer (some ⟨k.fb,0,none⟩),.int .i64 oa]) (a2:=#[.pointer (some ⟨k.nb,0,none⟩),.int .i64 oa]) (v:=.int .i64 ((k.x.tickR k.g oa).k:Int)) (fun F1 hn hb hs=>b6y A base k.fb k.g k.x F1 oa hk.g hxo X hs hb hn) (fun w1 F2 hn=>b5w k.nb k.g k.x m F2 oa hk.g hxo (by omega) w1 hn)
 have HF:Hid _:=hF
 have HC1:Hid _:=fun w1 hd=>hC w1 hd w.heap.size 1 _ (Nat.le_refl _) q1
 have HC2:Hid _:=fun w1 hd=>hC w1 hd (w.heap.size+1) 2 _ (Nat.le_succ _) o2
 have HC3:Hid _:=fun w1 hd=>hC w1 hd (w.heap.size+1) 3 _ (Nat.le_succ _) o3
 have HR:Hid _:=hR
 generalize (k.x.tickR k.g oa)=RR at *
 obtain ⟨rq,rk,rx⟩:=RR
 obtain ⟨fb,nb,g,x⟩:=k
 subst hX
 clear h hi hF hC hR qo q1 o2 o3 hbX hsz hk hxo
 generalize KW A base R wb t u m ks ns w=KK at *
 go_enter Tryz.func71,Tryz.ntmps71
 go_wp2_with fail
 generalize (w.alloc (.cells #[.pointer (some ⟨fb,0,none⟩),.pointer (some ⟨nb,0,none⟩)] 128)).alloc (.cells #[.int .i64 22,.int .i64 on,.int .i64 oa,.string ox,.int .i64 N,.int .i64 W,.int .i64 B,.int .i64 L,.int .i64 f0,.int .i64 f1,.int .i64 f2,.int .i64 f3,.int .i64 f4,.slice fa fl fc,.string fs] 81)=X at *
 refine (show Calls _ _ _ _ _ from HF.out).mono ?_
 rintro e w1 ⟨rfl,hd⟩
 have q1:=HC1.out w1 hd
 have o2:=HC2.out w1 hd
 have o3:=HC3.out w1 hd
 have HD:Hid _:=hd
 clear hd
 go_wp2_with fail
 refine (show Calls _ _ _ _ _ from HR.out w1 HD.out).mono ?_
 rintro e w2 ⟨rfl,hK⟩
 have HK:Hid _:=hK
 clear hK q1 o2 o3
 have ek:((rk:Int) == rk)=true:=by simp
 have eq:((rq:Int) == rq)=true:=by simp
 go_wp2_with (go_at_call 107;refine (a11 _ _).mono ?_;rintro e w'' ⟨rfl,rfl⟩)
 go_ret
 exact ⟨rfl,HK.out⟩
theorem ar8 (A:Nat→Addr) (base:Nat) (R:Nat→Prop) (wb t u m:Nat) (ks:List Kn) (ns:List Wb) (O:Nat→Prop) (F:Bool × Nat→Nat→Prop) (i:Nat) (k:Wb) (on oa:Int) (ox:ByteArray) (N W B L f0 f1 f2 f3 f4:Int) (fa:Option Addr) (fl fc:Nat) (fs:ByteArray) (hi:ns[i]?=some k) (hm:m≤1000000) (w:World) (h:LW A base R w wb t u m ks ns O F) :
  Calls Tryz.prog 71 #[.agg #[.pointer (some ⟨k.fb,0,none⟩),.pointer (some ⟨k.nb,0,none⟩)],.agg #[.int .i64 23,.int .i64 on,.int .i64 oa,.string ox,.int .i64 N,.int .i64 W,.int .i64 B,.int .i64 L,.int .i64 f0,.int .i64 f1,.int .i64 f2,.int .i64 f3,.int .i64 f4,.slice fa fl fc,.string fs]] w fun e w'=>e=.returned (.bool true)∧KW A base R wb t u m ks ns w w':=by
 obtain ⟨X,hX⟩:∃ X,X=((w.alloc (.cells #[.pointer (some ⟨k.fb,0,none⟩),.pointer (some ⟨k.nb,0,none⟩)] 128)).alloc (.cells #[.int .i64 23,.int .i64 on,.int .i64 oa,.string ox,.int .i64 N,.int .i64 W,.int .i64 B,.int .i64 L,.int .i64 f0,.int .i64 f1,.int .i64 f2,.int .i64 f3,.int .i64 f4,.slice fa fl fc,.string fs] 81)):=⟨_,rfl⟩
 have hbX:Below w.heap.size w X:=by rw [hX];exact bthen (a00 _ _) (a00 _ _)
 have q1:X.cell? ⟨w.heap.size,1,none⟩=some (.pointer (some ⟨k.nb,0,none⟩)):=by rw [hX];exact (Below.cell (a00 _ _) (p:=⟨w.heap.size,1,none⟩) (by simp)).trans (cell_of_row _ _ 1 _ _ (0,0) (heap_alloc_new _ _))
 have hsz:(w.alloc (.cells #[.pointer (some ⟨k.fb,0,none⟩),.pointer (some ⟨k.nb,0,none⟩)] 128)).heap.size=w.heap.size+1:=by simp
 have qo:∀ j,X.cell? ⟨w.heap.size+1,j,none⟩=#[Value.int .i64 23,.int .i64 on,.int .i64 oa,.string ox,.int .i64 N,.int .i64 W,.int .i64 B,.int .i64 L,.int .i64 f0,.int .i64 f1,.int .i64 f2,.int .i64 f3,.int .i64 f4,.slice fa fl fc,.string fs][j]?:=fun j=>by rw [hX,←hsz];exact cell_of_row _ _ j _ _ (0,0) (heap_alloc_new _ _)
 have o2:X.cell? ⟨w.heap.size+1,2,none⟩=some (.int .i64 oa):=qo 2
 have o3:X.cell? ⟨w.heap.size+1,3,none⟩=some (.string ox):=qo 3
 have hk:=h.nt i k hi
 have hxo:=hk.x.ok (by omega)
 obtain ⟨D,hF,hC,hR⟩:=h.a4s hi hbX (x':=(k.x.a0y k.g oa).x) (hk.x.a0y hk.g oa) (f1:=41) (f2:=124) (a1:=#[.pointer (some ⟨k.fb,0,none⟩),.int .i64 oa]) (a2:=#[.pointer (some ⟨k.nb,0,none⟩),.int .i64 oa]) (v:=.int .i64 ((k.x.a0y k.g oa).k:Int)) (fun F1 hn hb hs=>ay9 A base k.fb k.g k.x F1 oa hk.g hxo X hs hb hn) (fun w1 F2 hn=>ao7 k.nb k.g k.x m F2 oa hk.g hxo (by omega) w1 hn)
 have HF:Hid _:=hF
 have HC1:Hid _:=fun w1 hd=>hC w1 hd w.heap.size 1 _ (Nat.le_refl _) q1
 have HC2:Hid _:=fun w1 hd=>hC w1 hd (w.heap.size+1) 2 _ (Nat.le_succ _) o2
 have HC3:Hid _:=fun w1 hd=>hC w1 hd (w.heap.size+1) 3 _ (Nat.le_succ _) o3
 have HR:Hid _:=hR
 generalize (k.x.a0y k.g oa)=RR at *
 obtain ⟨rq,rk,rx⟩:=RR
 obtain ⟨fb,nb,g,x⟩:=k
 subst hX
 clear h hi hF hC hR qo q1 o2 o3 hbX hsz hk hxo
 generalize KW A base R wb t u m ks ns w=KK at *
 go_enter Tryz.func71,Tryz.ntmps71
 go_wp2_with fail
 generalize (w.alloc (.cells #[.pointer (some ⟨fb,0,none⟩),.pointer (some ⟨nb,0,none⟩)] 128)).alloc (.cells #[.int .i64 23,.int .i64 on,.int .i64 oa,.string ox,.int .i64 N,.int .i64 W,.int .i64 B,.int .i64 L,.int .i64 f0,.int .i64 f1,.int .i64 f2,.int .i64 f3,.int .i64 f4,.slice fa fl fc,.string fs] 81)=X at *
 refine (show Calls _ _ _ _ _ from HF.out).mono ?_
 rintro e w1 ⟨rfl,hd⟩
 have q1:=HC1.out w1 hd
 have o2:=HC2.out w1 hd
 have o3:=HC3.out w1 hd
 have HD:Hid _:=hd
 clear hd
 go_wp2_with fail
 refine (show Calls _ _ _ _ _ from HR.out w1 HD.out).mono ?_
 rintro e w2 ⟨rfl,hK⟩
 have HK:Hid _:=hK
 clear hK q1 o2 o3
 have ek:((rk:Int) == rk)=true:=by simp
 have eq:((rq:Int) == rq)=true:=by simp
 go_wp2_with (go_at_call 107;refine (a11 _ _).mono ?_;rintro e w'' ⟨rfl,rfl⟩)
 go_ret
 exact ⟨rfl,HK.out⟩
theorem b59 (A:Nat→Addr) (base:Nat) (R:Nat→Prop) (wb t u m:Nat) (ks:List Kn) (ns:List Wb) (O:Nat→Prop) (F:Bool × Nat→Nat→Prop) (i:Nat) (k:Wb) (on oa:Int) (ox:ByteArray) (N W B L f0 f1 f2 f3 f4:Int) (fa:Option Addr) (fl fc:Nat) (fs:ByteArray) (hi:ns[i]?=some k) (hm:m≤1000000) (w:World) (h:LW A base R w wb t u m ks ns O F) :
  Calls Tryz.prog 71 #[.agg #[.pointer (some ⟨k.fb,0,none⟩),.pointer (some ⟨k.nb,0,none⟩)],.agg #[.int .i64 24,.int .i64 on,.int .i64 oa,.string ox,.int .i64 N,.int .i64 W,.int .i64 B,.int .i64 L,.int .i64 f0,.int .i64 f1,.int .i64 f2,.int .i64 f3,.int .i64 f4,.slice fa fl fc,.string fs]] w fun e w'=>e=.returned (.bool true)∧KW A base R wb t u m ks ns w w':=by
 obtain ⟨X,hX⟩:∃ X,X=((w.alloc (.cells #[.pointer (some ⟨k.fb,0,none⟩),.pointer (some ⟨k.nb,0,none⟩)] 128)).alloc (.cells #[.int .i64 24,.int .i64 on,.int .i64 oa,.string ox,.int .i64 N,.int .i64 W,.int .i64 B,.int .i64 L,.int .i64 f0,.int .i64 f1,.int .i64 f2,.int .i64 f3,.int .i64 f4,.slice fa fl fc,.string fs] 81)):=⟨_,rfl⟩
 have hbX:Below w.heap.size w X:=by rw [hX];exact bthen (a00 _ _) (a00 _ _)
 have q1:X.cell? ⟨w.heap.size,1,none⟩=some (.pointer (some ⟨k.nb,0,none⟩)):=by rw [hX];exact (Below.cell (a00 _ _) (p:=⟨w.heap.size,1,none⟩) (by simp)).trans (cell_of_row _ _ 1 _ _ (0,0) (heap_alloc_new _ _))
 have hsz:(w.alloc (.cells #[.pointer (some ⟨k.fb,0,none⟩),.pointer (some ⟨k.nb,0,none⟩)] 128)).heap.size=w.heap.size+1:=by simp
 have qo:∀ j,X.cell? ⟨w.heap.size+1,j,none⟩=#[Value.int .i64 24,.int .i64 on,.int .i64 oa,.string ox,.int .i64 N,.int .i64 W,.int .i64 B,.int .i64 L,.int .i64 f0,.int .i64 f1,.int .i64 f2,.int .i64 f3,.int .i64 f4,.slice fa fl fc,.string fs][j]?:=fun j=>by rw [hX,←hsz];exact cell_of_row _ _ j _ _ (0,0) (heap_alloc_new _ _)
 have o2:X.cell? ⟨w.heap.size+1,2,none⟩=some (.int .i64 oa):=qo 2
 have o3:X.cell? ⟨w.heap.size+1,3,none⟩=some (.string ox):=qo 3
 have hk:=h.nt i k hi
 have hxo:=hk.x.ok (by omega)
 obtain ⟨D,hF,hC,hR⟩:=h.a4s hi hbX (x':=(k.x.dropR oa).x) (hk.x.dropR oa) (f1:=50) (f2:=125) (a1:=#[.pointer (some ⟨k.fb,0,none⟩),.int .i64 oa]) (a2:=#[.pointer (some ⟨k.nb,0,none⟩),.int .i64 oa]) (v:=.int .i64 ((k.x.dropR oa).k:Int)) (fun F1 hn hb hs=>b73 A base k.fb k.g k.x F1 oa hk.g hxo X hs hb hn) (fun w1 F2 hn=>b52 k.nb k.g k.x m F2 oa hxo w1 hn)
 have HF:Hid _:=hF
 have HC1:Hid _:=fun w1 hd=>hC w1 hd w.heap.size 1 _ (Nat.le_refl _) q1
 have HC2:Hid _:=fun w1 hd=>hC w1 hd (w.heap.size+1) 2 _ (Nat.le_succ _) o2
 have HC3:Hid _:=fun w1 hd=>hC w1 hd (w.heap.size+1) 3 _ (Nat.le_succ _) o3
 have HR:Hid _:=hR
 generalize (k.x.dropR oa)=RR at *
 obtain ⟨rq,rk,rx⟩:=RR
 obtain ⟨fb,nb,g,x⟩:=k
 subst hX
 clear h hi hF hC hR qo q1 o2 o3 hbX hsz hk hxo
 generalize KW A base R wb t u m ks ns w=KK at *
 go_enter Tryz.func71,Tryz.ntmps71
 go_wp2_with fail
 generalize (w.alloc (.cells #[.pointer (some ⟨fb,0,none⟩),.pointer (some ⟨nb,0,none⟩)] 128)).alloc (.cells #[.int .i64 24,.int .i64 on,.int .i64 oa,.string ox,.int .i64 N,.int .i64 W,.int .i64 B,.int .i64 L,.int .i64 f0,.int .i64 f1,.int .i64 f2,.int .i64 f3,.int .i64 f4,.slice fa fl fc,.string fs] 81)=X at *
 refine (show Calls _ _ _ _ _ from HF.out).mono ?_
 rintro e w1 ⟨rfl,hd⟩
 have q1:=HC1.out w1 hd
 have o2:=HC2.out w1 hd
 have o3:=HC3.out w1 hd
 have HD:Hid _:=hd
 clear hd
 go_wp2_with fail
 refine (show Calls _ _ _ _ _ from HR.out w1 HD.out).mono ?_
 rintro e w2 ⟨rfl,hK⟩
 have HK:Hid _:=hK
 clear hK q1 o2 o3
 have ek:((rk:Int) == rk)=true:=by simp
 have eq:((rq:Int) == rq)=true:=by simp
 go_wp2_with (go_at_call 107;refine (a11 _ _).mono ?_;rintro e w'' ⟨rfl,rfl⟩)
 go_ret
 exact ⟨rfl,HK.out⟩
theorem b4h (A:Nat→Addr) (base:Nat) (R:Nat→Prop) (wb t u m:Nat) (ks:List Kn) (ns:List Wb) (O:Nat→Prop) (F:Bool × Nat→Nat→Prop) (i:Nat) (k:Wb) (on oa:Int) (ox:ByteArray) (N W B L f0 f1 f2 f3 f4:Int) (fa:Option Addr) (fl fc:Nat) (fs:ByteArray) (hi:ns[i]?=some k) (hm:m≤1000000) (w:World) (h:LW A base R w wb t u m ks ns O F) :
  Calls Tryz.prog 71 #[.agg #[.pointer (some ⟨k.fb,0,none⟩),.pointer (some ⟨k.nb,0,none⟩)],.agg #[.int .i64 25,.int .i64 on,.int .i64 oa,.string ox,.int .i64 N,.int .i64 W,.int .i64 B,.int .i64 L,.int .i64 f0,.int .i64 f1,.int .i64 f2,.int .i64 f3,.int .i64 f4,.slice fa fl fc,.string fs]] w fun e w'=>e=.returned (.bool true)∧KW A base R wb t u m ks ns w w':=by
 obtain ⟨X,hX⟩:∃ X,X=((w.alloc (.cells #[.pointer (some ⟨k.fb,0,none⟩),.pointer (some ⟨k.nb,0,none⟩)] 128)).alloc (.cells #[.int .i64 25,.int .i64 on,.int .i64 oa,.string ox,.int .i64 N,.int .i64 W,.int .i64 B,.int .i64 L,.int .i64 f0,.int .i64 f1,.int .i64 f2,.int .i64 f3,.int .i64 f4,.slice fa fl fc,.string fs] 81)):=⟨_,rfl⟩
 have hbX:Below w.heap.size w X:=by rw [hX];exact bthen (a00 _ _) (a00 _ _)
 have q1:X.cell? ⟨w.heap.size,1,none⟩=some (.pointer (some ⟨k.nb,0,none⟩)):=by rw [hX];exact (Below.cell (a00 _ _) (p:=⟨w.heap.size,1,none⟩) (by simp)).trans (cell_of_row _ _ 1 _ _ (0,0) (heap_alloc_new _ _))
 have hsz:(w.alloc (.cells #[.pointer (some ⟨k.fb,0,none⟩),.pointer (some ⟨k.nb,0,none⟩)] 128)).heap.size=w.heap.size+1:=by simp
 have qo:∀ j,X.cell? ⟨w.heap.size+1,j,none⟩=#[Value.int .i64 25,.int .i64 on,.int .i64 oa,.string ox,.int .i64 N,.int .i64 W,.int .i64 B,.int .i64 L,.int .i64 f0,.int .i64 f1,.int .i64 f2,.int .i64 f3,.int .i64 f4,.slice fa fl fc,.string fs][j]?:=fun j=>by rw [hX,←hsz];exact cell_of_row _ _ j _ _ (0,0) (heap_alloc_new _ _)
 have o2:X.cell? ⟨w.heap.size+1,2,none⟩=some (.int .i64 oa):=qo 2
 have o3:X.cell? ⟨w.heap.size+1,3,none⟩=some (.string ox):=qo 3
 have hk:=h.nt i k hi
 have hxo:=hk.x.ok (by omega)
 obtain ⟨D,hF,hC,hR⟩:=h.a4s hi hbX (x':=(k.x.copyR oa).x) (hk.x.copyR oa) (f1:=60) (f2:=126) (a1:=#[.pointer (some ⟨k.fb,0,none⟩),.int .i64 oa]) (a2:=#[.pointer (some ⟨k.nb,0,none⟩),.int .i64 oa]) (v:=.int .i64 ((k.x.copyR oa).k:Int)) (fun F1 hn hb hs=>b7d A base k.fb k.g k.x F1 oa hk.g hxo X hs hb hn) (fun w1 F2 hn=>b50 k.nb k.g k.x m F2 oa hxo w1 hn)
 have HF:Hid _:=hF
 have HC1:Hid _:=fun w1 hd=>hC w1 hd w.heap.size 1 _ (Nat.le_refl _) q1
 have HC2:Hid _:=fun w1 hd=>hC w1 hd (w.heap.size+1) 2 _ (Nat.le_succ _) o2
 have HC3:Hid _:=fun w1 hd=>hC w1 hd (w.heap.size+1) 3 _ (Nat.le_succ _) o3
 have HR:Hid _:=hR
 generalize (k.x.copyR oa)=RR at *
 obtain ⟨rq,rk,rx⟩:=RR
 obtain ⟨fb,nb,g,x⟩:=k
 subst hX
 clear h hi hF hC hR qo q1 o2 o3 hbX hsz hk hxo
 generalize KW A base R wb t u m ks ns w=KK at *
 go_enter Tryz.func71,Tryz.ntmps71
 go_wp2_with fail
 generalize (w.alloc (.cells #[.pointer (some ⟨fb,0,none⟩),.pointer (some ⟨nb,0,none⟩)] 128)).alloc (.cells #[.int .i64 25,.int .i64 on,.int .i64 oa,.string ox,.int .i64 N,.int .i64 W,.int .i64 B,.int .i64 L,.int .i64 f0,.int .i64 f1,.int .i64 f2,.int .i64 f3,.int .i64 f4,.slice fa fl fc,.string fs] 81)=X at *
 refine (show Calls _ _ _ _ _ from HF.out).mono ?_
 rintro e w1 ⟨rfl,hd⟩
 have q1:=HC1.out w1 hd
 have o2:=HC2.out w1 hd
 have o3:=HC3.out w1 hd
 have HD:Hid _:=hd
 clear hd
 go_wp2_with fail
 refine (show Calls _ _ _ _ _ from HR.out w1 HD.out).mono ?_
 rintro e w2 ⟨rfl,hK⟩
 have HK:Hid _:=hK
 clear hK q1 o2 o3
 have ek:((rk:Int) == rk)=true:=by simp
 have eq:((rq:Int) == rq)=true:=by simp
 go_wp2_with (go_at_call 107;refine (a11 _ _).mono ?_;rintro e w'' ⟨rfl,rfl⟩)
 go_ret
 exact ⟨rfl,HK.out⟩
theorem b4n (A:Nat→Addr) (base:Nat) (R:Nat→Prop) (wb t u m:Nat) (ks:List Kn) (ns:List Wb) (O:Nat→Prop) (F:Bool × Nat→Nat→Prop) (i:Nat) (k:Wb) (on oa:Int) (ox:ByteArray) (N W B L f0 f1 f2 f3 f4:Int) (fa:Option Addr) (fl fc:Nat) (fs:ByteArray) (hi:ns[i]?=some k) (hm:m≤1000000) (w:World) (h:LW A base R w wb t u m ks ns O F) :
  Calls Tryz.prog 71 #[.agg #[.pointer (some ⟨k.fb,0,none⟩),.pointer (some ⟨k.nb,0,none⟩)],.agg #[.int .i64 26,.int .i64 on,.int .i64 oa,.string ox,.int .i64 N,.int .i64 W,.int .i64 B,.int .i64 L,.int .i64 f0,.int .i64 f1,.int .i64 f2,.int .i64 f3,.int .i64 f4,.slice fa fl fc,.string fs]] w fun e w'=>e=.returned (.bool true)∧KW A base R wb t u m ks ns w w':=by
 obtain ⟨X,hX⟩:∃ X,X=((w.alloc (.cells #[.pointer (some ⟨k.fb,0,none⟩),.pointer (some ⟨k.nb,0,none⟩)] 128)).alloc (.cells #[.int .i64 26,.int .i64 on,.int .i64 oa,.string ox,.int .i64 N,.int .i64 W,.int .i64 B,.int .i64 L,.int .i64 f0,.int .i64 f1,.int .i64 f2,.int .i64 f3,.int .i64 f4,.slice fa fl fc,.string fs] 81)):=⟨_,rfl⟩
 have hbX:Below w.heap.size w X:=by rw [hX];exact bthen (a00 _ _) (a00 _ _)
 have q1:X.cell? ⟨w.heap.size,1,none⟩=some (.pointer (some ⟨k.nb,0,none⟩)):=by rw [hX];exact (Below.cell (a00 _ _) (p:=⟨w.heap.size,1,none⟩) (by simp)).trans (cell_of_row _ _ 1 _ _ (0,0) (heap_alloc_new _ _))
 have hsz:(w.alloc (.cells #[.pointer (some ⟨k.fb,0,none⟩),.pointer (some ⟨k.nb,0,none⟩)] 128)).heap.size=w.heap.size+1:=by simp
 have qo:∀ j,X.cell? ⟨w.heap.size+1,j,none⟩=#[Value.int .i64 26,.int .i64 on,.int .i64 oa,.string ox,.int .i64 N,.int .i64 W,.int .i64 B,.int .i64 L,.int .i64 f0,.int .i64 f1,.int .i64 f2,.int .i64 f3,.int .i64 f4,.slice fa fl fc,.string fs][j]?:=fun j=>by rw [hX,←hsz];exact cell_of_row _ _ j _ _ (0,0) (heap_alloc_new _ _)
 have o2:X.cell? ⟨w.heap.size+1,2,none⟩=some (.int .i64 oa):=qo 2
 have o3:X.cell? ⟨w.heap.size+1,3,none⟩=some (.string ox):=qo 3
 have hk:=h.nt i k hi
 have hxo:=hk.x.ok (by omega)
 obtain ⟨D,hF,hC,hR⟩:=h.a4s hi hbX (x':=(k.x.sendR k.g oa ox).x) (hk.x.sendR oa ox) (f1:=87) (f2:=127) (a1:=#[.pointer (some ⟨k.fb,0,none⟩),.int .i64 oa,.string ox]) (a2:=#[.pointer (some ⟨k.nb,0,none⟩),.int .i64 oa,.string ox]) (v:=.int .i64 ((k.x.sendR k.g oa ox).k:Int)) (fun F1 hn hb hs=>b6k A base k.fb k.g k.x F1 oa ox hxo X hs hb hn) (fun w1 F2 hn=>b4b k.nb k.g k.x m F2 oa ox hxo w1 hn)
 have HF:Hid _:=hF
 have HC1:Hid _:=fun w1 hd=>hC w1 hd w.heap.size 1 _ (Nat.le_refl _) q1
 have HC2:Hid _:=fun w1 hd=>hC w1 hd (w.heap.size+1) 2 _ (Nat.le_succ _) o2
 have HC3:Hid _:=fun w1 hd=>hC w1 hd (w.heap.size+1) 3 _ (Nat.le_succ _) o3
 have HR:Hid _:=hR
 generalize (k.x.sendR k.g oa ox)=RR at *
 obtain ⟨rq,rk,rx⟩:=RR
 obtain ⟨fb,nb,g,x⟩:=k
 subst hX
 clear h hi hF hC hR qo q1 o2 o3 hbX hsz hk hxo
 generalize KW A base R wb t u m ks ns w=KK at *
 go_enter Tryz.func71,Tryz.ntmps71
 go_wp2_with fail
 generalize (w.alloc (.cells #[.pointer (some ⟨fb,0,none⟩),.pointer (some ⟨nb,0,none⟩)] 128)).alloc (.cells #[.int .i64 26,.int .i64 on,.int .i64 oa,.string ox,.int .i64 N,.int .i64 W,.int .i64 B,.int .i64 L,.int .i64 f0,.int .i64 f1,.int .i64 f2,.int .i64 f3,.int .i64 f4,.slice fa fl fc,.string fs] 81)=X at *
 refine (show Calls _ _ _ _ _ from HF.out).mono ?_
 rintro e w1 ⟨rfl,hd⟩
 have q1:=HC1.out w1 hd
 have o2:=HC2.out w1 hd
 have o3:=HC3.out w1 hd
 have HD:Hid _:=hd
 clear hd
 go_wp2_with fail
 refine (show Calls _ _ _ _ _ from HR.out w1 HD.out).mono ?_
 rintro e w2 ⟨rfl,hK⟩
 have HK:Hid _:=hK
 clear hK q1 o2 o3
 have ek:((rk:Int) == rk)=true:=by simp
 have eq:((rq:Int) == rq)=true:=by simp
 go_wp2_with (go_at_call 107;refine (a11 _ _).mono ?_;rintro e w'' ⟨rfl,rfl⟩)
 go_ret
 exact ⟨rfl,HK.out⟩
end Go.Proofs.YtabecbjfamphbaaGreatDoor
