/- A part of the proof. -/
import Derived.Test.YtabecbjfamphbaaGreatDoorM45
namespace Go.Proofs.YtabecbjfamphbaaGreatDoor
open Go.RowKit Go.Stop Go.Extern
set_option maxRecDepth 100000
set_option maxHeartbeats 4000000
theorem b58 (A:Nat→Addr) (base:Nat) (R:Nat→Prop) (wb t u m:Nat) (ks:List Kn) (ns:List Wb) (O:Nat→Prop) (F:Bool × Nat→Nat→Prop) (i:Nat) (k:Wb) (K:Int) (on oa:Int) (ox:ByteArray) (N W B L f0 f1 f2 f3 f4:Int) (fa:Option Addr) (fl fc:Nat) (fs:ByteArray) (hK:21≤K∧K≤26) (hi:ns[i]?=some k) (hm:m≤1000000) (w:World) (h:LW A base R w wb t u m ks ns O F) :
  Calls Tryz.prog 71 #[.agg #[.pointer (some ⟨k.fb,0,none⟩),.pointer (some ⟨k.nb,0,none⟩)],.agg #[.int .i64 K,.int .i64 on,.int .i64 oa,.string ox,.int .i64 N,.int .i64 W,.int .i64 B,.int .i64 L,.int .i64 f0,.int .i64 f1,.int .i64 f2,.int .i64 f3,.int .i64 f4,.slice fa fl fc,.string fs]] w fun e w'=>e=.returned (.bool true)∧KW A base R wb t u m ks ns w w':=by
 have hc:K=21∨K=22∨K=23∨K=24∨K=25∨K=26:=by omega
 rcases hc with rfl | rfl | rfl | rfl | rfl | rfl
 ·exact b74 A base R wb t u m ks ns O F i k on oa ox N W B L f0 f1 f2 f3 f4 fa fl fc fs hi hm w h
 ·exact b5a A base R wb t u m ks ns O F i k on oa ox N W B L f0 f1 f2 f3 f4 fa fl fc fs hi hm w h
 ·exact ar8 A base R wb t u m ks ns O F i k on oa ox N W B L f0 f1 f2 f3 f4 fa fl fc fs hi hm w h
 ·exact b59 A base R wb t u m ks ns O F i k on oa ox N W B L f0 f1 f2 f3 f4 fa fl fc fs hi hm w h
 ·exact b4h A base R wb t u m ks ns O F i k on oa ox N W B L f0 f1 f2 f3 f4 fa fl fc fs hi hm w h
 ·exact b4n A base R wb t u m ks ns O F i k on oa ox N W B L f0 f1 f2 f3 f4 fa fl fc fs hi hm w h
theorem ag7 (A:Nat→Addr) (base:Nat) (R:Nat→Prop) (wb t u m:Nat) (ks:List Kn) (ns:List Wb) (O:Nat→Prop) (F:Bool × Nat→Nat→Prop) (K:Int) (on oa:Int) (ox:ByteArray) (N W B L f0 f1 f2 f3 f4:Int) (fa:Option Addr) (fl fc:Nat) (fs:ByteArray) (hK:21≤K∧K≤26) (hns:0<ns.length) (hm:m≤1000000) (ho:I64 on) (w:World) (h:LW A base R w wb t u m ks ns O F) :
  Calls Tryz.prog 37 #[.pointer (some ⟨wb,0,none⟩),.agg #[.int .i64 K,.int .i64 on,.int .i64 oa,.string ox,.int .i64 N,.int .i64 W,.int .i64 B,.int .i64 L,.int .i64 f0,.int .i64 f1,.int .i64 f2,.int .i64 f3,.int .i64 f4,.slice fa fl fc,.string fs]] w fun e w'=>e=.returned (.bool true)∧KW A base R wb t u m ks ns w w':=by
 have hfew:=h.few
 have hpb:=pk_bd on ns.length (by omega)
 obtain ⟨i,hip⟩:∃ i:Nat,(i:Int)=pk on ns.length:=⟨(pk on ns.length).toNat,by omega⟩
 have hil:i<ns.length:=by omega
 obtain ⟨k,hi⟩:∃ k,ns[i]?=some k:=⟨ns[i],List.getElem?_eq_getElem hil⟩
 have HPk:Hid (∀ y,Calls Tryz.prog 69 #[.int .i64 on,.int .i64 (ns.length:Int)] y fun e w'=>e=.returned (.int .i64 (i:Int))∧w'=y):=fun y=>by rw [hip];exact a5p on ns.length y ho (by omega) (by omega)
 obtain ⟨ka,kc,c3,hown,_⟩:=(h.low (a00 w (.cells #[.int .i64 K,.int .i64 on,.int .i64 oa,.string ox,.int .i64 N,.int .i64 W,.int .i64 B,.int .i64 L,.int .i64 f0,.int .i64 f1,.int .i64 f2,.int .i64 f3,.int .i64 f4,.slice fa fl fc,.string fs] 81))).bk.nt
 obtain ⟨r0,r1⟩:=a8m ns i k hi
 obtain ⟨gk,e1,k0,k1⟩:∃ gk,ka=some ⟨gk,0,none⟩∧(w.alloc (.cells #[.int .i64 K,.int .i64 on,.int .i64 oa,.string ox,.int .i64 N,.int .i64 W,.int .i64 B,.int .i64 L,.int .i64 f0,.int .i64 f1,.int .i64 f2,.int .i64 f3,.int .i64 f4,.slice fa fl fc,.string fs] 81)).cell? ⟨gk,i * 2,none⟩=some (.pointer (some ⟨k.fb,0,none⟩))∧(w.alloc (.cells #[.int .i64 K,.int .i64 on,.int .i64 oa,.string ox,.int .i64 N,.int .i64 W,.int .i64 B,.int .i64 L,.int .i64 f0,.int .i64 f1,.int .i64 f2,.int .i64 f3,.int .i64 f4,.slice fa fl fc,.string fs] 81)).cell? ⟨gk,i * 2+1,none⟩=some (.pointer (some ⟨k.nb,0,none⟩)):=by
  rcases hown.2 with ⟨_,h9⟩ | ⟨gk,cap',cur,e,_⟩
  ·omega
  ·cases e
   exact ⟨gk,rfl,(World.ownsRow.cellAt hown (i * 2) (by omega)).trans r0,(World.ownsRow.cellAt hown (i * 2+1) (by omega)).trans r1⟩
 subst e1
 have qo:∀ j,(w.alloc (.cells #[.int .i64 K,.int .i64 on,.int .i64 oa,.string ox,.int .i64 N,.int .i64 W,.int .i64 B,.int .i64 L,.int .i64 f0,.int .i64 f1,.int .i64 f2,.int .i64 f3,.int .i64 f4,.slice fa fl fc,.string fs] 81)).cell? ⟨w.heap.size,j,none⟩=#[Value.int .i64 K,.int .i64 on,.int .i64 oa,.string ox,.int .i64 N,.int .i64 W,.int .i64 B,.int .i64 L,.int .i64 f0,.int .i64 f1,.int .i64 f2,.int .i64 f3,.int .i64 f4,.slice fa fl fc,.string fs][j]?:=fun j=>cell_of_row _ _ j _ _ (0,0) (heap_alloc_new _ _)
 have o0:(w.alloc (.cells #[.int .i64 K,.int .i64 on,.int .i64 oa,.string ox,.int .i64 N,.int .i64 W,.int .i64 B,.int .i64 L,.int .i64 f0,.int .i64 f1,.int .i64 f2,.int .i64 f3,.int .i64 f4,.slice fa fl fc,.string fs] 81)).cell? ⟨w.heap.size,0,none⟩=some (.int .i64 K):=qo 0
 have o1:(w.alloc (.cells #[.int .i64 K,.int .i64 on,.int .i64 oa,.string ox,.int .i64 N,.int .i64 W,.int .i64 B,.int .i64 L,.int .i64 f0,.int .i64 f1,.int .i64 f2,.int .i64 f3,.int .i64 f4,.slice fa fl fc,.string fs] 81)).cell? ⟨w.heap.size,1,none⟩=some (.int .i64 on):=qo 1
 have o2:(w.alloc (.cells #[.int .i64 K,.int .i64 on,.int .i64 oa,.string ox,.int .i64 N,.int .i64 W,.int .i64 B,.int .i64 L,.int .i64 f0,.int .i64 f1,.int .i64 f2,.int .i64 f3,.int .i64 f4,.slice fa fl fc,.string fs] 81)).cell? ⟨w.heap.size,2,none⟩=some (.int .i64 oa):=qo 2
 have o3:(w.alloc (.cells #[.int .i64 K,.int .i64 on,.int .i64 oa,.string ox,.int .i64 N,.int .i64 W,.int .i64 B,.int .i64 L,.int .i64 f0,.int .i64 f1,.int .i64 f2,.int .i64 f3,.int .i64 f4,.slice fa fl fc,.string fs] 81)).cell? ⟨w.heap.size,3,none⟩=some (.string ox):=qo 3
 have o4:(w.alloc (.cells #[.int .i64 K,.int .i64 on,.int .i64 oa,.string ox,.int .i64 N,.int .i64 W,.int .i64 B,.int .i64 L,.int .i64 f0,.int .i64 f1,.int .i64 f2,.int .i64 f3,.int .i64 f4,.slice fa fl fc,.string fs] 81)).cell? ⟨w.heap.size,4,none⟩=some (.int .i64 N):=qo 4
 have o5:(w.alloc (.cells #[.int .i64 K,.int .i64 on,.int .i64 oa,.string ox,.int .i64 N,.int .i64 W,.int .i64 B,.int .i64 L,.int .i64 f0,.int .i64 f1,.int .i64 f2,.int .i64 f3,.int .i64 f4,.slice fa fl fc,.string fs] 81)).cell? ⟨w.heap.size,5,none⟩=some (.int .i64 W):=qo 5
 have o6:(w.alloc (.cells #[.int .i64 K,.int .i64 on,.int .i64 oa,.string ox,.int .i64 N,.int .i64 W,.int .i64 B,.int .i64 L,.int .i64 f0,.int .i64 f1,.int .i64 f2,.int .i64 f3,.int .i64 f4,.slice fa fl fc,.string fs] 81)).cell? ⟨w.heap.size,6,none⟩=some (.int .i64 B):=qo 6
 have o7:(w.alloc (.cells #[.int .i64 K,.int .i64 on,.int .i64 oa,.string ox,.int .i64 N,.int .i64 W,.int .i64 B,.int .i64 L,.int .i64 f0,.int .i64 f1,.int .i64 f2,.int .i64 f3,.int .i64 f4,.slice fa fl fc,.string fs] 81)).cell? ⟨w.heap.size,7,none⟩=some (.int .i64 L):=qo 7
 have o8:(w.alloc (.cells #[.int .i64 K,.int .i64 on,.int .i64 oa,.string ox,.int .i64 N,.int .i64 W,.int .i64 B,.int .i64 L,.int .i64 f0,.int .i64 f1,.int .i64 f2,.int .i64 f3,.int .i64 f4,.slice fa fl fc,.string fs] 81)).cell? ⟨w.heap.size,8,none⟩=some (.int .i64 f0):=qo 8
 have o9:(w.alloc (.cells #[.int .i64 K,.int .i64 on,.int .i64 oa,.string ox,.int .i64 N,.int .i64 W,.int .i64 B,.int .i64 L,.int .i64 f0,.int .i64 f1,.int .i64 f2,.int .i64 f3,.int .i64 f4,.slice fa fl fc,.string fs] 81)).cell? ⟨w.heap.size,9,none⟩=some (.int .i64 f1):=qo 9
 have o10:(w.alloc (.cells #[.int .i64 K,.int .i64 on,.int .i64 oa,.string ox,.int .i64 N,.int .i64 W,.int .i64 B,.int .i64 L,.int .i64 f0,.int .i64 f1,.int .i64 f2,.int .i64 f3,.int .i64 f4,.slice fa fl fc,.string fs] 81)).cell? ⟨w.heap.size,10,none⟩=some (.int .i64 f2):=qo 10
 have o11:(w.alloc (.cells #[.int .i64 K,.int .i64 on,.int .i64 oa,.string ox,.int .i64 N,.int .i64 W,.int .i64 B,.int .i64 L,.int .i64 f0,.int .i64 f1,.int .i64 f2,.int .i64 f3,.int .i64 f4,.slice fa fl fc,.string fs] 81)).cell? ⟨w.heap.size,11,none⟩=some (.int .i64 f3):=qo 11
 have o12:(w.alloc (.cells #[.int .i64 K,.int .i64 on,.int .i64 oa,.string ox,.int .i64 N,.int .i64 W,.int .i64 B,.int .i64 L,.int .i64 f0,.int .i64 f1,.int .i64 f2,.int .i64 f3,.int .i64 f4,.slice fa fl fc,.string fs] 81)).cell? ⟨w.heap.size,12,none⟩=some (.int .i64 f4):=qo 12
 have o13:(w.alloc (.cells #[.int .i64 K,.int .i64 on,.int .i64 oa,.string ox,.int .i64 N,.int .i64 W,.int .i64 B,.int .i64 L,.int .i64 f0,.int .i64 f1,.int .i64 f2,.int .i64 f3,.int .i64 f4,.slice fa fl fc,.string fs] 81)).cell? ⟨w.heap.size,13,none⟩=some (.slice fa fl fc):=qo 13
 have o14:(w.alloc (.cells #[.int .i64 K,.int .i64 on,.int .i64 oa,.string ox,.int .i64 N,.int .i64 W,.int .i64 B,.int .i64 L,.int .i64 f0,.int .i64 f1,.int .i64 f2,.int .i64 f3,.int .i64 f4,.slice fa fl fc,.string fs] 81)).cell? ⟨w.heap.size,14,none⟩=some (.string fs):=qo 14
 clear qo
 have hki:(i:Int)<(ns.length:Int):=by omega
 have hkp:(0:Int)<(ns.length:Int):=by omega
 have HKn:Hid (∀ y,Below (w.alloc (.cells #[.int .i64 K,.int .i64 on,.int .i64 oa,.string ox,.int .i64 N,.int .i64 W,.int .i64 B,.int .i64 L,.int .i64 f0,.int .i64 f1,.int .i64 f2,.int .i64 f3,.int .i64 f4,.slice fa fl fc,.string fs] 81)).heap.size (w.alloc (.cells #[.int .i64 K,.int .i64 on,.int .i64 oa,.string ox,.int .i64 N,.int .i64 W,.int .i64 B,.int .i64 L,.int .i64 f0,.int .i64 f1,.int .i64 f2,.int .i64 f3,.int .i64 f4,.slice fa fl fc,.string fs] 81)) y→Calls Tryz.prog 71 #[.agg #[.pointer (some ⟨k.fb,0,none⟩),.pointer (some ⟨k.nb,0,none⟩)],.agg #[.int .i64 K,.int .i64 on,.int .i64 oa,.string ox,.int .i64 N,.int .i64 W,.int .i64 B,.int .i64 L,.int .i64 f0,.int .i64 f1,.int .i64 f2,.int .i64 f3,.int .i64 f4,.slice fa fl fc,.string fs]] y fun e w'=>e=.returned (.bool true)∧KW A base R wb t u m ks ns w w'∧w'.cell? ⟨wb,4,none⟩=some (.slice (some ⟨gk,0,none⟩) ns.length kc)∧w'.cell? ⟨gk,i * 2,none⟩=some (.pointer (some ⟨k.fb,0,none⟩))∧w'.cell? ⟨gk,i * 2+1,none⟩=some (.pointer (some ⟨k.nb,0,none⟩))∧w'.cell? ⟨w.heap.size,0,none⟩=some (.int .i64 K)∧w'.cell? ⟨w.heap.size,1,none⟩=some (.int .i64 on)∧w'.cell? ⟨w.heap.size,2,none⟩=some (.int .i64 oa)∧w'.cell? ⟨w.heap.size,3,none⟩=some (.string ox)∧w'.cell? ⟨w.heap.size,4,none⟩=some (.int .i64 N)∧w'.cell? ⟨w.heap.size,5,none⟩=some (.int .i64 W)∧w'.cell? ⟨w.heap.size,6,none⟩=some (.int .i64 B)∧w'.cell? ⟨w.heap.size,7,none⟩=some (.int .i64 L)∧w'.cell? ⟨w.heap.size,8,none⟩=some (.int .i64 f0)∧w'.cell? ⟨w.heap.size,9,none⟩=some (.int .i64 f1)∧w'.cell? ⟨w.heap.size,10,none⟩=some (.int .i64 f2)∧w'.cell? ⟨w.heap.size,11,none⟩=some (.int .i64 f3)∧w'.cell? ⟨w.heap.size,12,none⟩=some (.int .i64 f4)∧w'.cell? ⟨w.heap.size,13,none⟩=some (.slice fa fl fc)∧w'.cell? ⟨w.heap.size,14,none⟩=some (.string fs)):=fun y hy=>by
  have hLX:=h.wider (R':=fun j=>R j∨j=w.heap.size) (a00 w (.cells #[.int .i64 K,.int .i64 on,.int .i64 oa,.string ox,.int .i64 N,.int .i64 W,.int .i64 B,.int .i64 L,.int .i64 f0,.int .i64 f1,.int .i64 f2,.int .i64 f3,.int .i64 f4,.slice fa fl fc,.string fs] 81)) (fun j hj=>Or.inl hj) (fun j hj=>by
   rcases hj with h1 | rfl
   ·exact Or.inl h1
   ·exact Or.inr ⟨Nat.le_refl _,by simp⟩)
  have hyc:∀ j,y.cell? ⟨w.heap.size,j,none⟩=(w.alloc (.cells #[.int .i64 K,.int .i64 on,.int .i64 oa,.string ox,.int .i64 N,.int .i64 W,.int .i64 B,.int .i64 L,.int .i64 f0,.int .i64 f1,.int .i64 f2,.int .i64 f3,.int .i64 f4,.slice fa fl fc,.string fs] 81)).cell? ⟨w.heap.size,j,none⟩:=fun j=>World.cell?_of_block (hy.block w.heap.size (by simp))
  refine (b58 A base (fun j=>R j∨j=w.heap.size) wb t u m ks ns O F i k K on oa ox N W B L f0 f1 f2 f3 f4 fa fl fc fs hK hi hm y (hLX.low hy)).mono fun e w' hh=>⟨hh.1,(hh.2.less (R':=R) (fun j hj=>Or.inl hj) h.rb).of ((h.same (a00 w _)).trans (((h.low (a00 w _)).same hy))),?_⟩
  have hko:=hh.2.2.kp.blk w.heap.size (Or.inr rfl)
  have hkc:∀ j,w'.cell? ⟨w.heap.size,j,none⟩=(w.alloc (.cells #[.int .i64 K,.int .i64 on,.int .i64 oa,.string ox,.int .i64 N,.int .i64 W,.int .i64 B,.int .i64 L,.int .i64 f0,.int .i64 f1,.int .i64 f2,.int .i64 f3,.int .i64 f4,.slice fa fl fc,.string fs] 81)).cell? ⟨w.heap.size,j,none⟩:=fun j=>(World.cell?_of_block hko).trans (hyc j)
  obtain ⟨a1,a2⟩:=((hLX.same hy).trans hh.2.2).kn 4 (Or.inr rfl) _ _ _ c3
  have hrow:∀ j,w'.cell? ⟨gk,j,none⟩=(w.alloc (.cells #[.int .i64 K,.int .i64 on,.int .i64 oa,.string ox,.int .i64 N,.int .i64 W,.int .i64 B,.int .i64 L,.int .i64 f0,.int .i64 f1,.int .i64 f2,.int .i64 f3,.int .i64 f4,.slice fa fl fc,.string fs] 81)).cell? ⟨gk,j,none⟩:=fun j=>World.cell?_of_block (a2 gk ⟨0,rfl⟩)
  exact ⟨a1,(hrow _).trans k0,(hrow _).trans k1,(hkc 0).trans o0,(hkc 1).trans o1,(hkc 2).trans o2,(hkc 3).trans o3,(hkc 4).trans o4,(hkc 5).trans o5,(hkc 6).trans o6,(hkc 7).trans o7,(hkc 8).trans o8,(hkc 9).trans o9,(hkc 10).trans o10,(hkc 11).trans o11,(hkc 12).trans o12,(hkc 13).trans o13,(hkc 14).trans o14⟩
 obtain ⟨h1,h2⟩:=hK
 have hb1:decide (K<10)=false:=decide_eq_false (by omega)
 have hb2:(K == 10)=false:=by simp;omega
 have hb3:decide (K<20)=false:=decide_eq_false (by omega)
 have hb4:(K == 20)=false:=by simp;omega
 have hb5:decide (20<K)=true:=decide_eq_true (by omega)
 have hb6:decide (K<27)=true:=decide_eq_true (by omega)
 have hb8:decide (0<ns.length)=true:=decide_eq_true (by omega)
 obtain ⟨fb,nb,g,x⟩:=k
 simp only at k0 k1 HKn
 clear h hi hown r0 r1 hpb hip
 generalize KW A base R wb t u m ks ns w=KK at *
 generalize ns.length=kl at *
 go_enter Tryz.func37,Tryz.ntmps37
 go_wp2_with fail
 generalize w.alloc (.cells #[.int .i64 K,.int .i64 on,.int .i64 oa,.string ox,.int .i64 N,.int .i64 W,.int .i64 B,.int .i64 L,.int .i64 f0,.int .i64 f1,.int .i64 f2,.int .i64 f3,.int .i64 f4,.slice fa fl fc,.string fs] 81)=X at *
 have HS0:Hid (X.cell? ⟨wb,4,none⟩=some (.slice (some ⟨gk,0,none⟩) kl kc)∧X.cell? ⟨gk,i * 2,none⟩=some (.pointer (some ⟨fb,0,none⟩))∧X.cell? ⟨gk,i * 2+1,none⟩=some (.pointer (some ⟨nb,0,none⟩))∧X.cell? ⟨w.heap.size,0,none⟩=some (.int .i64 K)∧X.cell? ⟨w.heap.size,1,none⟩=some (.int .i64 on)∧X.cell? ⟨w.heap.size,2,none⟩=some (.int .i64 oa)∧X.cell? ⟨w.heap.size,3,none⟩=some (.string ox)∧X.cell? ⟨w.heap.size,4,none⟩=some (.int .i64 N)∧X.cell? ⟨w.heap.size,5,none⟩=some (.int .i64 W)∧X.cell? ⟨w.heap.size,6,none⟩=some (.int .i64 B)∧X.cell? ⟨w.heap.size,7,none⟩=some (.int .i64 L)∧X.cell? ⟨w.heap.size,8,none⟩=some (.int .i64 f0)∧X.cell? ⟨w.heap.size,9,none⟩=some (.int .i64 f1)∧X.cell? ⟨w.heap.size,10,none⟩=some (.int .i64 f2)∧X.cell? ⟨w.heap.size,11,none⟩=some (.int .i64 f3)∧X.cell? ⟨w.heap.size,12,none⟩=some (.int .i64 f4)∧X.cell? ⟨w.heap.size,13,none⟩=some (.slice fa fl fc)∧X.cell? ⟨w.heap.size,14,none⟩=some (.string fs)):=⟨c3,k0,k1,o0,o1,o2,o3,o4,o5,o6,o7,o8,o9,o10,o11,o12,o13,o14⟩
 go_region_held3 (fun v=>v.cell? ⟨wb,4,none⟩=some (.slice (some ⟨gk,0,none⟩) kl kc)∧v.cell? ⟨gk,i * 2,none⟩=some (.pointer (some ⟨fb,0,none⟩))∧v.cell? ⟨gk,i * 2+1,none⟩=some (.pointer (some ⟨nb,0,none⟩))∧v.cell? ⟨w.heap.size,0,none⟩=some (.int .i64 K)∧v.cell? ⟨w.heap.size,1,none⟩=some (.int .i64 on)∧v.cell? ⟨w.heap.size,2,none⟩=some (.int .i64 oa)∧v.cell? ⟨w.heap.size,3,none⟩=some (.string ox)∧v.cell? ⟨w.heap.size,4,none⟩=some (.int .i64 N)∧v.cell? ⟨w.heap.size,5,none⟩=some (.int .i64 W)∧v.cell? ⟨w.heap.size,6,none⟩=some (.int .i64 B)∧v.cell? ⟨w.heap.size,7,none⟩=some (.int .i64 L)∧v.cell? ⟨w.heap.size,8,none⟩=some (.int .i64 f0)∧v.cell? ⟨w.heap.size,9,none⟩=some (.int .i64 f1)∧v.cell? ⟨w.heap.size,10,none⟩=some (.int .i64 f2)∧v.cell? ⟨w.heap.size,11,none⟩=some (.int .i64 f3)∧v.cell? ⟨w.heap.size,12,none⟩=some (.int .i64 f4)∧v.cell? ⟨w.heap.size,13,none⟩=some (.slice fa fl fc)∧v.cell? ⟨w.heap.size,14,none⟩=some (.string fs)) (first|(exact HS0.out)|(exact HSW.out) | go_keep)
  (first|(go_at_call 69;refine (show Calls _ _ _ _ _ from HPk.out _).mono ?_;rintro e w' ⟨rfl,rfl⟩)|(go_at_call 71;refine (show Calls _ _ _ _ _ from HKn.out _ (by first | exact (Below.refl _ _).drew | exact Below.refl _ _ | exact below_drewN (Below.refl _ _) _)).mono ?_;rintro e w' ⟨rfl,hK,hSw⟩;have HK:Hid _:=hK;have HSW:Hid _:=hSw;clear hK hSw))
 all_goals
  go_wp2_with fail
  go_ret
  exact ⟨rfl,HK.out⟩
theorem b7t (A:Nat→Addr) (base:Nat) (R:Nat→Prop) (wb t u m:Nat) (ks:List Kn) (ns:List Wb) (O:Nat→Prop) (F:Bool × Nat→Nat→Prop) (i:Nat) (k:Wb) (on oa:Int) (ox:ByteArray) (N W B L f0 f1 f2 f3 f4:Int) (fa:Option Addr) (fl fc:Nat) (fs:ByteArray) (hi:ns[i]?=some k) (hm:m≤1000000) (w:World) (h:LW A base R w wb t u m ks ns O F) :
  Calls Tryz.prog 72 #[.pointer (some ⟨wb,0,none⟩),.agg #[.pointer (some ⟨k.fb,0,none⟩),.pointer (some ⟨k.nb,0,none⟩)],.agg #[.int .i64 27,.int .i64 on,.int .i64 oa,.string ox,.int .i64 N,.int .i64 W,.int .i64 B,.int .i64 L,.int .i64 f0,.int .i64 f1,.int .i64 f2,.int .i64 f3,.int .i64 f4,.slice fa fl fc,.string fs]] w fun e w'=>e=.returned (.bool true)∧KW A base R wb t u m ks ns w w':=by
 obtain ⟨X,hX⟩:∃ X,X=((w.alloc (.cells #[.pointer (some ⟨k.fb,0,none⟩),.pointer (some ⟨k.nb,0,none⟩)] 128)).alloc (.cells #[.int .i64 27,.int .i64 on,.int .i64 oa,.string ox,.int .i64 N,.int .i64 W,.int .i64 B,.int .i64 L,.int .i64 f0,.int .i64 f1,.int .i64 f2,.int .i64 f3,.int .i64 f4,.slice fa fl fc,.string fs] 81)):=⟨_,rfl⟩
 have hbX:Below w.heap.size w X:=by rw [hX];exact bthen (a00 _ _) (a00 _ _)
 have q1:X.cell? ⟨w.heap.size,1,none⟩=some (.pointer (some ⟨k.nb,0,none⟩)):=by rw [hX];exact (Below.cell (a00 _ _) (p:=⟨w.heap.size,1,none⟩) (by simp)).trans (cell_of_row _ _ 1 _ _ (0,0) (heap_alloc_new _ _))
 have hsz:(w.alloc (.cells #[.pointer (some ⟨k.fb,0,none⟩),.pointer (some ⟨k.nb,0,none⟩)] 128)).heap.size=w.heap.size+1:=by simp
 have qo:∀ j,X.cell? ⟨w.heap.size+1,j,none⟩=#[Value.int .i64 27,.int .i64 on,.int .i64 oa,.string ox,.int .i64 N,.int .i64 W,.int .i64 B,.int .i64 L,.int .i64 f0,.int .i64 f1,.int .i64 f2,.int .i64 f3,.int .i64 f4,.slice fa fl fc,.string fs][j]?:=fun j=>by rw [hX,←hsz];exact cell_of_row _ _ j _ _ (0,0) (heap_alloc_new _ _)
 have o2:X.cell? ⟨w.heap.size+1,2,none⟩=some (.int .i64 oa):=qo 2
 have o3:X.cell? ⟨w.heap.size+1,3,none⟩=some (.string ox):=qo 3
 have hk:=h.nt i k hi
 have hxo:=hk.x.ok (by omega)
 obtain ⟨D,hF,hC,hR⟩:=h.ar2 hi hbX (f1:=44) (f2:=128) (a1:=#[.pointer (some ⟨k.fb,0,none⟩)]) (a2:=#[.pointer (some ⟨k.nb,0,none⟩)]) (v:=.int .i64 (k.x.bag.length:Int)) (fun F1 hn hs=>(b7a k.fb k.g k.x F1 X hn).mono fun e w1 hh=>⟨hh.1,by rw [hh.2];exact Below.refl _ _⟩) (fun w1 F2 hn=>(b4z k.nb k.g k.x m F2 w1 hn).mono fun e w2 hh=>⟨hh.1,by rw [hh.2];exact Below.refl _ _⟩)
 have HF:Hid _:=hF
 have HC1:Hid _:=fun w1 hd=>hC w1 hd w.heap.size 1 _ (Nat.le_refl _) q1
 have HC2:Hid _:=fun w1 hd=>hC w1 hd (w.heap.size+1) 2 _ (Nat.le_succ _) o2
 have HR:Hid _:=hR
 generalize (k.x.bag.length:Int)=ln at *
 obtain ⟨fb,nb,g,x⟩:=k
 subst hX
 clear h hi hF hC hR qo q1 o2 o3 hbX hsz hk hxo
 generalize KW A base R wb t u m ks ns w=KK at *
 go_enter Tryz.func72,Tryz.ntmps72
 go_wp2_with fail
 generalize (w.alloc (.cells #[.pointer (some ⟨fb,0,none⟩),.pointer (some ⟨nb,0,none⟩)] 128)).alloc (.cells #[.int .i64 27,.int .i64 on,.int .i64 oa,.string ox,.int .i64 N,.int .i64 W,.int .i64 B,.int .i64 L,.int .i64 f0,.int .i64 f1,.int .i64 f2,.int .i64 f3,.int .i64 f4,.slice fa fl fc,.string fs] 81)=X at *
 refine (show Calls _ _ _ _ _ from HF.out).mono ?_
 rintro e w1 ⟨rfl,hd⟩
 have q1:=HC1.out w1 hd
 have o2:=HC2.out w1 hd
 have HD:Hid _:=hd
 clear hd
 go_wp2_with fail
 refine (show Calls _ _ _ _ _ from HR.out w1 HD.out w1 (Below.refl _ _)).mono ?_
 rintro e w2 ⟨rfl,hK,_⟩
 have HK:Hid _:=hK w2 (Below.refl _ _)
 clear hK q1 o2
 have ek:((ln:Int) == ln)=true:=by simp
 go_wp2_with (go_at_call 107;refine (a11 _ _).mono ?_;rintro e w'' ⟨rfl,rfl⟩)
 go_ret
 exact ⟨rfl,HK.out⟩
theorem az3 (A:Nat→Addr) (base:Nat) (R:Nat→Prop) (wb t u m:Nat) (ks:List Kn) (ns:List Wb) (O:Nat→Prop) (F:Bool × Nat→Nat→Prop) (i:Nat) (k:Wb) (on oa:Int) (ox:ByteArray) (N W B L f0 f1 f2 f3 f4:Int) (fa:Option Addr) (fl fc:Nat) (fs:ByteArray) (hi:ns[i]?=some k) (hm:m≤1000000) (w:World) (h:LW A base R w wb t u m ks ns O F) :
  Calls Tryz.prog 72 #[.pointer (some ⟨wb,0,none⟩),.agg #[.pointer (some ⟨k.fb,0,none⟩),.pointer (some ⟨k.nb,0,none⟩)],.agg #[.int .i64 31,.int .i64 on,.int .i64 oa,.string ox,.int .i64 N,.int .i64 W,.int .i64 B,.int .i64 L,.int .i64 f0,.int .i64 f1,.int .i64 f2,.int .i64 f3,.int .i64 f4,.slice fa fl fc,.string fs]] w fun e w'=>e=.returned (.bool true)∧KW A base R wb t u m ks ns w w':=by
 obtain ⟨X,hX⟩:∃ X,X=((w.alloc (.cells #[.pointer (some ⟨k.fb,0,none⟩),.pointer (some ⟨k.nb,0,none⟩)] 128)).alloc (.cells #[.int .i64 31,.int .i64 on,.int .i64 oa,.string ox,.int .i64 N,.int .i64 W,.int .i64 B,.int .i64 L,.int .i64 f0,.int .i64 f1,.int .i64 f2,.int .i64 f3,.int .i64 f4,.slice fa fl fc,.string fs] 81)):=⟨_,rfl⟩
 have hbX:Below w.heap.size w X:=by rw [hX];exact bthen (a00 _ _) (a00 _ _)
 have q1:X.cell? ⟨w.heap.size,1,none⟩=some (.pointer (some ⟨k.nb,0,none⟩)):=by rw [hX];exact (Below.cell (a00 _ _) (p:=⟨w.heap.size,1,none⟩) (by simp)).trans (cell_of_row _ _ 1 _ _ (0,0) (heap_alloc_new _ _))
 have hsz:(w.alloc (.cells #[.pointer (some ⟨k.fb,0,none⟩),.pointer (some ⟨k.nb,0,none⟩)] 128)).heap.size=w.heap.size+1:=by simp
 have qo:∀ j,X.cell? ⟨w.heap.size+1,j,none⟩=#[Value.int .i64 31,.int .i64 on,.int .i64 oa,.string ox,.int .i64 N,.int .i64 W,.int .i64 B,.int .i64 L,.int .i64 f0,.int .i64 f1,.int .i64 f2,.int .i64 f3,.int .i64 f4,.slice fa fl fc,.string fs][j]?:=fun j=>by rw [hX,←hsz];exact cell_of_row _ _ j _ _ (0,0) (heap_alloc_new _ _)
 have o2:X.cell? ⟨w.heap.size+1,2,none⟩=some (.int .i64 oa):=qo 2
 have o3:X.cell? ⟨w.heap.size+1,3,none⟩=some (.string ox):=qo 3
 have hk:=h.nt i k hi
 have hxo:=hk.x.ok (by omega)
 obtain ⟨D,hF,hC,hR⟩:=h.ar2 hi hbX (f1:=86) (f2:=132) (a1:=#[.pointer (some ⟨k.fb,0,none⟩),.int .i64 oa]) (a2:=#[.pointer (some ⟨k.nb,0,none⟩),.int .i64 oa]) (v:=.tuple #[.int .i64 (k.x.a1s k.g oa).q,.int .i64 ((k.x.a1s k.g oa).k:Int)]) (fun F1 hn hs=>ay5 A base k.fb k.g k.x F1 oa X hs hn) (fun w1 F2 hn=>aq2 k.nb k.g k.x m F2 oa w1 hn)
 have HF:Hid _:=hF
 have HC1:Hid _:=fun w1 hd=>hC w1 hd w.heap.size 1 _ (Nat.le_refl _) q1
 have HC2:Hid _:=fun w1 hd=>hC w1 hd (w.heap.size+1) 2 _ (Nat.le_succ _) o2
 have HR:Hid _:=hR
 generalize (k.x.a1s k.g oa)=RR at *
 obtain ⟨rq,rk,rx⟩:=RR
 obtain ⟨fb,nb,g,x⟩:=k
 subst hX
 clear h hi hF hC hR qo q1 o2 o3 hbX hsz hk hxo
 generalize KW A base R wb t u m ks ns w=KK at *
 go_enter Tryz.func72,Tryz.ntmps72
 go_wp2_with fail
 generalize (w.alloc (.cells #[.pointer (some ⟨fb,0,none⟩),.pointer (some ⟨nb,0,none⟩)] 128)).alloc (.cells #[.int .i64 31,.int .i64 on,.int .i64 oa,.string ox,.int .i64 N,.int .i64 W,.int .i64 B,.int .i64 L,.int .i64 f0,.int .i64 f1,.int .i64 f2,.int .i64 f3,.int .i64 f4,.slice fa fl fc,.string fs] 81)=X at *
 refine (show Calls _ _ _ _ _ from HF.out).mono ?_
 rintro e w1 ⟨rfl,hd⟩
 have q1:=HC1.out w1 hd
 have o2:=HC2.out w1 hd
 have HD:Hid _:=hd
 clear hd
 go_wp2_with fail
 refine (show Calls _ _ _ _ _ from HR.out w1 HD.out w1 (Below.refl _ _)).mono ?_
 rintro e w2 ⟨rfl,hK,_⟩
 have HK:Hid _:=hK w2 (Below.refl _ _)
 clear hK q1 o2
 have ek:((rk:Int) == rk)=true:=by simp
 have eq:((rq:Int) == rq)=true:=by simp
 go_wp2_with (go_at_call 107;refine (a11 _ _).mono ?_;rintro e w'' ⟨rfl,rfl⟩)
 go_ret
 exact ⟨rfl,HK.out⟩
theorem b7r (A:Nat→Addr) (base:Nat) (R:Nat→Prop) (wb t u m:Nat) (ks:List Kn) (ns:List Wb) (O:Nat→Prop) (F:Bool × Nat→Nat→Prop) (i:Nat) (k:Wb) (on oa:Int) (ox:ByteArray) (N W B L f0 f1 f2 f3 f4:Int) (fa:Option Addr) (fl fc:Nat) (fs:ByteArray) (hi:ns[i]?=some k) (hm:m≤1000000) (w:World) (h:LW A base R w wb t u m ks ns O F) :
  Calls Tryz.prog 72 #[.pointer (some ⟨wb,0,none⟩),.agg #[.pointer (some ⟨k.fb,0,none⟩),.pointer (some ⟨k.nb,0,none⟩)],.agg #[.int .i64 28,.int .i64 on,.int .i64 oa,.string ox,.int .i64 N,.int .i64 W,.int .i64 B,.int .i64 L,.int .i64 f0,.int .i64 f1,.int .i64 f2,.int .i64 f3,.int .i64 f4,.slice fa fl fc,.string fs]] w fun e w'=>e=.returned (.bool true)∧KW A base R wb t u m ks ns w w':=by
 obtain ⟨X,hX⟩:∃ X,X=((w.alloc (.cells #[.pointer (some ⟨k.fb,0,none⟩),.pointer (some ⟨k.nb,0,none⟩)] 128)).alloc (.cells #[.int .i64 28,.int .i64 on,.int .i64 oa,.string ox,.int .i64 N,.int .i64 W,.int .i64 B,.int .i64 L,.int .i64 f0,.int .i64 f1,.int .i64 f2,.int .i64 f3,.int .i64 f4,.slice fa fl fc,.string fs] 81)):=⟨_,rfl⟩
 have hbX:Below w.heap.size w X:=by rw [hX];exact bthen (a00 _ _) (a00 _ _)
 have q1:X.cell? ⟨w.heap.size,1,none⟩=some (.pointer (some ⟨k.nb,0,none⟩)):=by rw [hX];exact (Below.cell (a00 _ _) (p:=⟨w.heap.size,1,none⟩) (by simp)).trans (cell_of_row _ _ 1 _ _ (0,0) (heap_alloc_new _ _))
 have hsz:(w.alloc (.cells #[.pointer (some ⟨k.fb,0,none⟩),.pointer (some ⟨k.nb,0,none⟩)] 128)).heap.size=w.heap.size+1:=by simp
 have qo:∀ j,X.cell? ⟨w.heap.size+1,j,none⟩=#[Value.int .i64 28,.int .i64 on,.int .i64 oa,.string ox,.int .i64 N,.int .i64 W,.int .i64 B,.int .i64 L,.int .i64 f0,.int .i64 f1,.int .i64 f2,.int .i64 f3,.int .i64 f4,.slice fa fl fc,.string fs][j]?:=fun j=>by rw [hX,←hsz];exact cell_of_row _ _ j _ _ (0,0) (heap_alloc_new _ _)
 have o2:X.cell? ⟨w.heap.size+1,2,none⟩=some (.int .i64 oa):=qo 2
 have o3:X.cell? ⟨w.heap.size+1,3,none⟩=some (.string ox):=qo 3
 have hk:=h.nt i k hi
 have hxo:=hk.x.ok (by omega)
 obtain ⟨D,hF,hC,hR⟩:=h.ar2 hi hbX (f1:=57) (f2:=129) (a1:=#[.pointer (some ⟨k.fb,0,none⟩),.int .i64 oa]) (a2:=#[.pointer (some ⟨k.nb,0,none⟩),.int .i64 oa]) (v:=.tuple #[.agg #[.int .i64 (k.x.peekR oa).t.to,.string (k.x.peekR oa).t.text],.int .i64 ((k.x.peekR oa).k:Int)]) (fun F1 hn hs=>b6s A base k.fb k.g k.x F1 oa X hs hn) (fun w1 F2 hn=>a4p k.nb k.g k.x m F2 oa w1 hn)
 have HF:Hid _:=hF
 have HC1:Hid _:=fun w1 hd=>hC w1 hd w.heap.size 1 _ (Nat.le_refl _) q1
 have HC2:Hid _:=fun w1 hd=>hC w1 hd (w.heap.size+1) 2 _ (Nat.le_succ _) o2
 have HR:Hid _:=hR
 generalize (k.x.peekR oa)=RR at *
 obtain ⟨⟨pn,px⟩,rk⟩:=RR
 obtain ⟨fb,nb,g,x⟩:=k
 subst hX
 clear h hi hF hC hR qo q1 o2 o3 hbX hsz hk hxo
 generalize KW A base R wb t u m ks ns w=KK at *
 go_enter Tryz.func72,Tryz.ntmps72
 go_wp2_with fail
 generalize (w.alloc (.cells #[.pointer (some ⟨fb,0,none⟩),.pointer (some ⟨nb,0,none⟩)] 128)).alloc (.cells #[.int .i64 28,.int .i64 on,.int .i64 oa,.string ox,.int .i64 N,.int .i64 W,.int .i64 B,.int .i64 L,.int .i64 f0,.int .i64 f1,.int .i64 f2,.int .i64 f3,.int .i64 f4,.slice fa fl fc,.string fs] 81)=X at *
 refine (show Calls _ _ _ _ _ from HF.out).mono ?_
 rintro e w1 ⟨rfl,hd⟩
 have q1:=HC1.out w1 hd
 have o2:=HC2.out w1 hd
 have HD:Hid _:=hd
 clear hd
 have q1':=((a00 w1 (.cells #[.int .i64 pn,.string px] 109)).cell (p:=⟨w.heap.size,1,none⟩) (lt_of_cell q1)).trans q1
 have o2':=((a00 w1 (.cells #[.int .i64 pn,.string px] 109)).cell (p:=⟨w.heap.size+1,2,none⟩) (lt_of_cell o2)).trans o2
 have z0:∀ j,(w1.alloc (.cells #[.int .i64 pn,.string px] 109)).cell? ⟨w1.heap.size,j,none⟩=#[Value.int .i64 pn,.string px][j]?:=fun j=>cell_of_row _ _ j _ _ (0,0) (heap_alloc_new _ _)
 have HZ0:Hid _:=z0
 have HZl:Hid (w1.heap.size<(w1.alloc (.cells #[.int .i64 pn,.string px] 109)).heap.size):=by show _<_;simp
 have HBY:Hid (Below w1.heap.size w1 (w1.alloc (.cells #[.int .i64 pn,.string px] 109))):=a00 _ _
 clear z0
 go_wp2_with fail
 generalize w1.alloc (.cells #[.int .i64 pn,.string px] 109)=Y at *
 refine (show Calls _ _ _ _ _ from HR.out w1 HD.out Y HBY.out).mono ?_
 rintro e w2 ⟨rfl,hK,hbK⟩
 have y0:w2.cell? ⟨w1.heap.size,0,none⟩=some (.int .i64 pn):=(hbK.cell (p:=⟨w1.heap.size,0,none⟩) HZl.out).trans (HZ0.out 0)
 have y1:w2.cell? ⟨w1.heap.size,1,none⟩=some (.string px):=(hbK.cell (p:=⟨w1.heap.size,1,none⟩) HZl.out).trans (HZ0.out 1)
 have HK:Hid _:=hK _ (a00 w2 (.cells #[.int .i64 pn,.string px] 109))
 have v0:(w2.alloc (.cells #[.int .i64 pn,.string px] 109)).cell? ⟨w1.heap.size,0,none⟩=some (.int .i64 pn):=((a00 w2 _).cell (p:=⟨w1.heap.size,0,none⟩) (lt_of_cell y0)).trans y0
 have v1:(w2.alloc (.cells #[.int .i64 pn,.string px] 109)).cell? ⟨w1.heap.size,1,none⟩=some (.string px):=((a00 w2 _).cell (p:=⟨w1.heap.size,1,none⟩) (lt_of_cell y0)).trans y1
 have v2:(w2.alloc (.cells #[.int .i64 pn,.string px] 109)).cell? ⟨w2.heap.size,0,none⟩=some (.int .i64 pn):=cell_of_row _ _ 0 _ _ (0,0) (heap_alloc_new _ _)
 have v3:(w2.alloc (.cells #[.int .i64 pn,.string px] 109)).cell? ⟨w2.heap.size,1,none⟩=some (.string px):=cell_of_row _ _ 1 _ _ (0,0) (heap_alloc_new _ _)
 clear hK hbK q1 o2 q1' o2' y0 y1
 have ek:((rk:Int) == rk)=true:=by simp
 have ep:((pn:Int) == pn)=true:=by simp
 go_wp2_with (go_at_call 107;refine (a11 _ _).mono ?_;rintro e w'' ⟨rfl,rfl⟩)
 go_ret
 exact ⟨rfl,HK.out⟩
theorem b5n (A:Nat→Addr) (base:Nat) (R:Nat→Prop) (wb t u m:Nat) (ks:List Kn) (ns:List Wb) (O:Nat→Prop) (F:Bool × Nat→Nat→Prop) (i:Nat) (k:Wb) (on oa:Int) (ox:ByteArray) (N W B L f0 f1 f2 f3 f4:Int) (fa:Option Addr) (fl fc:Nat) (fs:ByteArray) (hi:ns[i]?=some k) (ht:t≤240000) (hm:m≤1000000) (w:World) (h:LW A base R w wb t u m ks ns O F) :
  Calls Tryz.prog 72 #[.pointer (some ⟨wb,0,none⟩),.agg #[.pointer (some ⟨k.fb,0,none⟩),.pointer (some ⟨k.nb,0,none⟩)],.agg #[.int .i64 29,.int .i64 on,.int .i64 oa,.string ox,.int .i64 N,.int .i64 W,.int .i64 B,.int .i64 L,.int .i64 f0,.int .i64 f1,.int .i64 f2,.int .i64 f3,.int .i64 f4,.slice fa fl fc,.string fs]] w fun e w'=>e=.returned (.bool true)∧KW A base R wb t u m ks ns w w':=by
 obtain ⟨X,hX⟩:∃ X,X=((w.alloc (.cells #[.pointer (some ⟨k.fb,0,none⟩),.pointer (some ⟨k.nb,0,none⟩)] 128)).alloc (.cells #[.int .i64 29,.int .i64 on,.int .i64 oa,.string ox,.int .i64 N,.int .i64 W,.int .i64 B,.int .i64 L,.int .i64 f0,.int .i64 f1,.int .i64 f2,.int .i64 f3,.int .i64 f4,.slice fa fl fc,.string fs] 81)):=⟨_,rfl⟩
 have hbX:Below w.heap.size w X:=by rw [hX];exact bthen (a00 _ _) (a00 _ _)
 have q1:X.cell? ⟨w.heap.size,1,none⟩=some (.pointer (some ⟨k.nb,0,none⟩)):=by rw [hX];exact (Below.cell (a00 _ _) (p:=⟨w.heap.size,1,none⟩) (by simp)).trans (cell_of_row _ _ 1 _ _ (0,0) (heap_alloc_new _ _))
 have hsz:(w.alloc (.cells #[.pointer (some ⟨k.fb,0,none⟩),.pointer (some ⟨k.nb,0,none⟩)] 128)).heap.size=w.heap.size+1:=by simp
 have qo:∀ j,X.cell? ⟨w.heap.size+1,j,none⟩=#[Value.int .i64 29,.int .i64 on,.int .i64 oa,.string ox,.int .i64 N,.int .i64 W,.int .i64 B,.int .i64 L,.int .i64 f0,.int .i64 f1,.int .i64 f2,.int .i64 f3,.int .i64 f4,.slice fa fl fc,.string fs][j]?:=fun j=>by rw [hX,←hsz];exact cell_of_row _ _ j _ _ (0,0) (heap_alloc_new _ _)
 have o2:X.cell? ⟨w.heap.size+1,2,none⟩=some (.int .i64 oa):=qo 2
 have o3:X.cell? ⟨w.heap.size+1,3,none⟩=some (.string ox):=qo 3
 have hk:=h.nt i k hi
 have hxo:=hk.x.ok (by omega)
 have hz:((k.x.a2l k.g oa).l.length=0∨((k.x.a2l k.g oa).k=0∧(((k.x.a2l k.g oa).l.length:Int) == 0)=false))∧(k.x.a2l k.g oa).l.length≤1000000:=by
  have hn:=hk.g.n
  unfold MNet.a2l
  by_cases e:a08 k.g.n oa=true
  ·rw [if_pos e]
   obtain ⟨q,rfl,hq⟩:=a0s e
   simp only [Int.toNat_natCast]
   have hs:=(hk.x.nd q hq).clk.short hk.g hq
   refine ⟨?_,by omega⟩
   by_cases e0:(k.x.nd q).hs.length=0
   ·exact Or.inl e0
   ·exact Or.inr ⟨trivial,by simp;exact fun hc=>e0 (by rw [hc];rfl)⟩
  ·rw [if_neg e]
   exact ⟨Or.inl rfl,by simp⟩
 obtain ⟨D,hF,hC,hR⟩:=h.av5 hi ht hbX hz.2 (f1:=29) (f2:=130) (a1:=#[.pointer (some ⟨k.fb,0,none⟩),.int .i64 oa]) (a2:=#[.pointer (some ⟨k.nb,0,none⟩),.int .i64 oa]) (kk:=(k.x.a2l k.g oa).k) (fun F1 hn hs=>b4j A base k.fb k.g k.x F1 oa hk.g hxo X hs hn) (fun w1 F2 hn=>b2e k.nb k.g k.x m F2 oa hk.g w1 hn)
 have HF:Hid _:=hF
 have HC1:Hid _:=fun w1 v hd=>hC w1 v hd w.heap.size 1 _ (Nat.le_refl _) q1
 have HC2:Hid _:=fun w1 v hd=>hC w1 v hd (w.heap.size+1) 2 _ (Nat.le_succ _) o2
 have HR:Hid _:=hR
 generalize (k.x.a2l k.g oa).l.length=n at *
 generalize (k.x.a2l k.g oa).k=kk at *
 obtain ⟨hz,hn⟩:=hz
 obtain ⟨fb,nb,g,x⟩:=k
 subst hX
 clear h hi hF hC hR qo q1 o2 o3 hbX hsz hk hxo
 generalize KW A base R wb t u m ks ns w=KK at *
 go_enter Tryz.func72,Tryz.ntmps72
 go_wp2_with fail
 generalize (w.alloc (.cells #[.pointer (some ⟨fb,0,none⟩),.pointer (some ⟨nb,0,none⟩)] 128)).alloc (.cells #[.int .i64 29,.int .i64 on,.int .i64 oa,.string ox,.int .i64 N,.int .i64 W,.int .i64 B,.int .i64 L,.int .i64 f0,.int .i64 f1,.int .i64 f2,.int .i64 f3,.int .i64 f4,.slice fa fl fc,.string fs] 81)=X at *
 refine (show Calls _ _ _ _ _ from HF.out).mono ?_
 rintro e w1 ⟨a,c,rfl,hd⟩
 have q1:=HC1.out w1 _ hd
 have o2:=HC2.out w1 _ hd
 have HD:Hid _:=hd
 clear hd
 go_wp2_with fail
 refine (show Calls _ _ _ _ _ from HR.out w1 _ HD.out).mono ?_
 rintro e w2 ⟨a2,c2,rfl,hS⟩
 have HS:Hid _:=hS
 clear hS
 go_wp2_with fail
 refine (show Calls _ _ _ _ _ from HS.out).mono ?_
 rintro e w3 ⟨rfl,hK⟩
 have HK:Hid _:=hK
 clear hK q1 o2
 go_wp2_with fail
 refine (show Calls _ _ _ _ _ from HK.out).mono ?_
 rintro e w' ⟨rfl,hL⟩
 have HL:Hid _:=hL
 clear hL
 have ek:((kk:Int) == kk)=true:=by simp
 rcases hz with rfl | ⟨rfl,hl0⟩
 all_goals
  go_wp2_with (go_at_call 107;refine (a11 _ _).mono ?_;rintro e w'' ⟨rfl,rfl⟩)
  go_ret
  exact ⟨rfl,HL.out⟩
theorem b5v (A:Nat→Addr) (base:Nat) (R:Nat→Prop) (wb t u m:Nat) (ks:List Kn) (ns:List Wb) (O:Nat→Prop) (F:Bool × Nat→Nat→Prop) (i:Nat) (k:Wb) (on oa:Int) (ox:ByteArray) (N W B L f0 f1 f2 f3 f4:Int) (fa:Option Addr) (fl fc:Nat) (fs:ByteArray) (hi:ns[i]?=some k) (ht:t≤240000) (hm:m≤1000000) (w:World) (h:LW A base R w wb t u m ks ns O F) :
  Calls Tryz.prog 72 #[.pointer (some ⟨wb,0,none⟩),.agg #[.pointer (some ⟨k.fb,0,none⟩),.pointer (some ⟨k.nb,0,none⟩)],.agg #[.int .i64 30,.int .i64 on,.int .i64 oa,.string ox,.int .i64 N,.int .i64 W,.int .i64 B,.int .i64 L,.int .i64 f0,.int .i64 f1,.int .i64 f2,.int .i64 f3,.int .i64 f4,.slice fa fl fc,.string fs]] w fun e w'=>e=.returned (.bool true)∧KW A base R wb t u m ks ns w w':=by
 obtain ⟨X,hX⟩:∃ X,X=((w.alloc (.cells #[.pointer (some ⟨k.fb,0,none⟩),.pointer (some ⟨k.nb,0,none⟩)] 128)).alloc (.cells #[.int .i64 30,.int .i64 on,.int .i64 oa,.string ox,.int .i64 N,.int .i64 W,.int .i64 B,.int .i64 L,.int .i64 f0,.int .i64 f1,.int .i64 f2,.int .i64 f3,.int .i64 f4,.slice fa fl fc,.string fs] 81)):=⟨_,rfl⟩
 have hbX:Below w.heap.size w X:=by rw [hX];exact bthen (a00 _ _) (a00 _ _)
 have q1:X.cell? ⟨w.heap.size,1,none⟩=some (.pointer (some ⟨k.nb,0,none⟩)):=by rw [hX];exact (Below.cell (a00 _ _) (p:=⟨w.heap.size,1,none⟩) (by simp)).trans (cell_of_row _ _ 1 _ _ (0,0) (heap_alloc_new _ _))
 have hsz:(w.alloc (.cells #[.pointer (some ⟨k.fb,0,none⟩),.pointer (some ⟨k.nb,0,none⟩)] 128)).heap.size=w.heap.size+1:=by simp
 have qo:∀ j,X.cell? ⟨w.heap.size+1,j,none⟩=#[Value.int .i64 30,.int .i64 on,.int .i64 oa,.string ox,.int .i64 N,.int .i64 W,.int .i64 B,.int .i64 L,.int .i64 f0,.int .i64 f1,.int .i64 f2,.int .i64 f3,.int .i64 f4,.slice fa fl fc,.string fs][j]?:=fun j=>by rw [hX,←hsz];exact cell_of_row _ _ j _ _ (0,0) (heap_alloc_new _ _)
 have o2:X.cell? ⟨w.heap.size+1,2,none⟩=some (.int .i64 oa):=qo 2
 have o3:X.cell? ⟨w.heap.size+1,3,none⟩=some (.string ox):=qo 3
 have hk:=h.nt i k hi
 have hxo:=hk.x.ok (by omega)
 have hz:((k.x.a2k k.g oa).l.length=0∨((k.x.a2k k.g oa).k=0∧(((k.x.a2k k.g oa).l.length:Int) == 0)=false))∧(k.x.a2k k.g oa).l.length≤1000000:=by
  have hn:=hk.g.n
  unfold MNet.a2k
  by_cases e:a08 k.g.n oa=true
  ·rw [if_pos e]
   obtain ⟨q,rfl,hq⟩:=a0s e
   simp only [Int.toNat_natCast]
   have hs:=au9 (hk.x.nd q hq) hk.g
   refine ⟨?_,by omega⟩
   by_cases e0:(k.x.nd q).kept.length=0
   ·exact Or.inl e0
   ·exact Or.inr ⟨trivial,by simp;exact fun hc=>e0 (by rw [hc];rfl)⟩
  ·rw [if_neg e]
   exact ⟨Or.inl rfl,by simp⟩
 obtain ⟨D,hF,hC,hR⟩:=h.av5 hi ht hbX hz.2 (f1:=31) (f2:=131) (a1:=#[.pointer (some ⟨k.fb,0,none⟩),.int .i64 oa]) (a2:=#[.pointer (some ⟨k.nb,0,none⟩),.int .i64 oa]) (kk:=(k.x.a2k k.g oa).k) (fun F1 hn hs=>b63 A base k.fb k.g k.x F1 oa hk.g hxo X hs hn) (fun w1 F2 hn=>b2z k.nb k.g k.x m F2 oa hk.g (by omega) w1 hn)
 have HF:Hid _:=hF
 have HC1:Hid _:=fun w1 v hd=>hC w1 v hd w.heap.size 1 _ (Nat.le_refl _) q1
 have HC2:Hid _:=fun w1 v hd=>hC w1 v hd (w.heap.size+1) 2 _ (Nat.le_succ _) o2
 have HR:Hid _:=hR
 generalize (k.x.a2k k.g oa).l.length=n at *
 generalize (k.x.a2k k.g oa).k=kk at *
 obtain ⟨hz,hn⟩:=hz
 obtain ⟨fb,nb,g,x⟩:=k
 subst hX
 clear h hi hF hC hR qo q1 o2 o3 hbX hsz hk hxo
 generalize KW A base R wb t u m ks ns w=KK at *
 go_enter Tryz.func72,Tryz.ntmps72
 go_wp2_with fail
 generalize (w.alloc (.cells #[.pointer (some ⟨fb,0,none⟩),.pointer (some ⟨nb,0,none⟩)] 128)).alloc (.cells #[.int .i64 30,.int .i64 on,.int .i64 oa,.string ox,.int .i64 N,.int .i64 W,.int .i64 B,.int .i64 L,.int .i64 f0,.int .i64 f1,.int .i64 f2,.int .i64 f3,.int .i64 f4,.slice fa fl fc,.string fs] 81)=X at *
 refine (show Calls _ _ _ _ _ from HF.out).mono ?_
 rintro e w1 ⟨a,c,rfl,hd⟩
 have q1:=HC1.out w1 _ hd
 have o2:=HC2.out w1 _ hd
 have HD:Hid _:=hd
 clear hd
 go_wp2_with fail
 refine (show Calls _ _ _ _ _ from HR.out w1 _ HD.out).mono ?_
 rintro e w2 ⟨a2,c2,rfl,hS⟩
 have HS:Hid _:=hS
 clear hS
 go_wp2_with fail
 refine (show Calls _ _ _ _ _ from HS.out).mono ?_
 rintro e w3 ⟨rfl,hK⟩
 have HK:Hid _:=hK
 clear hK q1 o2
 go_wp2_with fail
 refine (show Calls _ _ _ _ _ from HK.out).mono ?_
 rintro e w' ⟨rfl,hL⟩
 have HL:Hid _:=hL
 clear hL
 have ek:((kk:Int) == kk)=true:=by simp
 rcases hz with rfl | ⟨rfl,hl0⟩
 all_goals
  go_wp2_with (go_at_call 107;refine (a11 _ _).mono ?_;rintro e w'' ⟨rfl,rfl⟩)
  go_ret
  exact ⟨rfl,HL.out⟩
end Go.Proofs.YtabecbjfamphbaaGreatDoor
