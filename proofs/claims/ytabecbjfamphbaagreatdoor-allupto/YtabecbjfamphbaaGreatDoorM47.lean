/- A part of the proof. -/
import Derived.Test.YtabecbjfamphbaaGreatDoorM46
namespace Go.Proofs.YtabecbjfamphbaaGreatDoor
open Go.RowKit Go.Stop Go.Extern
set_option maxRecDepth 100000
set_option maxHeartbeats 4000000
theorem b70 (A:Nat→Addr) (base:Nat) (R:Nat→Prop) (wb t u m:Nat) (ks:List Kn) (ns:List Wb) (O:Nat→Prop) (F:Bool × Nat→Nat→Prop) (i:Nat) (k:Wb) (K:Int) (on oa:Int) (ox:ByteArray) (N W B L f0 f1 f2 f3 f4:Int) (fa:Option Addr) (fl fc:Nat) (fs:ByteArray) (hK:27≤K∧K≤31) (hi:ns[i]?=some k) (ht:t≤240000) (hm:m≤1000000) (w:World) (h:LW A base R w wb t u m ks ns O F) :
  Calls Tryz.prog 72 #[.pointer (some ⟨wb,0,none⟩),.agg #[.pointer (some ⟨k.fb,0,none⟩),.pointer (some ⟨k.nb,0,none⟩)],.agg #[.int .i64 K,.int .i64 on,.int .i64 oa,.string ox,.int .i64 N,.int .i64 W,.int .i64 B,.int .i64 L,.int .i64 f0,.int .i64 f1,.int .i64 f2,.int .i64 f3,.int .i64 f4,.slice fa fl fc,.string fs]] w fun e w'=>e=.returned (.bool true)∧KW A base R wb t u m ks ns w w':=by
 have hc:K=27∨K=28∨K=29∨K=30∨K=31:=by omega
 rcases hc with rfl | rfl | rfl | rfl | rfl
 ·exact b7t A base R wb t u m ks ns O F i k on oa ox N W B L f0 f1 f2 f3 f4 fa fl fc fs hi hm w h
 ·exact b7r A base R wb t u m ks ns O F i k on oa ox N W B L f0 f1 f2 f3 f4 fa fl fc fs hi hm w h
 ·exact b5n A base R wb t u m ks ns O F i k on oa ox N W B L f0 f1 f2 f3 f4 fa fl fc fs hi ht hm w h
 ·exact b5v A base R wb t u m ks ns O F i k on oa ox N W B L f0 f1 f2 f3 f4 fa fl fc fs hi ht hm w h
 ·exact az3 A base R wb t u m ks ns O F i k on oa ox N W B L f0 f1 f2 f3 f4 fa fl fc fs hi hm w h
theorem au3 (A:Nat→Addr) (base:Nat) (R:Nat→Prop) (wb t u m:Nat) (ks:List Kn) (ns:List Wb) (O:Nat→Prop) (F:Bool × Nat→Nat→Prop) (K:Int) (on oa:Int) (ox:ByteArray) (N W B L f0 f1 f2 f3 f4:Int) (fa:Option Addr) (fl fc:Nat) (fs:ByteArray) (hK:27≤K∧K≤31) (hns:0<ns.length) (ht:t≤240000) (hm:m≤1000000) (ho:I64 on) (w:World) (h:LW A base R w wb t u m ks ns O F) :
  Calls Tryz.prog 37 #[.pointer (some ⟨wb,0,none⟩),.agg #[.int .i64 K,.int .i64 on,.int .i64 oa,.string ox,.int .i64 N,.int .i64 W,.int .i64 B,.int .i64 L,.int .i64 f0,.int .i64 f1,.int .i64 f2,.int .i64 f3,.int .i64 f4,.slice fa fl fc,.string fs]] w fun e w'=>e=.returned (.bool true)∧KW A base R wb t u m ks ns w w':=by
 have hfew:=h.few
 have hpb:=pk_bd on ns.length (by omega)
 obtain ⟨i,hip⟩:∃ i:Nat,(i:Int)=pk on ns.length:=⟨(pk on ns.length).toNat,by omega⟩
 have hil:i<ns.length:=by omega
 obtain ⟨k,hi⟩:∃ k,ns[i]?=some k:=⟨ns[i],List.getElem?_eq_getElem hil⟩
 have HPk:Hid (∀ y,Calls Tryz.prog 69 #[.int .i64 on,.int .i64 (ns.length:Int)] y fun e w'=>e=.returned (.int .i64 (i:Int))∧w'=y):=fun y=>by rw [hip];exact a5p on ns.length y ho (by omega) (by omega)
 obtain ⟨ka,kc,c3,hown,_⟩:=(h.low (a00 w (.cells #[.int .i64 K,.int .i64 on,.int .i64 oa,.string ox,.int .i64 N,.int .i64 W,.int .i64 B,.int .i64 L,.int .i64 f0,.int .i64 f1,.int .i64 f2,.int .i64 f3,.int .i64 f4,.slice fa fl fc,.string fs] 81))).bk.nt
 obtain ⟨r0,r1⟩:=a8m ns i k hi
 obtain ⟨gk,e1,k0,k1⟩:∃ gk,ka=some ⟨gk,0,none⟩∧(w.alloc (.cells #[.int .i64 K,.int .i64 on,.int .i64 oa,.string ox,.int .i64 N,.int .i64 W,.int .i64 B,.int .i64 L,.int .i64 f0,.int .i64 f1,.int .i64 f2,.int .i64 f3,.int .i64 f4,.slice fa fl fc,.string fs] 81)).cell? ⟨gk,i * 2,none⟩=some (.pointer (some ⟨k.fb,0,none⟩))∧(w.alloc (.cells #[.int .i64 K,.int .i64 on,.int .i64 oa,.string ox,.int .i64 N,.int .i64 W,.int .i64 B,.int .i64 L,.int .i64 f0,.int .i64 f1,.int .i64 f2,.int .i64 f3,.int .i64 f4,.slice fa fl fc,.string fs] 81)).cell? ⟨gk,i * 2+1,none⟩=some (.pointer (some ⟨k.nb,0,none⟩)):=by
  rcases hown.2 with ⟨_,h9⟩ | ⟨gk,cap',cur,e,_⟩
  ·omega
  ·cases e
   exact ⟨gk,rfl,(World.ownsRow.cellAt hown (i * 2) (by omega)).trans r0,(World.ownsRow.cellAt hown (i * 2+1) (by omega)).trans r1⟩
 subst e1
 have qo:∀ j,(w.alloc (.cells #[.int .i64 K,.int .i64 on,.int .i64 oa,.string ox,.int .i64 N,.int .i64 W,.int .i64 B,.int .i64 L,.int .i64 f0,.int .i64 f1,.int .i64 f2,.int .i64 f3,.int .i64 f4,.slice fa fl fc,.string fs] 81)).cell? ⟨w.heap.size,j,none⟩=#[Value.int .i64 K,.int .i64 on,.int .i64 oa,.string ox,.int .i64 N,.int .i64 W,.int .i64 B,.int .i64 L,.int .i64 f0,.int .i64 f1,.int .i64 f2,.int .i64 f3,.int .i64 f4,.slice fa fl fc,.string fs][j]?:=fun j=>cell_of_row _ _ j _ _ (0,0) (heap_alloc_new _ _)
 have o0:(w.alloc (.cells #[.int .i64 K,.int .i64 on,.int .i64 oa,.string ox,.int .i64 N,.int .i64 W,.int .i64 B,.int .i64 L,.int .i64 f0,.int .i64 f1,.int .i64 f2,.int .i64 f3,.int .i64 f4,.slice fa fl fc,.string fs] 81)).cell? ⟨w.heap.size,0,none⟩=some (.int .i64 K):=qo 0
 have o1:(w.alloc (.cells #[.int .i64 K,.int .i64 on,.int .i64 oa,.string ox,.int .i64 N,.int .i64 W,.int .i64 B,.int .i64 L,.int .i64 f0,.int .i64 f1,.int .i64 f2,.int .i64 f3,.int .i64 f4,.slice fa fl fc,.string fs] 81)).cell? ⟨w.heap.size,1,none⟩=some (.int .i64 on):=qo 1
 have o2:(w.alloc (.cells #[.int .i64 K,.int .i64 on,.int .i64 oa,.string ox,.int .i64 N,.int .i64 W,.int .i64 B,.int .i64 L,.int .i64 f0,.int .i64 f1,.int .i64 f2,.int .i64 f3,.int .i64 f4,.slice fa fl fc,.string fs] 81)).cell? ⟨w.heap.size,2,none⟩=some (.int .i64 oa):=qo 2
 have o3:(w.alloc (.cells #[.int .i64 K,.int .i64 on,.int .i64 oa,.string ox,.int .i64 N,.int .i64 W,.int .i64 B,.int .i64 L,.int .i64 f0,.int .i64 f1,.int .i64 f2,.int .i64 f3,.int .i64 f4,.slice fa fl fc,.string fs] 81)).cell? ⟨w.heap.size,3,none⟩=some (.string ox):=qo 3
 have o4:(w.alloc (.cells #[.int .i64 K,.int .i64 on,.int .i64 oa,.string ox,.int .i64 N,.int .i64 W,.int .i64 B,.int .i64 L,.int .i64 f0,.int .i64 f1,.int .i64 f2,.int .i64 f3,.int .i64 f4,.slice fa fl fc,.string fs] 81)).cell? ⟨w.heap.size,4,none⟩=some (.int .i64 N):=qo 4
 have o5:(w.alloc (.cells #[.int .i64 K,.int .i64 on,.int .i64 oa,.string ox,.int .i64 N,.int .i64 W,.int .i64 B,.int .i64 L,.int .i64 f0,.int .i64 f1,.int .i64 f2,.int .i64 f3,.int .i64 f4,.slice fa fl fc,.string fs] 81)).cell? ⟨w.heap.size,5,none⟩=some (.int .i64 W):=qo 5
 have o6:(w.alloc (.cells #[.int .i64 K,.int .i64 on,.int .i64 oa,.string ox,.int .i64 N,.int .i64 W,.int .i64 B,.int .i64 L,.int .i64 f0,.int .i64 f1,.int .i64 f2,.int .i64 f3,.int .i64 f4,.slice fa fl fc,.string fs] 81)).cell? ⟨w.heap.size,6,none⟩=some (.int .i64 B):=qo 6
 have o7:(w.alloc (.cells #[.int .i64 K,.int .i64 on,.int .i64 oa,.string ox,.int .i64 N,.int .i64 W,.int .i64 B,.int .i64 L,.int .i64 f0,.int .i64 f1,.int .i64 f2,.int .i64 f3,.int .i64 f4,.slice fa fl fc,.string fs] 81)).cell? ⟨w.heap.size,7,none⟩=some (.int .i64 L):=qo 7
 have o8:(w.alloc (.cells #[.int .i64 K,.int .i64 on,.int .i64 oa,.string ox,.int .i64 N,.int .i64 W,.int .i64 B,.int .i64 L,.int .i64 f0,.int .i64 f1,.int .i64 f2,.int .i64 f3,.int .i64 f4,.slice fa fl fc,.string fs] 81)).cell? ⟨w.heap.size,8,none⟩=some (.int .i64 f0):=qo 8
 have o9:(w.alloc (.cells #[.int .i64 K,.int .i64 on,.int .i64 oa,.string ox,.int .i64 N,.int .i64 W,.int .i64 B,.int .i64 L,.int .i64 f0,.int .i64 f1,.int .i64 f2,.int .i64 f3,.int .i64 f4,.slice fa fl fc,.string fs] 81)).cell? ⟨w.heap.size,9,none⟩=some (.int .i64 f1):=qo 9
 have o10:(w.alloc (.cells #[.int .i64 K,.int .i64 on,.int .i64 oa,.string ox,.int .i64 N,.int .i64 W,.int .i64 B,.int .i64 L,.int .i64 f0,.int .i64 f1,.int .i64 f2,.int .i64 f3,.int .i64 f4,.slice fa fl fc,.string fs] 81)).cell? ⟨w.heap.size,10,none⟩=some (.int .i64 f2):=qo 10
 have o11:(w.alloc (.cells #[.int .i64 K,.int .i64 on,.int .i64 oa,.string ox,.int .i64 N,.int .i64 W,.int .i64 B,.int .i64 L,.int .i64 f0,.int .i64 f1,.int .i64 f2,.int .i64 f3,.int .i64 f4,.slice fa fl fc,.string fs] 81)).cell? ⟨w.heap.size,11,none⟩=some (.int .i64 f3):=qo 11
 have o12:(w.alloc (.cells #[.int .i64 K,.int .i64 on,.int .i64 oa,.string ox,.int .i64 N,.int .i64 W,.int .i64 B,.int .i64 L,.int .i64 f0,.int .i64 f1,.int .i64 f2,.int .i64 f3,.int .i64 f4,.slice fa fl fc,.string fs] 81)).cell? ⟨w.heap.size,12,none⟩=some (.int .i64 f4):=qo 12
 have o13:(w.alloc (.cells #[.int .i64 K,.int .i64 on,.int .i64 oa,.string ox,.int .i64 N,.int .i64 W,.int .i64 B,.int .i64 L,.int .i64 f0,.int .i64 f1,.int .i64 f2,.int .i64 f3,.int .i64 f4,.slice fa fl fc,.string fs] 81)).cell? ⟨w.heap.size,13,none⟩=some (.slice fa fl fc):=qo 13
 have o14:(w.alloc (.cells #[.int .i64 K,.int .i64 on,.int .i64 oa,.string ox,.int .i64 N,.int .i64 W,.int .i64 B,.int .i64 L,.int .i64 f0,.int .i64 f1,.int .i64 f2,.int .i64 f3,.int .i64 f4,.slice fa fl fc,.string fs] 81)).cell? ⟨w.heap.size,14,none⟩=some (.string fs):=qo 14
 clear qo
 have hki:(i:Int)<(ns.length:Int):=by omega
 have hkp:(0:Int)<(ns.length:Int):=by omega
 have HKn:Hid (∀ y,Below (w.alloc (.cells #[.int .i64 K,.int .i64 on,.int .i64 oa,.string ox,.int .i64 N,.int .i64 W,.int .i64 B,.int .i64 L,.int .i64 f0,.int .i64 f1,.int .i64 f2,.int .i64 f3,.int .i64 f4,.slice fa fl fc,.string fs] 81)).heap.size (w.alloc (.cells #[.int .i64 K,.int .i64 on,.int .i64 oa,.string ox,.int .i64 N,.int .i64 W,.int .i64 B,.int .i64 L,.int .i64 f0,.int .i64 f1,.int .i64 f2,.int .i64 f3,.int .i64 f4,.slice fa fl fc,.string fs] 81)) y→Calls Tryz.prog 72 #[.pointer (some ⟨wb,0,none⟩),.agg #[.pointer (some ⟨k.fb,0,none⟩),.pointer (some ⟨k.nb,0,none⟩)],.agg #[.int .i64 K,.int .i64 on,.int .i64 oa,.string ox,.int .i64 N,.int .i64 W,.int .i64 B,.int .i64 L,.int .i64 f0,.int .i64 f1,.int .i64 f2,.int .i64 f3,.int .i64 f4,.slice fa fl fc,.string fs]] y fun e w'=>e=.returned (.bool true)∧KW A base R wb t u m ks ns w w'∧w'.cell? ⟨wb,4,none⟩=some (.slice (some ⟨gk,0,none⟩) ns.length kc)∧w'.cell? ⟨gk,i * 2,none⟩=some (.pointer (some ⟨k.fb,0,none⟩))∧w'.cell? ⟨gk,i * 2+1,none⟩=some (.pointer (some ⟨k.nb,0,none⟩))∧w'.cell? ⟨w.heap.size,0,none⟩=some (.int .i64 K)∧w'.cell? ⟨w.heap.size,1,none⟩=some (.int .i64 on)∧w'.cell? ⟨w.heap.size,2,none⟩=some (.int .i64 oa)∧w'.cell? ⟨w.heap.size,3,none⟩=some (.string ox)∧w'.cell? ⟨w.heap.size,4,none⟩=some (.int .i64 N)∧w'.cell? ⟨w.heap.size,5,none⟩=some (.int .i64 W)∧w'.cell? ⟨w.heap.size,6,none⟩=some (.int .i64 B)∧w'.cell? ⟨w.heap.size,7,none⟩=some (.int .i64 L)∧w'.cell? ⟨w.heap.size,8,none⟩=some (.int .i64 f0)∧w'.cell? ⟨w.heap.size,9,none⟩=some (.int .i64 f1)∧w'.cell? ⟨w.heap.size,10,none⟩=some (.int .i64 f2)∧w'.cell? ⟨w.heap.size,11,none⟩=some (.int .i64 f3)∧w'.cell? ⟨w.heap.size,12,none⟩=some (.int .i64 f4)∧w'.cell? ⟨w.heap.size,13,none⟩=some (.slice fa fl fc)∧w'.cell? ⟨w.heap.size,14,none⟩=some (.string fs)):=fun y hy=>by
  have hLX:=h.wider (R':=fun j=>R j∨j=w.heap.size) (a00 w (.cells #[.int .i64 K,.int .i64 on,.int .i64 oa,.string ox,.int .i64 N,.int .i64 W,.int .i64 B,.int .i64 L,.int .i64 f0,.int .i64 f1,.int .i64 f2,.int .i64 f3,.int .i64 f4,.slice fa fl fc,.string fs] 81)) (fun j hj=>Or.inl hj) (fun j hj=>by
   rcases hj with h1 | rfl
   ·exact Or.inl h1
   ·exact Or.inr ⟨Nat.le_refl _,by simp⟩)
  have hyc:∀ j,y.cell? ⟨w.heap.size,j,none⟩=(w.alloc (.cells #[.int .i64 K,.int .i64 on,.int .i64 oa,.string ox,.int .i64 N,.int .i64 W,.int .i64 B,.int .i64 L,.int .i64 f0,.int .i64 f1,.int .i64 f2,.int .i64 f3,.int .i64 f4,.slice fa fl fc,.string fs] 81)).cell? ⟨w.heap.size,j,none⟩:=fun j=>World.cell?_of_block (hy.block w.heap.size (by simp))
  refine (b70 A base (fun j=>R j∨j=w.heap.size) wb t u m ks ns O F i k K on oa ox N W B L f0 f1 f2 f3 f4 fa fl fc fs hK hi ht hm y (hLX.low hy)).mono fun e w' hh=>⟨hh.1,(hh.2.less (R':=R) (fun j hj=>Or.inl hj) h.rb).of ((h.same (a00 w _)).trans (((h.low (a00 w _)).same hy))),?_⟩
  have hko:=hh.2.2.kp.blk w.heap.size (Or.inr rfl)
  have hkc:∀ j,w'.cell? ⟨w.heap.size,j,none⟩=(w.alloc (.cells #[.int .i64 K,.int .i64 on,.int .i64 oa,.string ox,.int .i64 N,.int .i64 W,.int .i64 B,.int .i64 L,.int .i64 f0,.int .i64 f1,.int .i64 f2,.int .i64 f3,.int .i64 f4,.slice fa fl fc,.string fs] 81)).cell? ⟨w.heap.size,j,none⟩:=fun j=>(World.cell?_of_block hko).trans (hyc j)
  obtain ⟨a1,a2⟩:=((hLX.same hy).trans hh.2.2).kn 4 (Or.inr rfl) _ _ _ c3
  have hrow:∀ j,w'.cell? ⟨gk,j,none⟩=(w.alloc (.cells #[.int .i64 K,.int .i64 on,.int .i64 oa,.string ox,.int .i64 N,.int .i64 W,.int .i64 B,.int .i64 L,.int .i64 f0,.int .i64 f1,.int .i64 f2,.int .i64 f3,.int .i64 f4,.slice fa fl fc,.string fs] 81)).cell? ⟨gk,j,none⟩:=fun j=>World.cell?_of_block (a2 gk ⟨0,rfl⟩)
  exact ⟨a1,(hrow _).trans k0,(hrow _).trans k1,(hkc 0).trans o0,(hkc 1).trans o1,(hkc 2).trans o2,(hkc 3).trans o3,(hkc 4).trans o4,(hkc 5).trans o5,(hkc 6).trans o6,(hkc 7).trans o7,(hkc 8).trans o8,(hkc 9).trans o9,(hkc 10).trans o10,(hkc 11).trans o11,(hkc 12).trans o12,(hkc 13).trans o13,(hkc 14).trans o14⟩
 obtain ⟨h1,h2⟩:=hK
 have hb1:decide (K<10)=false:=decide_eq_false (by omega)
 have hb2:(K == 10)=false:=by simp;omega
 have hb3:decide (K<20)=false:=decide_eq_false (by omega)
 have hb4:(K == 20)=false:=by simp;omega
 have hb5:decide (20<K)=true:=decide_eq_true (by omega)
 have hb6:decide (K<27)=false:=decide_eq_false (by omega)
 have hb7:decide (27≤K)=true:=decide_eq_true (by omega)
 have hb8:decide (0<ns.length)=true:=decide_eq_true (by omega)
 obtain ⟨fb,nb,g,x⟩:=k
 simp only at k0 k1 HKn
 clear h hi hown r0 r1 hpb hip
 generalize KW A base R wb t u m ks ns w=KK at *
 generalize ns.length=kl at *
 go_enter Tryz.func37,Tryz.ntmps37
 go_wp2_with fail
 generalize w.alloc (.cells #[.int .i64 K,.int .i64 on,.int .i64 oa,.string ox,.int .i64 N,.int .i64 W,.int .i64 B,.int .i64 L,.int .i64 f0,.int .i64 f1,.int .i64 f2,.int .i64 f3,.int .i64 f4,.slice fa fl fc,.string fs] 81)=X at *
 have HS0:Hid (X.cell? ⟨wb,4,none⟩=some (.slice (some ⟨gk,0,none⟩) kl kc)∧X.cell? ⟨gk,i * 2,none⟩=some (.pointer (some ⟨fb,0,none⟩))∧X.cell? ⟨gk,i * 2+1,none⟩=some (.pointer (some ⟨nb,0,none⟩))∧X.cell? ⟨w.heap.size,0,none⟩=some (.int .i64 K)∧X.cell? ⟨w.heap.size,1,none⟩=some (.int .i64 on)∧X.cell? ⟨w.heap.size,2,none⟩=some (.int .i64 oa)∧X.cell? ⟨w.heap.size,3,none⟩=some (.string ox)∧X.cell? ⟨w.heap.size,4,none⟩=some (.int .i64 N)∧X.cell? ⟨w.heap.size,5,none⟩=some (.int .i64 W)∧X.cell? ⟨w.heap.size,6,none⟩=some (.int .i64 B)∧X.cell? ⟨w.heap.size,7,none⟩=some (.int .i64 L)∧X.cell? ⟨w.heap.size,8,none⟩=some (.int .i64 f0)∧X.cell? ⟨w.heap.size,9,none⟩=some (.int .i64 f1)∧X.cell? ⟨w.heap.size,10,none⟩=some (.int .i64 f2)∧X.cell? ⟨w.heap.size,11,none⟩=some (.int .i64 f3)∧X.cell? ⟨w.heap.size,12,none⟩=some (.int .i64 f4)∧X.cell? ⟨w.heap.size,13,none⟩=some (.slice fa fl fc)∧X.cell? ⟨w.heap.size,14,none⟩=some (.string fs)):=⟨c3,k0,k1,o0,o1,o2,o3,o4,o5,o6,o7,o8,o9,o10,o11,o12,o13,o14⟩
 go_region_held3 (fun v=>v.cell? ⟨wb,4,none⟩=some (.slice (some ⟨gk,0,none⟩) kl kc)∧v.cell? ⟨gk,i * 2,none⟩=some (.pointer (some ⟨fb,0,none⟩))∧v.cell? ⟨gk,i * 2+1,none⟩=some (.pointer (some ⟨nb,0,none⟩))∧v.cell? ⟨w.heap.size,0,none⟩=some (.int .i64 K)∧v.cell? ⟨w.heap.size,1,none⟩=some (.int .i64 on)∧v.cell? ⟨w.heap.size,2,none⟩=some (.int .i64 oa)∧v.cell? ⟨w.heap.size,3,none⟩=some (.string ox)∧v.cell? ⟨w.heap.size,4,none⟩=some (.int .i64 N)∧v.cell? ⟨w.heap.size,5,none⟩=some (.int .i64 W)∧v.cell? ⟨w.heap.size,6,none⟩=some (.int .i64 B)∧v.cell? ⟨w.heap.size,7,none⟩=some (.int .i64 L)∧v.cell? ⟨w.heap.size,8,none⟩=some (.int .i64 f0)∧v.cell? ⟨w.heap.size,9,none⟩=some (.int .i64 f1)∧v.cell? ⟨w.heap.size,10,none⟩=some (.int .i64 f2)∧v.cell? ⟨w.heap.size,11,none⟩=some (.int .i64 f3)∧v.cell? ⟨w.heap.size,12,none⟩=some (.int .i64 f4)∧v.cell? ⟨w.heap.size,13,none⟩=some (.slice fa fl fc)∧v.cell? ⟨w.heap.size,14,none⟩=some (.string fs)) (first|(exact HS0.out)|(exact HSW.out) | go_keep)
  (first|(go_at_call 69;refine (show Calls _ _ _ _ _ from HPk.out _).mono ?_;rintro e w' ⟨rfl,rfl⟩)|(go_at_call 72;refine (show Calls _ _ _ _ _ from HKn.out _ (by first | exact (Below.refl _ _).drew | exact Below.refl _ _ | exact below_drewN (Below.refl _ _) _)).mono ?_;rintro e w' ⟨rfl,hK,hSw⟩;have HK:Hid _:=hK;have HSW:Hid _:=hSw;clear hK hSw))
 all_goals
  go_wp2_with fail
  go_ret
  exact ⟨rfl,HK.out⟩
def SW (A:Nat→Addr) (base:Nat) (R:Nat→Prop) (wb t:Nat) (w w':World):Prop:=(∃ ks ns O F,LW A base R w' wb t t t ks ns O F)∧Kp2 R w w'
theorem b2d (A:Nat→Addr) (base:Nat) (R:Nat→Prop) (wb t:Nat) (ks:List Kn) (ns:List Wb) (O:Nat→Prop) (F:Bool × Nat→Nat→Prop) (o:Opp) (hK:20≤o.K∧o.K≤31) (w0:World) (ho:o.Ok w0) (ht:t≤240000) (w:World) (h:LW A base R w wb t t t ks ns O F) :
  Calls Tryz.prog 37 #[.pointer (some ⟨wb,0,none⟩),.agg #[.int .i64 o.K,.int .i64 o.on,.int .i64 o.a,.string o.s,.int .i64 o.N,.int .i64 o.W,.int .i64 o.B,.int .i64 o.L,.int .i64 o.f0,.int .i64 o.f1,.int .i64 o.f2,.int .i64 o.f3,.int .i64 o.f4,.slice o.fa o.fl o.fc,.string o.fb]] w fun e w'=>e=.returned (.bool true)∧SW A base R wb (t+1) w w':=by
 by_cases e:o.K=20
 ·have h1:=av1 A base R wb t t t ks ns O F o.on o.a o.s o.N o.W o.B o.L o.f0 o.f1 o.f2 o.f3 o.f4 o.fa o.fl o.fc o.fb (by omega) w h
  rw [e]
  refine h1.mono ?_
  rintro e w' ⟨rfl,⟨ks',ns',O',F',h2,_⟩,h3⟩
  exact ⟨rfl,⟨ks',ns',O',F',h2.more (Nat.le_succ _) (Nat.le_succ _) (Nat.le_refl _)⟩,h3⟩
 ·by_cases h0:ns.length=0
  ·refine (az5 A base R wb t t t ks ns O F o.K o.on o.a o.s o.N o.W o.B o.L o.f0 o.f1 o.f2 o.f3 o.f4 o.fa o.fl o.fc o.fb (by omega) h0 w h).mono ?_
   rintro e w' ⟨rfl,⟨ks',ns',O',F',h2,_⟩,h3⟩
   exact ⟨rfl,⟨ks',ns',O',F',h2⟩,h3.kp⟩
  ·by_cases h27:o.K<27
   ·refine (ag7 A base R wb t t t ks ns O F o.K o.on o.a o.s o.N o.W o.B o.L o.f0 o.f1 o.f2 o.f3 o.f4 o.fa o.fl o.fc o.fb (by omega) (by omega) (by omega) ho.on w h).mono ?_
    rintro e w' ⟨rfl,⟨ks',ns',O',F',h2,_⟩,h3⟩
    exact ⟨rfl,⟨ks',ns',O',F',h2⟩,h3.kp⟩
   ·refine (au3 A base R wb t t t ks ns O F o.K o.on o.a o.s o.N o.W o.B o.L o.f0 o.f1 o.f2 o.f3 o.f4 o.fa o.fl o.fc o.fb (by omega) (by omega) ht (by omega) ho.on w h).mono ?_
    rintro e w' ⟨rfl,⟨ks',ns',O',F',h2,_⟩,h3⟩
    exact ⟨rfl,⟨ks',ns',O',F',h2⟩,h3.kp⟩
theorem b1b (A:Nat→Addr) (base:Nat) (R:Nat→Prop) (wb t:Nat) (ks:List Kn) (ns:List Wb) (O:Nat→Prop) (F:Bool × Nat→Nat→Prop) (o:Opp) (vs:List Int) (hK:1≤o.K∧o.K≤31) (w0:World) (ho:o.Ok w0) (ht:t≤240000) (w:World) (hv:VecIs w o.fa o.fl o.fc vs) (hT:ErrT w) (h:LW A base R w wb t t t ks ns O F) :
  Calls Tryz.prog 37 #[.pointer (some ⟨wb,0,none⟩),.agg #[.int .i64 o.K,.int .i64 o.on,.int .i64 o.a,.string o.s,.int .i64 o.N,.int .i64 o.W,.int .i64 o.B,.int .i64 o.L,.int .i64 o.f0,.int .i64 o.f1,.int .i64 o.f2,.int .i64 o.f3,.int .i64 o.f4,.slice o.fa o.fl o.fc,.string o.fb]] w fun e w'=>e=.returned (.bool true)∧SW A base R wb (t+1) w w':=by
 by_cases h20:20≤o.K
 ·exact b2d A base R wb t ks ns O F o ⟨h20,hK.2⟩ w0 ho ht w h
 ·by_cases h10:o.K<10
  ·refine (b0h A base R wb t t t ks ns O F o.K o.on o.a o.s o.N o.W o.B o.L o.f0 o.f1 o.f2 o.f3 o.f4 o.fa o.fl o.fc o.fb ⟨hK.1,h10⟩ vs ho.s ho.b ht w hv hT h).mono ?_
   rintro e w' ⟨rfl,⟨ks',ns',O',F',h2,_⟩,h3⟩
   exact ⟨rfl,⟨ks',ns',O',F',h2⟩,h3.kp⟩
  ·by_cases e:o.K=10
   ·have h1:=ai6 A base R wb t t t ks ns O F o.on o.a o.s o.N o.W o.B o.L o.f0 o.f1 o.f2 o.f3 o.f4 o.fa o.fl o.fc o.fb (by omega) w h
    rw [e]
    refine h1.mono ?_
    rintro e w' ⟨rfl,⟨ks',ns',O',F',h2,_⟩,h3⟩
    exact ⟨rfl,⟨ks',ns',O',F',h2.more (Nat.le_succ _) (Nat.le_succ _) (Nat.le_refl _)⟩,h3⟩
   ·by_cases h0:ks.length=0
    ·refine (b1a A base R wb t t t ks ns O F o.K o.on o.a o.s o.N o.W o.B o.L o.f0 o.f1 o.f2 o.f3 o.f4 o.fa o.fl o.fc o.fb (by omega) h0 w h).mono ?_
     rintro e w' ⟨rfl,⟨ks',ns',O',F',h2,_⟩,h3⟩
     exact ⟨rfl,⟨ks',ns',O',F',h2⟩,h3.kp⟩
    ·refine (ai0 A base R wb t t t ks ns O F o.K o.on o.a o.s o.N o.W o.B o.L o.f0 o.f1 o.f2 o.f3 o.f4 o.fa o.fl o.fc o.fb (by omega) (by omega) ht ht (by omega) ho.on ho.a ho.s w h).mono ?_
     rintro e w' ⟨rfl,⟨ks',ns',O',F',h2,_⟩,h3⟩
     exact ⟨rfl,⟨ks',ns',O',F',h2⟩,h3.kp⟩
def BW (A:Nat→Addr) (base:Nat) (R:Nat→Prop) (wb t m n l:Nat) (w w':World):Prop:=(∃ ks ns O F,LW A base R w' wb t t m ks ns O F∧ks.length=n∧ns.length=l)∧Kp2 R w w'
section
variable {A:Nat→Addr} {base:Nat} {R:Nat→Prop} {wb t m n l:Nat} {w w1:World}
theorem BW.net (h:BW A base R wb t m n l w w1) (hm:m≤1000000):Calls Tryz.prog 37 #[.pointer (some ⟨wb,0,none⟩),.agg #[.int .i64 20,.int .i64 0,.int .i64 0,.string ⟨#[]⟩,.int .i64 2,.int .i64 1,.int .i64 3,.int .i64 9,.int .i64 0,.int .i64 0,.int .i64 0,.int .i64 0,.int .i64 0,.slice none 0 0,.string ⟨#[]⟩]] w1 fun e w'=>e=.returned (.bool true)∧BW A base R wb t (m+1) n (l+1) w w':=by
 obtain ⟨⟨ks,ns,O,F,hL,hl,hl'⟩,hk⟩:=h
 refine (av1 A base R wb t t m ks ns O F 0 0 ⟨#[]⟩ 2 1 3 9 0 0 0 0 0 none 0 0 ⟨#[]⟩ hm w1 hL).mono ?_
 rintro e w' ⟨rfl,⟨ks',ns',O',F',h2,h3,h3'⟩,h4⟩
 rw [if_pos (by decide)] at h3'
 exact ⟨rfl,⟨ks',ns',O',F',h2,by omega,by omega⟩,hk.trans h4⟩
theorem BW.move (h:BW A base R wb t m n l w w1) (hm:m≤1000000) (hl0:0<l) (K:Int) (x:ByteArray) (hK:21≤K∧K≤26):Calls Tryz.prog 37 #[.pointer (some ⟨wb,0,none⟩),.agg #[.int .i64 K,.int .i64 0,.int .i64 0,.string x,.int .i64 0,.int .i64 0,.int .i64 0,.int .i64 0,.int .i64 0,.int .i64 0,.int .i64 0,.int .i64 0,.int .i64 0,.slice none 0 0,.string ⟨#[]⟩]] w1 fun e w'=>e=.returned (.bool true)∧BW A base R wb (t+1) (m+1) n l w w':=by
 obtain ⟨⟨ks,ns,O,F,hL,hl,hl'⟩,hk⟩:=h
 refine (ag7 A base R wb t t m ks ns O F K 0 0 x 0 0 0 0 0 0 0 0 0 none 0 0 ⟨#[]⟩ hK (by omega) hm ⟨by decide,by decide⟩ w1 hL).mono ?_
 rintro e w' ⟨rfl,⟨ks',ns',O',F',h2,h3,h3'⟩,h4⟩
 exact ⟨rfl,⟨ks',ns',O',F',h2,by omega,by omega⟩,hk.trans h4.kp⟩
theorem BW.ask (h:BW A base R wb t m n l w w1) (hm:m≤1000000) (ht:t≤240000) (hl0:0<l) (K a:Int) (hK:27≤K∧K≤31):Calls Tryz.prog 37 #[.pointer (some ⟨wb,0,none⟩),.agg #[.int .i64 K,.int .i64 0,.int .i64 a,.string ⟨#[]⟩,.int .i64 0,.int .i64 0,.int .i64 0,.int .i64 0,.int .i64 0,.int .i64 0,.int .i64 0,.int .i64 0,.int .i64 0,.slice none 0 0,.string ⟨#[]⟩]] w1 fun e w'=>e=.returned (.bool true)∧BW A base R wb (t+1) (m+1) n l w w':=by
 obtain ⟨⟨ks,ns,O,F,hL,hl,hl'⟩,hk⟩:=h
 refine (au3 A base R wb t t m ks ns O F K 0 a ⟨#[]⟩ 0 0 0 0 0 0 0 0 0 none 0 0 ⟨#[]⟩ hK (by omega) ht hm ⟨by decide,by decide⟩ w1 hL).mono ?_
 rintro e w' ⟨rfl,⟨ks',ns',O',F',h2,h3,h3'⟩,h4⟩
 exact ⟨rfl,⟨ks',ns',O',F',h2,by omega,by omega⟩,hk.trans h4.kp⟩
end
section
variable {A:Nat→Addr} {base:Nat} {R:Nat→Prop} {wb t m n l:Nat} {w w1:World}
theorem BW.node (h:BW A base R wb t m n l w w1) (hm:m≤1000000) (a:Int) (h0:a0d 2 1 3 9 a=0):Calls Tryz.prog 37 #[.pointer (some ⟨wb,0,none⟩),.agg #[.int .i64 10,.int .i64 0,.int .i64 a,.string ⟨#[]⟩,.int .i64 2,.int .i64 1,.int .i64 3,.int .i64 9,.int .i64 0,.int .i64 0,.int .i64 0,.int .i64 0,.int .i64 0,.slice none 0 0,.string ⟨#[]⟩]] w1 fun e w'=>e=.returned (.bool true)∧BW A base R wb t (m+1) (n+1) l w w':=by
 obtain ⟨⟨ks,ns,O,F,hL,hl,hl'⟩,hk⟩:=h
 refine (ai6 A base R wb t t m ks ns O F 0 a ⟨#[]⟩ 2 1 3 9 0 0 0 0 0 none 0 0 ⟨#[]⟩ hm w1 hL).mono ?_
 rintro e w' ⟨rfl,⟨ks',ns',O',F',h2,h3,h3'⟩,h4⟩
 rw [if_pos h0] at h3
 exact ⟨rfl,⟨ks',ns',O',F',h2,by omega,by omega⟩,hk.trans h4⟩
theorem BW.knot (h:BW A base R wb t m n l w w1) (hm:m≤1000000) (ht:t≤240000) (hn:0<n) (K on:Int) (x:ByteArray) (hK:11≤K∧K≤19) (ho:I64 on) (hx:x.size≤maxLen):Calls Tryz.prog 37 #[.pointer (some ⟨wb,0,none⟩),.agg #[.int .i64 K,.int .i64 on,.int .i64 0,.string x,.int .i64 0,.int .i64 0,.int .i64 0,.int .i64 0,.int .i64 0,.int .i64 0,.int .i64 0,.int .i64 0,.int .i64 0,.slice none 0 0,.string ⟨#[]⟩]] w1 fun e w'=>e=.returned (.bool true)∧BW A base R wb (t+1) (m+1) n l w w':=by
 obtain ⟨⟨ks,ns,O,F,hL,hl,hl'⟩,hk⟩:=h
 refine (ai0 A base R wb t t m ks ns O F K on 0 x 0 0 0 0 0 0 0 0 0 none 0 0 ⟨#[]⟩ hK (by omega) ht ht hm ho ⟨by decide,by decide⟩ hx w1 hL).mono ?_
 rintro e w' ⟨rfl,⟨ks',ns',O',F',h2,h3,h3'⟩,h4⟩
 exact ⟨rfl,⟨ks',ns',O',F',h2,by omega,by omega⟩,hk.trans h4.kp⟩
end
theorem ay4 (A:Nat→Addr) (base:Nat) (w:World) (hw:Sl w A base) (hz:base≤w.heap.size) :
  Calls Tryz.prog 36 #[.int .i64 1,.int .i64 31] w fun e w'=>e=.returned (.bool true)∧Below w.heap.size w w':=by
 have hbX:Below w.heap.size w ((w.alloc (.cells #[.slice none 0 0,.slice none 0 0,.slice none 0 0,.slice none 0 0,.slice none 0 0,.slice none 0 0] 79)).alloc (.cells #[.int .i64 2,.int .i64 1,.int .i64 3,.int .i64 9] 26)):=bthen (a00 _ _) (a00 _ _)
 have h1:((w.alloc (.cells #[.slice none 0 0,.slice none 0 0,.slice none 0 0,.slice none 0 0,.slice none 0 0,.slice none 0 0] 79)).alloc (.cells #[.int .i64 2,.int .i64 1,.int .i64 3,.int .i64 9] 26)).heap[w.heap.size]?=some (.cells #[.slice none 0 0,.slice none 0 0,.slice none 0 0,.slice none 0 0,.slice none 0 0,.slice none 0 0] 79 (0,0)):=(Below.block (a00 (w.alloc (.cells #[.slice none 0 0,.slice none 0 0,.slice none 0 0,.slice none 0 0,.slice none 0 0,.slice none 0 0] 79)) (.cells #[.int .i64 2,.int .i64 1,.int .i64 3,.int .i64 9] 26)) w.heap.size (by simp)).trans (heap_alloc_new _ _)
 have hsz:(w.alloc (.cells #[.slice none 0 0,.slice none 0 0,.slice none 0 0,.slice none 0 0,.slice none 0 0,.slice none 0 0] 79)).heap.size=w.heap.size+1:=by simp
 have hsx:((w.alloc (.cells #[.slice none 0 0,.slice none 0 0,.slice none 0 0,.slice none 0 0,.slice none 0 0,.slice none 0 0] 79)).alloc (.cells #[.int .i64 2,.int .i64 1,.int .i64 3,.int .i64 9] 26)).heap.size=w.heap.size+2:=by simp
 have h2:((w.alloc (.cells #[.slice none 0 0,.slice none 0 0,.slice none 0 0,.slice none 0 0,.slice none 0 0,.slice none 0 0] 79)).alloc (.cells #[.int .i64 2,.int .i64 1,.int .i64 3,.int .i64 9] 26)).heap[w.heap.size+1]?=some (.cells #[.int .i64 2,.int .i64 1,.int .i64 3,.int .i64 9] 26 (0,0)):=by rw [←hsz];exact heap_alloc_new _ _
 have hL0:LW A base (fun j=>j<w.heap.size∨j=w.heap.size+1) ((w.alloc (.cells #[.slice none 0 0,.slice none 0 0,.slice none 0 0,.slice none 0 0,.slice none 0 0,.slice none 0 0] 79)).alloc (.cells #[.int .i64 2,.int .i64 1,.int .i64 3,.int .i64 9] 26)) w.heap.size 0 0 0 [] [] (fun j=>j=w.heap.size) (fun _ _=>False):=LW.start (hw.low hbX) h1 (fun j hj=>Or.inl (by omega)) (fun j hj=>by rw [hsx];omega) (by omega)
 have HB0:Hid (BW A base (fun j=>j<w.heap.size∨j=w.heap.size+1) w.heap.size 0 0 0 0 ((w.alloc (.cells #[.slice none 0 0,.slice none 0 0,.slice none 0 0,.slice none 0 0,.slice none 0 0,.slice none 0 0] 79)).alloc (.cells #[.int .i64 2,.int .i64 1,.int .i64 3,.int .i64 9] 26)) ((w.alloc (.cells #[.slice none 0 0,.slice none 0 0,.slice none 0 0,.slice none 0 0,.slice none 0 0,.slice none 0 0] 79)).alloc (.cells #[.int .i64 2,.int .i64 1,.int .i64 3,.int .i64 9] 26))):=⟨⟨_,_,_,_,hL0,rfl,rfl⟩,⟨fun _ _=>rfl,Nat.le_refl _,rfl,rfl,rfl⟩⟩
 have HC:Hid (∀ t m n l y,BW A base (fun j=>j<w.heap.size∨j=w.heap.size+1) w.heap.size t m n l ((w.alloc (.cells #[.slice none 0 0,.slice none 0 0,.slice none 0 0,.slice none 0 0,.slice none 0 0,.slice none 0 0] 79)).alloc (.cells #[.int .i64 2,.int .i64 1,.int .i64 3,.int .i64 9] 26)) y→y.cell? ⟨w.heap.size+1,0,none⟩=some (.int .i64 2)∧y.cell? ⟨w.heap.size+1,1,none⟩=some (.int .i64 1)∧y.cell? ⟨w.heap.size+1,2,none⟩=some (.int .i64 3)∧y.cell? ⟨w.heap.size+1,3,none⟩=some (.int .i64 9)):=fun t m n l y hy=>by
  have e:∀ j,y.cell? ⟨w.heap.size+1,j,none⟩=#[Value.int .i64 2,.int .i64 1,.int .i64 3,.int .i64 9][j]?:=fun j=>cell_of_row y _ j _ _ (0,0) ((hy.2.blk _ (Or.inr rfl)).trans h2)
  exact ⟨e 0,e 1,e 2,e 3⟩
 have HE3:Hid (∀ t m l y,BW A base (fun j=>j<w.heap.size∨j=w.heap.size+1) w.heap.size t m 2 l ((w.alloc (.cells #[.slice none 0 0,.slice none 0 0,.slice none 0 0,.slice none 0 0,.slice none 0 0,.slice none 0 0] 79)).alloc (.cells #[.int .i64 2,.int .i64 1,.int .i64 3,.int .i64 9] 26)) y→∃ ka kc,y.cell? ⟨w.heap.size,3,none⟩=some (.slice ka 2 kc)):=fun t m l y hy=>by
  obtain ⟨⟨ks,ns,O,F,hL,hl,hl'⟩,hk⟩:=hy
  obtain ⟨ka,kc,c3,_⟩:=hL.bk.kn
  rw [hl] at c3
  exact ⟨ka,kc,c3⟩
 have HE:Hid (∀ t m n y,BW A base (fun j=>j<w.heap.size∨j=w.heap.size+1) w.heap.size t m n 1 ((w.alloc (.cells #[.slice none 0 0,.slice none 0 0,.slice none 0 0,.slice none 0 0,.slice none 0 0,.slice none 0 0] 79)).alloc (.cells #[.int .i64 2,.int .i64 1,.int .i64 3,.int .i64 9] 26)) y→(∃ ka kc,y.cell? ⟨w.heap.size,4,none⟩=some (.slice ka 1 kc))∧Below w.heap.size w y):=fun t m n y hy=>by
  obtain ⟨⟨ks,ns,O,F,hL,hl,hl'⟩,hk⟩:=hy
  obtain ⟨ka,kc,c4,_⟩:=hL.bk.nt
  rw [hl'] at c4
  exact ⟨⟨ka,kc,c4⟩,hbX.trans (hk.below (z:=w.heap.size) (fun j hj=>Or.inl hj))⟩
 have HS1:Hid _:=HB0.out.node (by omega) 0 (by decide)
 have HS2:Hid (∀ y,BW A base (fun j=>j<w.heap.size∨j=w.heap.size+1) w.heap.size 0 1 1 0 ((w.alloc (.cells #[.slice none 0 0,.slice none 0 0,.slice none 0 0,.slice none 0 0,.slice none 0 0,.slice none 0 0] 79)).alloc (.cells #[.int .i64 2,.int .i64 1,.int .i64 3,.int .i64 9] 26)) y→_):=fun y hy=>hy.node (by omega) 1 (by decide)
 have HS3:Hid (∀ y,BW A base (fun j=>j<w.heap.size∨j=w.heap.size+1) w.heap.size 0 2 2 0 ((w.alloc (.cells #[.slice none 0 0,.slice none 0 0,.slice none 0 0,.slice none 0 0,.slice none 0 0,.slice none 0 0] 79)).alloc (.cells #[.int .i64 2,.int .i64 1,.int .i64 3,.int .i64 9] 26)) y→_):=fun y hy=>hy.knot (by omega) (by omega) (by omega) 11 0 ⟨#[121,101,115]⟩ ⟨by decide,by decide⟩ ⟨by decide,by decide⟩ (by decide)
 have HS4:Hid (∀ y,BW A base (fun j=>j<w.heap.size∨j=w.heap.size+1) w.heap.size 1 3 2 0 ((w.alloc (.cells #[.slice none 0 0,.slice none 0 0,.slice none 0 0,.slice none 0 0,.slice none 0 0,.slice none 0 0] 79)).alloc (.cells #[.int .i64 2,.int .i64 1,.int .i64 3,.int .i64 9] 26)) y→_):=fun y hy=>hy.knot (by omega) (by omega) (by omega) 13 1 ⟨#[]⟩ ⟨by decide,by decide⟩ ⟨by decide,by decide⟩ (by decide)
 have HS5:Hid (∀ y,BW A base (fun j=>j<w.heap.size∨j=w.heap.size+1) w.heap.size 2 4 2 0 ((w.alloc (.cells #[.slice none 0 0,.slice none 0 0,.slice none 0 0,.slice none 0 0,.slice none 0 0,.slice none 0 0] 79)).alloc (.cells #[.int .i64 2,.int .i64 1,.int .i64 3,.int .i64 9] 26)) y→_):=fun y hy=>hy.knot (by omega) (by omega) (by omega) 15 1 ⟨#[]⟩ ⟨by decide,by decide⟩ ⟨by decide,by decide⟩ (by decide)
 have HS6:Hid (∀ y,BW A base (fun j=>j<w.heap.size∨j=w.heap.size+1) w.heap.size 3 5 2 0 ((w.alloc (.cells #[.slice none 0 0,.slice none 0 0,.slice none 0 0,.slice none 0 0,.slice none 0 0,.slice none 0 0] 79)).alloc (.cells #[.int .i64 2,.int .i64 1,.int .i64 3,.int .i64 9] 26)) y→_):=fun y hy=>hy.net (by omega)
 have HS7:Hid (∀ y,BW A base (fun j=>j<w.heap.size∨j=w.heap.size+1) w.heap.size 3 6 2 1 ((w.alloc (.cells #[.slice none 0 0,.slice none 0 0,.slice none 0 0,.slice none 0 0,.slice none 0 0,.slice none 0 0] 79)).alloc (.cells #[.int .i64 2,.int .i64 1,.int .i64 3,.int .i64 9] 26)) y→_):=fun y hy=>hy.move (by omega) (by omega) 21 ⟨#[121,101,115]⟩ ⟨by decide,by decide⟩
 have HS8:Hid (∀ y,BW A base (fun j=>j<w.heap.size∨j=w.heap.size+1) w.heap.size 4 7 2 1 ((w.alloc (.cells #[.slice none 0 0,.slice none 0 0,.slice none 0 0,.slice none 0 0,.slice none 0 0,.slice none 0 0] 79)).alloc (.cells #[.int .i64 2,.int .i64 1,.int .i64 3,.int .i64 9] 26)) y→_):=fun y hy=>hy.move (by omega) (by omega) 23 ⟨#[]⟩ ⟨by decide,by decide⟩
 have HS9:Hid (∀ y,BW A base (fun j=>j<w.heap.size∨j=w.heap.size+1) w.heap.size 5 8 2 1 ((w.alloc (.cells #[.slice none 0 0,.slice none 0 0,.slice none 0 0,.slice none 0 0,.slice none 0 0,.slice none 0 0] 79)).alloc (.cells #[.int .i64 2,.int .i64 1,.int .i64 3,.int .i64 9] 26)) y→_):=fun y hy=>hy.ask (by omega) (by omega) (by omega) 29 1 ⟨by decide,by decide⟩
 clear hw hz hbX h1 hsz hsx h2 hL0 HB0
 go_enter Tryz.func36,Tryz.ntmps36
 go_wp2_with fail
 generalize (w.alloc (.cells #[.slice none 0 0,.slice none 0 0,.slice none 0 0,.slice none 0 0,.slice none 0 0,.slice none 0 0] 79)).alloc (.cells #[.int .i64 2,.int .i64 1,.int .i64 3,.int .i64 9] 26)=X at *
 refine (show Calls _ _ _ _ _ from HS1.out).mono ?_
 rintro e w1 ⟨rfl,hn1⟩
 have HN1:Hid _:=hn1
 obtain ⟨q0,q1,q2,q3⟩:=HC.out _ _ _ _ _ hn1
 clear hn1
 go_wp2_with fail
 refine (show Calls _ _ _ _ _ from HS2.out _ HN1.out).mono ?_
 rintro e w2 ⟨rfl,hn2⟩
 have HN2:Hid _:=hn2
 clear hn2 q0 q1 q2 q3
 go_wp2_with fail
 refine (show Calls _ _ _ _ _ from HS3.out _ HN2.out).mono ?_
 rintro e w3 ⟨rfl,hn3⟩
 have HN3:Hid _:=hn3
 clear hn3
 go_wp2_with fail
 refine (show Calls _ _ _ _ _ from HS4.out _ HN3.out).mono ?_
 rintro e w4 ⟨rfl,hn4⟩
 have HN4:Hid _:=hn4
 clear hn4
 go_wp2_with fail
 refine (show Calls _ _ _ _ _ from HS5.out _ HN4.out).mono ?_
 rintro e w5 ⟨rfl,hn5⟩
 have HN5:Hid _:=hn5
 obtain ⟨ka,kc,c3⟩:=HE3.out _ _ _ _ hn5
 obtain ⟨q0,q1,q2,q3⟩:=HC.out _ _ _ _ _ hn5
 clear hn5
 go_wp2_with fail
 refine (show Calls _ _ _ _ _ from HS6.out _ HN5.out).mono ?_
 rintro e w6 ⟨rfl,hn6⟩
 have HN6:Hid _:=hn6
 clear hn6 q0 q1 q2 q3 c3
 go_wp2_with fail
 refine (show Calls _ _ _ _ _ from HS7.out _ HN6.out).mono ?_
 rintro e w7 ⟨rfl,hn7⟩
 have HN7:Hid _:=hn7
 clear hn7
 go_wp2_with fail
 refine (show Calls _ _ _ _ _ from HS8.out _ HN7.out).mono ?_
 rintro e w8 ⟨rfl,hn8⟩
 have HN8:Hid _:=hn8
 clear hn8
 go_wp2_with fail
 refine (show Calls _ _ _ _ _ from HS9.out _ HN8.out).mono ?_
 rintro e w9 ⟨rfl,hn9⟩
 obtain ⟨⟨ka,kc,c4⟩,hbw⟩:=HE.out _ _ _ _ hn9
 have HBw:Hid _:=hbw
 clear hn9 hbw
 go_wp2_with fail
 go_ret
 exact ⟨rfl,HBw.out⟩
end Go.Proofs.YtabecbjfamphbaaGreatDoor
