/- A part of the proof. -/
import Derived.Test.YtabecbjfamphbaaGreatDoorM40
namespace Go.Proofs.YtabecbjfamphbaaGreatDoor
open Go.RowKit Go.Stop Go.Extern
set_option maxRecDepth 100000
set_option maxHeartbeats 4000000
theorem b2a (A:Nat→Addr) (base:Nat) (R:Nat→Prop) (wb t u m:Nat) (ks:List Kn) (ns:List Wb) (O:Nat→Prop) (F:Bool × Nat→Nat→Prop) (K:Int) (on oa:Int) (ox:ByteArray) (N W B L f0 f1 f2 f3 f4:Int) (fa:Option Addr) (fl fc:Nat) (fs:ByteArray) (hK:1≤K∧K<10) (vs:List Int) (hx:ox.size≤maxLen) (hfs:fs.size≤maxLen) (ht:t≤240000) (w:World) (hv:VecIs w fa fl fc vs) (hT:ErrT w) (h:LW A base R w wb t u m ks ns O F) :
  Calls Tryz.prog 66 #[.pointer (some ⟨wb,0,none⟩),.agg #[.int .i64 K,.int .i64 on,.int .i64 oa,.string ox,.int .i64 N,.int .i64 W,.int .i64 B,.int .i64 L,.int .i64 f0,.int .i64 f1,.int .i64 f2,.int .i64 f3,.int .i64 f4,.slice fa fl fc,.string fs]] w fun e w'=>e=.returned (.bool true)∧KW A base R wb t u m ks ns w w':=by
 have HLow:Hid (∀ X,Below w.heap.size w X→KW A base R wb t u m ks ns w X):=fun X hb=>⟨⟨ks,ns,O,F,(h.low hb).more (Nat.le_succ _) (Nat.le_succ _) (Nat.le_succ _),rfl,rfl⟩,h.same hb⟩
 have hc:K=1∨K=2∨K=3∨4≤K:=by omega
 rcases hc with rfl | rfl | rfl | h4
 ·obtain ⟨X,hX⟩:∃ X,X=w.alloc (.cells #[.int .i64 1,.int .i64 on,.int .i64 oa,.string ox,.int .i64 N,.int .i64 W,.int .i64 B,.int .i64 L,.int .i64 f0,.int .i64 f1,.int .i64 f2,.int .i64 f3,.int .i64 f4,.slice fa fl fc,.string fs] 81):=⟨_,rfl⟩
  have hbX:Below w.heap.size w X:=by rw [hX];exact a00 _ _
  have HC:Hid (Calls Tryz.prog 103 #[.agg #[.int .i64 N,.int .i64 W,.int .i64 B,.int .i64 L],.string ox] X fun e w'=>e=.returned (.bool true)∧KW A base R wb t u m ks ns w w'):=(b5f (A 1) (A 5) N W B L ox X (h.low hbX).sl.sent hx).mono fun e w' hh=>⟨hh.1,HLow.out w' (bthen hbX hh.2)⟩
  subst hX
  clear h hv hT hbX HLow
  generalize KW A base R wb t u m ks ns w=KK at *
  go_enter Tryz.func66,Tryz.ntmps66
  go_wp2_with fail
  refine (show Calls _ _ _ _ _ from HC.out).mono ?_
  rintro e w' ⟨rfl,hK⟩
  have HK:Hid _:=hK
  clear hK
  go_wp2_with fail
  go_ret
  exact ⟨rfl,HK.out⟩
 ·obtain ⟨X,hX⟩:∃ X,X=w.alloc (.cells #[.int .i64 2,.int .i64 on,.int .i64 oa,.string ox,.int .i64 N,.int .i64 W,.int .i64 B,.int .i64 L,.int .i64 f0,.int .i64 f1,.int .i64 f2,.int .i64 f3,.int .i64 f4,.slice fa fl fc,.string fs] 81):=⟨_,rfl⟩
  have hbX:Below w.heap.size w X:=by rw [hX];exact a00 _ _
  have HC:Hid (Calls Tryz.prog 104 #[.agg #[.int .i64 N,.int .i64 W,.int .i64 B,.int .i64 L],.agg #[.int .i64 f0,.int .i64 f1,.int .i64 f2,.int .i64 f3,.int .i64 f4,.slice fa fl fc,.string fs]] X fun e w'=>e=.returned (.bool true)∧KW A base R wb t u m ks ns w w'):=(ao5 (A 1) (A 5) N W B L f0 f1 f2 f3 f4 fa fl fc fs vs X (h.low hbX).sl.sent (hv.below hbX) hfs).mono fun e w' hh=>⟨hh.1,HLow.out w' (bthen hbX hh.2)⟩
  subst hX
  clear h hv hT hbX HLow
  generalize KW A base R wb t u m ks ns w=KK at *
  go_enter Tryz.func66,Tryz.ntmps66
  go_wp2_with fail
  refine (show Calls _ _ _ _ _ from HC.out).mono ?_
  rintro e w' ⟨rfl,hK⟩
  have HK:Hid _:=hK
  clear hK
  go_wp2_with fail
  go_ret
  exact ⟨rfl,HK.out⟩
 ·obtain ⟨X,hX⟩:∃ X,X=w.alloc (.cells #[.int .i64 3,.int .i64 on,.int .i64 oa,.string ox,.int .i64 N,.int .i64 W,.int .i64 B,.int .i64 L,.int .i64 f0,.int .i64 f1,.int .i64 f2,.int .i64 f3,.int .i64 f4,.slice fa fl fc,.string fs] 81):=⟨_,rfl⟩
  have hbX:Below w.heap.size w X:=by rw [hX];exact a00 _ _
  have qo:∀ j,X.cell? ⟨w.heap.size,j,none⟩=#[Value.int .i64 3,.int .i64 on,.int .i64 oa,.string ox,.int .i64 N,.int .i64 W,.int .i64 B,.int .i64 L,.int .i64 f0,.int .i64 f1,.int .i64 f2,.int .i64 f3,.int .i64 f4,.slice fa fl fc,.string fs][j]?:=fun j=>by rw [hX];exact cell_of_row _ _ j _ _ (0,0) (heap_alloc_new _ _)
  have o3:X.cell? ⟨w.heap.size,3,none⟩=some (.string ox):=qo 3
  have o4:X.cell? ⟨w.heap.size,4,none⟩=some (.int .i64 N):=qo 4
  have o5:X.cell? ⟨w.heap.size,5,none⟩=some (.int .i64 W):=qo 5
  have o6:X.cell? ⟨w.heap.size,6,none⟩=some (.int .i64 B):=qo 6
  have o7:X.cell? ⟨w.heap.size,7,none⟩=some (.int .i64 L):=qo 7
  have HC:Hid (∀ y,Below X.heap.size X y→Calls Tryz.prog 105 #[.pointer (some ⟨wb,0,none⟩),.agg #[.int .i64 N,.int .i64 W,.int .i64 B,.int .i64 L],.string ox] y fun e w'=>e=.returned (.bool true)∧KW A base R wb t u m ks ns w w'):=fun y hy=>(ag5 A base R wb t u m ks ns O F N W B L ox ht hx y (hT.below (bthen hbX hy)) (h.low (bthen hbX hy))).mono fun e w' hh=>⟨hh.1,hh.2.of (h.same (bthen hbX hy))⟩
  subst hX
  clear h hv hT hbX HLow qo
  generalize KW A base R wb t u m ks ns w=KK at *
  go_enter Tryz.func66,Tryz.ntmps66
  go_wp2_with fail
  generalize w.alloc (.cells #[.int .i64 3,.int .i64 on,.int .i64 oa,.string ox,.int .i64 N,.int .i64 W,.int .i64 B,.int .i64 L,.int .i64 f0,.int .i64 f1,.int .i64 f2,.int .i64 f3,.int .i64 f4,.slice fa fl fc,.string fs] 81)=X at *
  go_region_with (go_at_call 105;refine (show Calls _ _ _ _ _ from HC.out _ (by first | exact (Below.refl _ _).drew | exact Below.refl _ _ | exact below_drewN (Below.refl _ _) _)).mono ?_;rintro e w' ⟨rfl,hK⟩;have HK:Hid _:=hK;clear hK)
  all_goals
   go_wp2_with fail
   go_ret
   exact ⟨rfl,HK.out⟩
 ·have HK:Hid (KW A base R wb t u m ks ns w (w.alloc (.cells #[.int .i64 K,.int .i64 on,.int .i64 oa,.string ox,.int .i64 N,.int .i64 W,.int .i64 B,.int .i64 L,.int .i64 f0,.int .i64 f1,.int .i64 f2,.int .i64 f3,.int .i64 f4,.slice fa fl fc,.string fs] 81))):=HLow.out _ (a00 w (.cells #[.int .i64 K,.int .i64 on,.int .i64 oa,.string ox,.int .i64 N,.int .i64 W,.int .i64 B,.int .i64 L,.int .i64 f0,.int .i64 f1,.int .i64 f2,.int .i64 f3,.int .i64 f4,.slice fa fl fc,.string fs] 81))
  have hb1:(K == 1)=false:=by simp;omega
  have hb2:(K == 2)=false:=by simp;omega
  have hb3:(K == 3)=false:=by simp;omega
  clear h hv hT HLow hK
  generalize KW A base R wb t u m ks ns w=KK at *
  go_enter Tryz.func66,Tryz.ntmps66
  go_wp2_with fail
  go_ret
  exact ⟨rfl,HK.out⟩
theorem b0h (A:Nat→Addr) (base:Nat) (R:Nat→Prop) (wb t u m:Nat) (ks:List Kn) (ns:List Wb) (O:Nat→Prop) (F:Bool × Nat→Nat→Prop) (K:Int) (on oa:Int) (ox:ByteArray) (N W B L f0 f1 f2 f3 f4:Int) (fa:Option Addr) (fl fc:Nat) (fs:ByteArray) (hK:1≤K∧K<10) (vs:List Int) (hx:ox.size≤maxLen) (hfs:fs.size≤maxLen) (ht:t≤240000) (w:World) (hv:VecIs w fa fl fc vs) (hT:ErrT w) (h:LW A base R w wb t u m ks ns O F) :
  Calls Tryz.prog 37 #[.pointer (some ⟨wb,0,none⟩),.agg #[.int .i64 K,.int .i64 on,.int .i64 oa,.string ox,.int .i64 N,.int .i64 W,.int .i64 B,.int .i64 L,.int .i64 f0,.int .i64 f1,.int .i64 f2,.int .i64 f3,.int .i64 f4,.slice fa fl fc,.string fs]] w fun e w'=>e=.returned (.bool true)∧KW A base R wb t u m ks ns w w':=by
 have HN:Hid (∀ X,Below w.heap.size w X→Calls Tryz.prog 66 #[.pointer (some ⟨wb,0,none⟩),.agg #[.int .i64 K,.int .i64 on,.int .i64 oa,.string ox,.int .i64 N,.int .i64 W,.int .i64 B,.int .i64 L,.int .i64 f0,.int .i64 f1,.int .i64 f2,.int .i64 f3,.int .i64 f4,.slice fa fl fc,.string fs]] X fun e w'=>e=.returned (.bool true)∧KW A base R wb t u m ks ns w w'):=fun X hb=>(b2a A base R wb t u m ks ns O F K on oa ox N W B L f0 f1 f2 f3 f4 fa fl fc fs hK vs hx hfs ht X (hv.below hb) (hT.below hb) (h.low hb)).mono fun e w' hh=>⟨hh.1,hh.2.of (h.same hb)⟩
 obtain ⟨h1,h2⟩:=hK
 have hb1:decide (K<10)=true:=decide_eq_true h2
 clear h hv hT
 generalize KW A base R wb t u m ks ns w=KK at *
 go_enter Tryz.func37,Tryz.ntmps37
 go_wp2_with fail
 refine (show Calls _ _ _ _ _ from HN.out _ (a00 _ _)).mono ?_
 rintro e w' ⟨rfl,hK⟩
 have HK:Hid _:=hK
 clear hK
 go_wp2_with fail
 go_ret
 exact ⟨rfl,HK.out⟩
theorem ah1 (A:Nat→Addr) (base:Nat) (R:Nat→Prop) (wb t u m:Nat) (ks:List Kn) (ns:List Wb) (O:Nat→Prop) (F:Bool × Nat→Nat→Prop) (i:Nat) (k:Kn) (x:ByteArray) (hi:ks[i]?=some k) (ht:t≤240000) (hu:u≤240000) (hm:m≤100000000) (hx:x.size≤maxLen) (w:World) (h:LW A base R w wb t u m ks ns O F) :
  Calls Tryz.prog 110 #[.pointer (some ⟨wb,0,none⟩),.agg #[.pointer (some ⟨k.fb,0,none⟩),.pointer (some ⟨k.rb,0,none⟩)],.string x] w fun e w'=>e=.returned (.bool true)∧KW A base R wb t u m ks ns w w':=by
 have d1:(w.alloc (.cells #[.pointer (some ⟨k.fb,0,none⟩),.pointer (some ⟨k.rb,0,none⟩)] 123)).cell? ⟨w.heap.size,1,none⟩=some (.pointer (some ⟨k.rb,0,none⟩)):=cell_of_row _ _ 1 _ _ (0,0) (heap_alloc_new _ _)
 obtain ⟨D,n,kk,hz,hn,hF,hC,hR⟩:=h.b5u hi ht hu hm (a00 w (.cells #[.pointer (some ⟨k.fb,0,none⟩),.pointer (some ⟨k.rb,0,none⟩)] 123)) x hx
 have HF:Hid _:=hF
 have HC:Hid _:=fun w1 v hd=>hC w1 v hd w.heap.size 1 _ (Nat.le_refl _) d1
 have HR:Hid _:=hR
 obtain ⟨fb,rb,g,p,s⟩:=k
 clear h hi hF hC hR d1
 generalize KW A base R wb t u m ks ns w=KK at *
 go_enter Tryz.func110,Tryz.ntmps110
 go_wp2_with fail
 generalize w.alloc (.cells #[.pointer (some ⟨fb,0,none⟩),.pointer (some ⟨rb,0,none⟩)] 123)=X at *
 refine (show Calls _ _ _ _ _ from HF.out).mono ?_
 rintro e w1 ⟨a,c,rfl,hd⟩
 have d1:=HC.out w1 _ hd
 have HD:Hid _:=hd
 clear hd
 go_wp2_with fail
 refine (show Calls _ _ _ _ _ from HR.out w1 _ HD.out).mono ?_
 rintro e w2 ⟨a2,c2,rfl,hS⟩
 have HS:Hid _:=hS
 clear hS
 go_wp2_with fail
 refine (show Calls _ _ _ _ _ from HS.out).mono ?_
 rintro e w' ⟨rfl,hK⟩
 have HK:Hid _:=hK
 clear hK d1
 have ek:((kk:Int) == kk)=true:=by simp
 rcases hz with rfl | ⟨rfl,hl0⟩
 all_goals
  go_wp2_with (go_at_call 107;refine (a11 _ _).mono ?_;rintro e w'' ⟨rfl,rfl⟩)
  go_ret
  exact ⟨rfl,HK.out⟩
theorem b7u (A:Nat→Addr) (base:Nat) (R:Nat→Prop) (wb t u m:Nat) (ks:List Kn) (ns:List Wb) (O:Nat→Prop) (F:Bool × Nat→Nat→Prop) (i:Nat) (k:Kn) (on oa:Int) (ox:ByteArray) (N W B L f0 f1 f2 f3 f4:Int) (fa:Option Addr) (fl fc:Nat) (fs:ByteArray) (hi:ks[i]?=some k) (ht:t≤240000) (hu:u≤240000) (hm:m≤100000000) (w:World) (h:LW A base R w wb t u m ks ns O F) :
  Calls Tryz.prog 68 #[.pointer (some ⟨wb,0,none⟩),.agg #[.pointer (some ⟨k.fb,0,none⟩),.pointer (some ⟨k.rb,0,none⟩)],.agg #[.int .i64 11,.int .i64 on,.int .i64 oa,.string ox,.int .i64 N,.int .i64 W,.int .i64 B,.int .i64 L,.int .i64 f0,.int .i64 f1,.int .i64 f2,.int .i64 f3,.int .i64 f4,.slice fa fl fc,.string fs]] w fun e w'=>e=.returned (.bool true)∧KW A base R wb t u m ks ns w w':=by
 obtain ⟨X,hX⟩:∃ X,X=((w.alloc (.cells #[.pointer (some ⟨k.fb,0,none⟩),.pointer (some ⟨k.rb,0,none⟩)] 123)).alloc (.cells #[.int .i64 11,.int .i64 on,.int .i64 oa,.string ox,.int .i64 N,.int .i64 W,.int .i64 B,.int .i64 L,.int .i64 f0,.int .i64 f1,.int .i64 f2,.int .i64 f3,.int .i64 f4,.slice fa fl fc,.string fs] 81)):=⟨_,rfl⟩
 have hbX:Below w.heap.size w X:=by rw [hX];exact bthen (a00 _ _) (a00 _ _)
 have q0:X.cell? ⟨w.heap.size,0,none⟩=some (.pointer (some ⟨k.fb,0,none⟩)):=by rw [hX];exact (Below.cell (a00 _ _) (p:=⟨w.heap.size,0,none⟩) (by simp)).trans (cell_of_row _ _ 0 _ _ (0,0) (heap_alloc_new _ _))
 have q1:X.cell? ⟨w.heap.size,1,none⟩=some (.pointer (some ⟨k.rb,0,none⟩)):=by rw [hX];exact (Below.cell (a00 _ _) (p:=⟨w.heap.size,1,none⟩) (by simp)).trans (cell_of_row _ _ 1 _ _ (0,0) (heap_alloc_new _ _))
 have hsz:(w.alloc (.cells #[.pointer (some ⟨k.fb,0,none⟩),.pointer (some ⟨k.rb,0,none⟩)] 123)).heap.size=w.heap.size+1:=by simp
 have qo:∀ j,X.cell? ⟨w.heap.size+1,j,none⟩=#[Value.int .i64 11,.int .i64 on,.int .i64 oa,.string ox,.int .i64 N,.int .i64 W,.int .i64 B,.int .i64 L,.int .i64 f0,.int .i64 f1,.int .i64 f2,.int .i64 f3,.int .i64 f4,.slice fa fl fc,.string fs][j]?:=fun j=>by rw [hX,←hsz];exact cell_of_row _ _ j _ _ (0,0) (heap_alloc_new _ _)
 have o3:X.cell? ⟨w.heap.size+1,3,none⟩=some (.string ox):=qo 3
 obtain ⟨D,n,kk,q,hz,hn,hF,hC,hR⟩:=h.b6n hi ht hu hm hbX ox
 have HF:Hid _:=hF
 have HC1:Hid _:=fun w1 v hd=>hC w1 v hd w.heap.size 1 _ (Nat.le_refl _) q1
 have HC3:Hid _:=fun w1 v hd=>hC w1 v hd (w.heap.size+1) 3 _ (Nat.le_succ _) o3
 have HR:Hid _:=hR
 obtain ⟨fb,rb,g,p,s⟩:=k
 subst hX
 clear h hi hF hC hR qo q0 q1 o3 hbX hsz
 generalize KW A base R wb t u m ks ns w=KK at *
 go_enter Tryz.func68,Tryz.ntmps68
 go_wp2_with fail
 generalize (w.alloc (.cells #[.pointer (some ⟨fb,0,none⟩),.pointer (some ⟨rb,0,none⟩)] 123)).alloc (.cells #[.int .i64 11,.int .i64 on,.int .i64 oa,.string ox,.int .i64 N,.int .i64 W,.int .i64 B,.int .i64 L,.int .i64 f0,.int .i64 f1,.int .i64 f2,.int .i64 f3,.int .i64 f4,.slice fa fl fc,.string fs] 81)=X at *
 refine (show Calls _ _ _ _ _ from HF.out).mono ?_
 rintro e w1 ⟨a,c,rfl,hd⟩
 have q1:=HC1.out w1 _ hd
 have o3:=HC3.out w1 _ hd
 have HD:Hid _:=hd
 clear hd
 go_wp2_with fail
 refine (show Calls _ _ _ _ _ from HR.out w1 _ HD.out).mono ?_
 rintro e w2 ⟨a2,c2,rfl,hS⟩
 have HS:Hid _:=hS
 clear hS
 go_wp2_with fail
 refine (show Calls _ _ _ _ _ from HS.out).mono ?_
 rintro e w' ⟨rfl,hK⟩
 have HK:Hid _:=hK
 clear hK q1 o3
 have ek:((kk:Int) == kk)=true:=by simp
 have eq:((q:Int) == q)=true:=by simp
 rcases hz with rfl | ⟨rfl,hl0⟩
 all_goals
  go_wp2_with (go_at_call 107;refine (a11 _ _).mono ?_;rintro e w'' ⟨rfl,rfl⟩)
  go_ret
  exact ⟨rfl,HK.out⟩
theorem b4o (A:Nat→Addr) (base:Nat) (R:Nat→Prop) (wb t u m:Nat) (ks:List Kn) (ns:List Wb) (O:Nat→Prop) (F:Bool × Nat→Nat→Prop) (i:Nat) (k:Kn) (on oa:Int) (ox:ByteArray) (N W B L f0 f1 f2 f3 f4:Int) (fa:Option Addr) (fl fc:Nat) (fs:ByteArray) (hi:ks[i]?=some k) (ht:t≤240000) (hu:u≤240000) (hm:m≤100000000) (w:World) (h:LW A base R w wb t u m ks ns O F) :
  Calls Tryz.prog 68 #[.pointer (some ⟨wb,0,none⟩),.agg #[.pointer (some ⟨k.fb,0,none⟩),.pointer (some ⟨k.rb,0,none⟩)],.agg #[.int .i64 14,.int .i64 on,.int .i64 oa,.string ox,.int .i64 N,.int .i64 W,.int .i64 B,.int .i64 L,.int .i64 f0,.int .i64 f1,.int .i64 f2,.int .i64 f3,.int .i64 f4,.slice fa fl fc,.string fs]] w fun e w'=>e=.returned (.bool true)∧KW A base R wb t u m ks ns w w':=by
 obtain ⟨X,hX⟩:∃ X,X=((w.alloc (.cells #[.pointer (some ⟨k.fb,0,none⟩),.pointer (some ⟨k.rb,0,none⟩)] 123)).alloc (.cells #[.int .i64 14,.int .i64 on,.int .i64 oa,.string ox,.int .i64 N,.int .i64 W,.int .i64 B,.int .i64 L,.int .i64 f0,.int .i64 f1,.int .i64 f2,.int .i64 f3,.int .i64 f4,.slice fa fl fc,.string fs] 81)):=⟨_,rfl⟩
 have hbX:Below w.heap.size w X:=by rw [hX];exact bthen (a00 _ _) (a00 _ _)
 have q0:X.cell? ⟨w.heap.size,0,none⟩=some (.pointer (some ⟨k.fb,0,none⟩)):=by rw [hX];exact (Below.cell (a00 _ _) (p:=⟨w.heap.size,0,none⟩) (by simp)).trans (cell_of_row _ _ 0 _ _ (0,0) (heap_alloc_new _ _))
 have q1:X.cell? ⟨w.heap.size,1,none⟩=some (.pointer (some ⟨k.rb,0,none⟩)):=by rw [hX];exact (Below.cell (a00 _ _) (p:=⟨w.heap.size,1,none⟩) (by simp)).trans (cell_of_row _ _ 1 _ _ (0,0) (heap_alloc_new _ _))
 have hsz:(w.alloc (.cells #[.pointer (some ⟨k.fb,0,none⟩),.pointer (some ⟨k.rb,0,none⟩)] 123)).heap.size=w.heap.size+1:=by simp
 have qo:∀ j,X.cell? ⟨w.heap.size+1,j,none⟩=#[Value.int .i64 14,.int .i64 on,.int .i64 oa,.string ox,.int .i64 N,.int .i64 W,.int .i64 B,.int .i64 L,.int .i64 f0,.int .i64 f1,.int .i64 f2,.int .i64 f3,.int .i64 f4,.slice fa fl fc,.string fs][j]?:=fun j=>by rw [hX,←hsz];exact cell_of_row _ _ j _ _ (0,0) (heap_alloc_new _ _)
 obtain ⟨D,n,hn,hF,hC,hR⟩:=h.b5c hi ht hu hm hbX
 have HF:Hid _:=hF
 have HC1:Hid _:=fun w1 v hd=>hC w1 v hd w.heap.size 1 _ (Nat.le_refl _) q1
 have HR:Hid _:=hR
 obtain ⟨fb,rb,g,p,s⟩:=k
 subst hX
 clear h hi hF hC hR qo q0 q1 hbX hsz
 generalize KW A base R wb t u m ks ns w=KK at *
 go_enter Tryz.func68,Tryz.ntmps68
 go_wp2_with fail
 generalize (w.alloc (.cells #[.pointer (some ⟨fb,0,none⟩),.pointer (some ⟨rb,0,none⟩)] 123)).alloc (.cells #[.int .i64 14,.int .i64 on,.int .i64 oa,.string ox,.int .i64 N,.int .i64 W,.int .i64 B,.int .i64 L,.int .i64 f0,.int .i64 f1,.int .i64 f2,.int .i64 f3,.int .i64 f4,.slice fa fl fc,.string fs] 81)=X at *
 refine (show Calls _ _ _ _ _ from HF.out).mono ?_
 rintro e w1 ⟨a,c,rfl,hd⟩
 have q1:=HC1.out w1 _ hd
 have HD:Hid _:=hd
 clear hd
 go_wp2_with fail
 refine (show Calls _ _ _ _ _ from HR.out w1 _ HD.out).mono ?_
 rintro e w2 ⟨a2,c2,rfl,hS⟩
 have HS:Hid _:=hS
 clear hS
 go_wp2_with fail
 refine (show Calls _ _ _ _ _ from HS.out).mono ?_
 rintro e w' ⟨rfl,hK⟩
 have HK:Hid _:=hK
 clear hK q1
 go_wp2_with fail
 go_ret
 exact ⟨rfl,HK.out⟩
theorem b42 (A:Nat→Addr) (base:Nat) (R:Nat→Prop) (wb t u m:Nat) (ks:List Kn) (ns:List Wb) (O:Nat→Prop) (F:Bool × Nat→Nat→Prop) (i:Nat) (k:Kn) (on oa:Int) (ox:ByteArray) (N W B L f0 f1 f2 f3 f4:Int) (fa:Option Addr) (fl fc:Nat) (fs:ByteArray) (hi:ks[i]?=some k) (ht:t≤240000) (_hu:u≤240000) (_hm:m≤100000000) (w:World) (h:LW A base R w wb t u m ks ns O F) :
  Calls Tryz.prog 68 #[.pointer (some ⟨wb,0,none⟩),.agg #[.pointer (some ⟨k.fb,0,none⟩),.pointer (some ⟨k.rb,0,none⟩)],.agg #[.int .i64 15,.int .i64 on,.int .i64 oa,.string ox,.int .i64 N,.int .i64 W,.int .i64 B,.int .i64 L,.int .i64 f0,.int .i64 f1,.int .i64 f2,.int .i64 f3,.int .i64 f4,.slice fa fl fc,.string fs]] w fun e w'=>e=.returned (.bool true)∧KW A base R wb t u m ks ns w w':=by
 obtain ⟨X,hX⟩:∃ X,X=((w.alloc (.cells #[.pointer (some ⟨k.fb,0,none⟩),.pointer (some ⟨k.rb,0,none⟩)] 123)).alloc (.cells #[.int .i64 15,.int .i64 on,.int .i64 oa,.string ox,.int .i64 N,.int .i64 W,.int .i64 B,.int .i64 L,.int .i64 f0,.int .i64 f1,.int .i64 f2,.int .i64 f3,.int .i64 f4,.slice fa fl fc,.string fs] 81)):=⟨_,rfl⟩
 have hbX:Below w.heap.size w X:=by rw [hX];exact bthen (a00 _ _) (a00 _ _)
 have q0:X.cell? ⟨w.heap.size,0,none⟩=some (.pointer (some ⟨k.fb,0,none⟩)):=by rw [hX];exact (Below.cell (a00 _ _) (p:=⟨w.heap.size,0,none⟩) (by simp)).trans (cell_of_row _ _ 0 _ _ (0,0) (heap_alloc_new _ _))
 have q1:X.cell? ⟨w.heap.size,1,none⟩=some (.pointer (some ⟨k.rb,0,none⟩)):=by rw [hX];exact (Below.cell (a00 _ _) (p:=⟨w.heap.size,1,none⟩) (by simp)).trans (cell_of_row _ _ 1 _ _ (0,0) (heap_alloc_new _ _))
 have hsz:(w.alloc (.cells #[.pointer (some ⟨k.fb,0,none⟩),.pointer (some ⟨k.rb,0,none⟩)] 123)).heap.size=w.heap.size+1:=by simp
 have qo:∀ j,X.cell? ⟨w.heap.size+1,j,none⟩=#[Value.int .i64 15,.int .i64 on,.int .i64 oa,.string ox,.int .i64 N,.int .i64 W,.int .i64 B,.int .i64 L,.int .i64 f0,.int .i64 f1,.int .i64 f2,.int .i64 f3,.int .i64 f4,.slice fa fl fc,.string fs][j]?:=fun j=>by rw [hX,←hsz];exact cell_of_row _ _ j _ _ (0,0) (heap_alloc_new _ _)
 obtain ⟨D,n,hF,hC,hR⟩:=h.b3n hi ht hbX
 have HF:Hid _:=hF
 have HC1:Hid _:=fun w1 v hd=>hC w1 v hd w.heap.size 1 _ (Nat.le_refl _) q1
 have HR:Hid _:=hR
 obtain ⟨fb,rb,g,p,s⟩:=k
 subst hX
 clear h hi hF hC hR qo q0 q1 hbX hsz
 generalize KW A base R wb t u m ks ns w=KK at *
 go_enter Tryz.func68,Tryz.ntmps68
 go_wp2_with fail
 generalize (w.alloc (.cells #[.pointer (some ⟨fb,0,none⟩),.pointer (some ⟨rb,0,none⟩)] 123)).alloc (.cells #[.int .i64 15,.int .i64 on,.int .i64 oa,.string ox,.int .i64 N,.int .i64 W,.int .i64 B,.int .i64 L,.int .i64 f0,.int .i64 f1,.int .i64 f2,.int .i64 f3,.int .i64 f4,.slice fa fl fc,.string fs] 81)=X at *
 refine (show Calls _ _ _ _ _ from HF.out).mono ?_
 rintro e w1 ⟨a,c,rfl,hd⟩
 have q1:=HC1.out w1 _ hd
 have HD:Hid _:=hd
 clear hd
 go_wp2_with fail
 refine (show Calls _ _ _ _ _ from HR.out w1 _ HD.out).mono ?_
 rintro e w2 ⟨a2,c2,rfl,hS⟩
 have HS:Hid _:=hS
 clear hS
 go_wp2_with fail
 refine (show Calls _ _ _ _ _ from HS.out).mono ?_
 rintro e w3 ⟨rfl,hK⟩
 have HK:Hid _:=hK
 clear hK q1
 go_wp2_with fail
 refine (show Calls _ _ _ _ _ from HK.out).mono ?_
 rintro e w' ⟨rfl,hL⟩
 have HL:Hid _:=hL
 clear hL
 go_wp2_with fail
 go_ret
 exact ⟨rfl,HL.out⟩
theorem b1w (A:Nat→Addr) (base:Nat) (R:Nat→Prop) (wb t u m:Nat) (ks:List Kn) (ns:List Wb) (O:Nat→Prop) (F:Bool × Nat→Nat→Prop) (i:Nat) (k:Kn) (on oa:Int) (ox:ByteArray) (N W B L f0 f1 f2 f3 f4:Int) (fa:Option Addr) (fl fc:Nat) (fs:ByteArray) (hi:ks[i]?=some k) (ht:t≤240000) (_hu:u≤240000) (_hm:m≤100000000) (w:World) (h:LW A base R w wb t u m ks ns O F) :
  Calls Tryz.prog 68 #[.pointer (some ⟨wb,0,none⟩),.agg #[.pointer (some ⟨k.fb,0,none⟩),.pointer (some ⟨k.rb,0,none⟩)],.agg #[.int .i64 16,.int .i64 on,.int .i64 oa,.string ox,.int .i64 N,.int .i64 W,.int .i64 B,.int .i64 L,.int .i64 f0,.int .i64 f1,.int .i64 f2,.int .i64 f3,.int .i64 f4,.slice fa fl fc,.string fs]] w fun e w'=>e=.returned (.bool true)∧KW A base R wb t u m ks ns w w':=by
 obtain ⟨X,hX⟩:∃ X,X=((w.alloc (.cells #[.pointer (some ⟨k.fb,0,none⟩),.pointer (some ⟨k.rb,0,none⟩)] 123)).alloc (.cells #[.int .i64 16,.int .i64 on,.int .i64 oa,.string ox,.int .i64 N,.int .i64 W,.int .i64 B,.int .i64 L,.int .i64 f0,.int .i64 f1,.int .i64 f2,.int .i64 f3,.int .i64 f4,.slice fa fl fc,.string fs] 81)):=⟨_,rfl⟩
 have hbX:Below w.heap.size w X:=by rw [hX];exact bthen (a00 _ _) (a00 _ _)
 have q0:X.cell? ⟨w.heap.size,0,none⟩=some (.pointer (some ⟨k.fb,0,none⟩)):=by rw [hX];exact (Below.cell (a00 _ _) (p:=⟨w.heap.size,0,none⟩) (by simp)).trans (cell_of_row _ _ 0 _ _ (0,0) (heap_alloc_new _ _))
 have q1:X.cell? ⟨w.heap.size,1,none⟩=some (.pointer (some ⟨k.rb,0,none⟩)):=by rw [hX];exact (Below.cell (a00 _ _) (p:=⟨w.heap.size,1,none⟩) (by simp)).trans (cell_of_row _ _ 1 _ _ (0,0) (heap_alloc_new _ _))
 have hsz:(w.alloc (.cells #[.pointer (some ⟨k.fb,0,none⟩),.pointer (some ⟨k.rb,0,none⟩)] 123)).heap.size=w.heap.size+1:=by simp
 have qo:∀ j,X.cell? ⟨w.heap.size+1,j,none⟩=#[Value.int .i64 16,.int .i64 on,.int .i64 oa,.string ox,.int .i64 N,.int .i64 W,.int .i64 B,.int .i64 L,.int .i64 f0,.int .i64 f1,.int .i64 f2,.int .i64 f3,.int .i64 f4,.slice fa fl fc,.string fs][j]?:=fun j=>by rw [hX,←hsz];exact cell_of_row _ _ j _ _ (0,0) (heap_alloc_new _ _)
 obtain ⟨D,n,hF,hC,hR⟩:=h.b2x hi ht hbX
 have HF:Hid _:=hF
 have HC1:Hid _:=fun w1 v hd=>hC w1 v hd w.heap.size 1 _ (Nat.le_refl _) q1
 have HR:Hid _:=hR
 obtain ⟨fb,rb,g,p,s⟩:=k
 subst hX
 clear h hi hF hC hR qo q0 q1 hbX hsz
 generalize KW A base R wb t u m ks ns w=KK at *
 go_enter Tryz.func68,Tryz.ntmps68
 go_wp2_with fail
 generalize (w.alloc (.cells #[.pointer (some ⟨fb,0,none⟩),.pointer (some ⟨rb,0,none⟩)] 123)).alloc (.cells #[.int .i64 16,.int .i64 on,.int .i64 oa,.string ox,.int .i64 N,.int .i64 W,.int .i64 B,.int .i64 L,.int .i64 f0,.int .i64 f1,.int .i64 f2,.int .i64 f3,.int .i64 f4,.slice fa fl fc,.string fs] 81)=X at *
 refine (show Calls _ _ _ _ _ from HF.out).mono ?_
 rintro e w1 ⟨a,c,rfl,hd⟩
 have q1:=HC1.out w1 _ hd
 have HD:Hid _:=hd
 clear hd
 go_wp2_with fail
 refine (show Calls _ _ _ _ _ from HR.out w1 _ HD.out).mono ?_
 rintro e w2 ⟨a2,c2,rfl,hS⟩
 have HS:Hid _:=hS
 clear hS
 go_wp2_with fail
 refine (show Calls _ _ _ _ _ from HS.out).mono ?_
 rintro e w3 ⟨rfl,hK⟩
 have HK:Hid _:=hK
 clear hK q1
 go_wp2_with fail
 refine (show Calls _ _ _ _ _ from HK.out).mono ?_
 rintro e w' ⟨rfl,hL⟩
 have HL:Hid _:=hL
 clear hL
 go_wp2_with fail
 go_ret
 exact ⟨rfl,HL.out⟩
theorem b1d (A:Nat→Addr) (base:Nat) (R:Nat→Prop) (wb t u m:Nat) (ks:List Kn) (ns:List Wb) (O:Nat→Prop) (F:Bool × Nat→Nat→Prop) (i:Nat) (k:Kn) (on oa:Int) (ox:ByteArray) (N W B L f0 f1 f2 f3 f4:Int) (fa:Option Addr) (fl fc:Nat) (fs:ByteArray) (hi:ks[i]?=some k) (ht:t≤240000) (_hu:u≤240000) (hm:m≤100000000) (w:World) (h:LW A base R w wb t u m ks ns O F) :
  Calls Tryz.prog 68 #[.pointer (some ⟨wb,0,none⟩),.agg #[.pointer (some ⟨k.fb,0,none⟩),.pointer (some ⟨k.rb,0,none⟩)],.agg #[.int .i64 18,.int .i64 on,.int .i64 oa,.string ox,.int .i64 N,.int .i64 W,.int .i64 B,.int .i64 L,.int .i64 f0,.int .i64 f1,.int .i64 f2,.int .i64 f3,.int .i64 f4,.slice fa fl fc,.string fs]] w fun e w'=>e=.returned (.bool true)∧KW A base R wb t u m ks ns w w':=by
 obtain ⟨X,hX⟩:∃ X,X=((w.alloc (.cells #[.pointer (some ⟨k.fb,0,none⟩),.pointer (some ⟨k.rb,0,none⟩)] 123)).alloc (.cells #[.int .i64 18,.int .i64 on,.int .i64 oa,.string ox,.int .i64 N,.int .i64 W,.int .i64 B,.int .i64 L,.int .i64 f0,.int .i64 f1,.int .i64 f2,.int .i64 f3,.int .i64 f4,.slice fa fl fc,.string fs] 81)):=⟨_,rfl⟩
 have hbX:Below w.heap.size w X:=by rw [hX];exact bthen (a00 _ _) (a00 _ _)
 have q0:X.cell? ⟨w.heap.size,0,none⟩=some (.pointer (some ⟨k.fb,0,none⟩)):=by rw [hX];exact (Below.cell (a00 _ _) (p:=⟨w.heap.size,0,none⟩) (by simp)).trans (cell_of_row _ _ 0 _ _ (0,0) (heap_alloc_new _ _))
 have q1:X.cell? ⟨w.heap.size,1,none⟩=some (.pointer (some ⟨k.rb,0,none⟩)):=by rw [hX];exact (Below.cell (a00 _ _) (p:=⟨w.heap.size,1,none⟩) (by simp)).trans (cell_of_row _ _ 1 _ _ (0,0) (heap_alloc_new _ _))
 have hsz:(w.alloc (.cells #[.pointer (some ⟨k.fb,0,none⟩),.pointer (some ⟨k.rb,0,none⟩)] 123)).heap.size=w.heap.size+1:=by simp
 have qo:∀ j,X.cell? ⟨w.heap.size+1,j,none⟩=#[Value.int .i64 18,.int .i64 on,.int .i64 oa,.string ox,.int .i64 N,.int .i64 W,.int .i64 B,.int .i64 L,.int .i64 f0,.int .i64 f1,.int .i64 f2,.int .i64 f3,.int .i64 f4,.slice fa fl fc,.string fs][j]?:=fun j=>by rw [hX,←hsz];exact cell_of_row _ _ j _ _ (0,0) (heap_alloc_new _ _)
 obtain ⟨D,n,hF,hC,hR⟩:=h.b1g hi ht hm hbX
 have HF:Hid _:=hF
 have HC1:Hid _:=fun w1 v hd=>hC w1 v hd w.heap.size 1 _ (Nat.le_refl _) q1
 have HR:Hid _:=hR
 obtain ⟨fb,rb,g,p,s⟩:=k
 subst hX
 clear h hi hF hC hR qo q0 q1 hbX hsz
 generalize KW A base R wb t u m ks ns w=KK at *
 go_enter Tryz.func68,Tryz.ntmps68
 go_wp2_with fail
 generalize (w.alloc (.cells #[.pointer (some ⟨fb,0,none⟩),.pointer (some ⟨rb,0,none⟩)] 123)).alloc (.cells #[.int .i64 18,.int .i64 on,.int .i64 oa,.string ox,.int .i64 N,.int .i64 W,.int .i64 B,.int .i64 L,.int .i64 f0,.int .i64 f1,.int .i64 f2,.int .i64 f3,.int .i64 f4,.slice fa fl fc,.string fs] 81)=X at *
 refine (show Calls _ _ _ _ _ from HF.out).mono ?_
 rintro e w1 ⟨a,c,rfl,hd⟩
 have q1:=HC1.out w1 _ hd
 have HD:Hid _:=hd
 clear hd
 go_wp2_with fail
 refine (show Calls _ _ _ _ _ from HR.out w1 _ HD.out).mono ?_
 rintro e w2 ⟨a2,c2,rfl,hS⟩
 have HS:Hid _:=hS
 clear hS
 go_wp2_with fail
 refine (show Calls _ _ _ _ _ from HS.out).mono ?_
 rintro e w3 ⟨rfl,hK⟩
 have HK:Hid _:=hK
 clear hK q1
 go_wp2_with fail
 refine (show Calls _ _ _ _ _ from HK.out).mono ?_
 rintro e w' ⟨rfl,hL⟩
 have HL:Hid _:=hL
 clear hL
 go_wp2_with fail
 go_ret
 exact ⟨rfl,HL.out⟩
end Go.Proofs.YtabecbjfamphbaaGreatDoor
