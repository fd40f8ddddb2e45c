/- A part of the proof. -/
import Derived.Test.YtabecbjfamphbaaGreatDoorM41
namespace Go.Proofs.YtabecbjfamphbaaGreatDoor
open Go.RowKit Go.Stop Go.Extern
set_option maxRecDepth 100000
set_option maxHeartbeats 4000000
theorem b4u (A:Nat→Addr) (base:Nat) (R:Nat→Prop) (wb t u m:Nat) (ks:List Kn) (ns:List Wb) (O:Nat→Prop) (F:Bool × Nat→Nat→Prop) (i:Nat) (k:Kn) (on oa:Int) (ox:ByteArray) (N W B L f0 f1 f2 f3 f4:Int) (fa:Option Addr) (fl fc:Nat) (fs:ByteArray) (hi:ks[i]?=some k) (ht:t≤240000) (_hu:u≤240000) (hm:m≤100000000) (w:World) (h:LW A base R w wb t u m ks ns O F) :
  Calls Tryz.prog 68 #[.pointer (some ⟨wb,0,none⟩),.agg #[.pointer (some ⟨k.fb,0,none⟩),.pointer (some ⟨k.rb,0,none⟩)],.agg #[.int .i64 17,.int .i64 on,.int .i64 oa,.string ox,.int .i64 N,.int .i64 W,.int .i64 B,.int .i64 L,.int .i64 f0,.int .i64 f1,.int .i64 f2,.int .i64 f3,.int .i64 f4,.slice fa fl fc,.string fs]] w fun e w'=>e=.returned (.bool true)∧KW A base R wb t u m ks ns w w':=by
 obtain ⟨X,hX⟩:∃ X,X=((w.alloc (.cells #[.pointer (some ⟨k.fb,0,none⟩),.pointer (some ⟨k.rb,0,none⟩)] 123)).alloc (.cells #[.int .i64 17,.int .i64 on,.int .i64 oa,.string ox,.int .i64 N,.int .i64 W,.int .i64 B,.int .i64 L,.int .i64 f0,.int .i64 f1,.int .i64 f2,.int .i64 f3,.int .i64 f4,.slice fa fl fc,.string fs] 81)):=⟨_,rfl⟩
 have hbX:Below w.heap.size w X:=by rw [hX];exact bthen (a00 _ _) (a00 _ _)
 have q0:X.cell? ⟨w.heap.size,0,none⟩=some (.pointer (some ⟨k.fb,0,none⟩)):=by rw [hX];exact (Below.cell (a00 _ _) (p:=⟨w.heap.size,0,none⟩) (by simp)).trans (cell_of_row _ _ 0 _ _ (0,0) (heap_alloc_new _ _))
 have q1:X.cell? ⟨w.heap.size,1,none⟩=some (.pointer (some ⟨k.rb,0,none⟩)):=by rw [hX];exact (Below.cell (a00 _ _) (p:=⟨w.heap.size,1,none⟩) (by simp)).trans (cell_of_row _ _ 1 _ _ (0,0) (heap_alloc_new _ _))
 have hsz:(w.alloc (.cells #[.pointer (some ⟨k.fb,0,none⟩),.pointer (some ⟨k.rb,0,none⟩)] 123)).heap.size=w.heap.size+1:=by simp
 have qo:∀ j,X.cell? ⟨w.heap.size+1,j,none⟩=#[Value.int .i64 17,.int .i64 on,.int .i64 oa,.string ox,.int .i64 N,.int .i64 W,.int .i64 B,.int .i64 L,.int .i64 f0,.int .i64 f1,.int .i64 f2,.int .i64 f3,.int .i64 f4,.slice fa fl fc,.string fs][j]?:=fun j=>by rw [hX,←hsz];exact cell_of_row _ _ j _ _ (0,0) (heap_alloc_new _ _)
 have o2:X.cell? ⟨w.heap.size+1,2,none⟩=some (.int .i64 oa):=qo 2
 obtain ⟨D,n,kk,hz,hn,hF,hC,hR⟩:=h.b4x hi ht hm hbX oa
 have HF:Hid _:=hF
 have HC1:Hid _:=fun w1 v hd=>hC w1 v hd w.heap.size 1 _ (Nat.le_refl _) q1
 have HC2:Hid _:=fun w1 v hd=>hC w1 v hd (w.heap.size+1) 2 _ (Nat.le_succ _) o2
 have HR:Hid _:=hR
 obtain ⟨fb,rb,g,p,s⟩:=k
 subst hX
 clear h hi hF hC hR qo q0 q1 o2 hbX hsz
 generalize KW A base R wb t u m ks ns w=KK at *
 go_enter Tryz.func68,Tryz.ntmps68
 go_wp2_with fail
 generalize (w.alloc (.cells #[.pointer (some ⟨fb,0,none⟩),.pointer (some ⟨rb,0,none⟩)] 123)).alloc (.cells #[.int .i64 17,.int .i64 on,.int .i64 oa,.string ox,.int .i64 N,.int .i64 W,.int .i64 B,.int .i64 L,.int .i64 f0,.int .i64 f1,.int .i64 f2,.int .i64 f3,.int .i64 f4,.slice fa fl fc,.string fs] 81)=X at *
 refine (show Calls _ _ _ _ _ from HF.out).mono ?_
 rintro e w1 ⟨a,c,rfl,hd⟩
 have q1:=HC1.out w1 _ hd
 have o2:=HC2.out w1 _ hd
 have HD:Hid _:=hd
 clear hd
 go_wp2_with fail
 refine (show Calls _ _ _ _ _ from HR.out w1 _ HD.out).mono ?_
 rintro e w2 ⟨a2,c2,rfl,hS⟩
 have HS:Hid _:=hS
 clear hS
 go_wp2_with fail
 refine (show Calls _ _ _ _ _ from HS.out).mono ?_
 rintro e w3 ⟨rfl,hK⟩
 have HK:Hid _:=hK
 clear hK q1 o2
 go_wp2_with fail
 refine (show Calls _ _ _ _ _ from HK.out).mono ?_
 rintro e w' ⟨rfl,hL⟩
 have HL:Hid _:=hL
 clear hL
 have ek:((kk:Int) == kk)=true:=by simp
 rcases hz with rfl | ⟨rfl,hl0⟩
 all_goals
  go_wp2_with (go_at_call 107;refine (a11 _ _).mono ?_;rintro e w'' ⟨rfl,rfl⟩)
  go_ret
  exact ⟨rfl,HL.out⟩
theorem b4l (A:Nat→Addr) (base:Nat) (R:Nat→Prop) (wb t u m:Nat) (ks:List Kn) (ns:List Wb) (O:Nat→Prop) (F:Bool × Nat→Nat→Prop) (i:Nat) (k:Kn) (on oa:Int) (ox:ByteArray) (N W B L f0 f1 f2 f3 f4:Int) (fa:Option Addr) (fl fc:Nat) (fs:ByteArray) (hi:ks[i]?=some k) (ht:t≤240000) (hu:u≤240000) (hm:m≤100000000) (hx:ox.size≤maxLen) (w:World) (h:LW A base R w wb t u m ks ns O F) :
  Calls Tryz.prog 68 #[.pointer (some ⟨wb,0,none⟩),.agg #[.pointer (some ⟨k.fb,0,none⟩),.pointer (some ⟨k.rb,0,none⟩)],.agg #[.int .i64 12,.int .i64 on,.int .i64 oa,.string ox,.int .i64 N,.int .i64 W,.int .i64 B,.int .i64 L,.int .i64 f0,.int .i64 f1,.int .i64 f2,.int .i64 f3,.int .i64 f4,.slice fa fl fc,.string fs]] w fun e w'=>e=.returned (.bool true)∧KW A base R wb t u m ks ns w w':=by
 obtain ⟨X,hX⟩:∃ X,X=((w.alloc (.cells #[.pointer (some ⟨k.fb,0,none⟩),.pointer (some ⟨k.rb,0,none⟩)] 123)).alloc (.cells #[.int .i64 12,.int .i64 on,.int .i64 oa,.string ox,.int .i64 N,.int .i64 W,.int .i64 B,.int .i64 L,.int .i64 f0,.int .i64 f1,.int .i64 f2,.int .i64 f3,.int .i64 f4,.slice fa fl fc,.string fs] 81)):=⟨_,rfl⟩
 have hbX:Below w.heap.size w X:=by rw [hX];exact bthen (a00 _ _) (a00 _ _)
 have q0:X.cell? ⟨w.heap.size,0,none⟩=some (.pointer (some ⟨k.fb,0,none⟩)):=by rw [hX];exact (Below.cell (a00 _ _) (p:=⟨w.heap.size,0,none⟩) (by simp)).trans (cell_of_row _ _ 0 _ _ (0,0) (heap_alloc_new _ _))
 have q1:X.cell? ⟨w.heap.size,1,none⟩=some (.pointer (some ⟨k.rb,0,none⟩)):=by rw [hX];exact (Below.cell (a00 _ _) (p:=⟨w.heap.size,1,none⟩) (by simp)).trans (cell_of_row _ _ 1 _ _ (0,0) (heap_alloc_new _ _))
 have hsz:(w.alloc (.cells #[.pointer (some ⟨k.fb,0,none⟩),.pointer (some ⟨k.rb,0,none⟩)] 123)).heap.size=w.heap.size+1:=by simp
 have qo:∀ j,X.cell? ⟨w.heap.size+1,j,none⟩=#[Value.int .i64 12,.int .i64 on,.int .i64 oa,.string ox,.int .i64 N,.int .i64 W,.int .i64 B,.int .i64 L,.int .i64 f0,.int .i64 f1,.int .i64 f2,.int .i64 f3,.int .i64 f4,.slice fa fl fc,.string fs][j]?:=fun j=>by rw [hX,←hsz];exact cell_of_row _ _ j _ _ (0,0) (heap_alloc_new _ _)
 have HH:Hid _:=(ah1 A base R wb t u m ks ns O F i k ox hi ht hu hm hx X (h.low hbX)).mono fun e w' hh=>(⟨hh.1,hh.2.of (h.same hbX)⟩:e=.returned (.bool true)∧KW A base R wb t u m ks ns w w')
 obtain ⟨fb,rb,g,p,s⟩:=k
 subst hX
 clear h hi qo q0 q1 hbX hsz
 generalize KW A base R wb t u m ks ns w=KK at *
 go_enter Tryz.func68,Tryz.ntmps68
 go_wp2_with fail
 generalize (w.alloc (.cells #[.pointer (some ⟨fb,0,none⟩),.pointer (some ⟨rb,0,none⟩)] 123)).alloc (.cells #[.int .i64 12,.int .i64 on,.int .i64 oa,.string ox,.int .i64 N,.int .i64 W,.int .i64 B,.int .i64 L,.int .i64 f0,.int .i64 f1,.int .i64 f2,.int .i64 f3,.int .i64 f4,.slice fa fl fc,.string fs] 81)=X at *
 refine (show Calls _ _ _ _ _ from HH.out).mono ?_
 rintro e w' ⟨rfl,hK⟩
 have HK:Hid _:=hK
 clear hK
 go_wp2_with fail
 go_ret
 exact ⟨rfl,HK.out⟩
end Go.Proofs.YtabecbjfamphbaaGreatDoor
