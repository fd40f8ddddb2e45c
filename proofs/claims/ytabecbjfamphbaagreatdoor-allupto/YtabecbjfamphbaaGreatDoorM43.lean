/- A part of the proof. -/
import Derived.Test.YtabecbjfamphbaaGreatDoorM41
namespace Go.Proofs.YtabecbjfamphbaaGreatDoor
open Go.RowKit Go.Stop Go.Extern
set_option maxRecDepth 100000
set_option maxHeartbeats 4000000
theorem b49 (A:Nat→Addr) (base:Nat) (R:Nat→Prop) (wb t u m:Nat) (ks:List Kn) (ns:List Wb) (O:Nat→Prop) (F:Bool × Nat→Nat→Prop) (i:Nat) (k:Kn) (on oa:Int) (ox:ByteArray) (N W B L f0 f1 f2 f3 f4:Int) (fa:Option Addr) (fl fc:Nat) (fs:ByteArray) (hi:ks[i]?=some k) (ht:t≤240000) (hu:u≤240000) (hm:m≤100000000) (ha:I64 oa) (w:World) (h:LW A base R w wb t u m ks ns O F) :
  Calls Tryz.prog 68 #[.pointer (some ⟨wb,0,none⟩),.agg #[.pointer (some ⟨k.fb,0,none⟩),.pointer (some ⟨k.rb,0,none⟩)],.agg #[.int .i64 13,.int .i64 on,.int .i64 oa,.string ox,.int .i64 N,.int .i64 W,.int .i64 B,.int .i64 L,.int .i64 f0,.int .i64 f1,.int .i64 f2,.int .i64 f3,.int .i64 f4,.slice fa fl fc,.string fs]] w fun e w'=>e=.returned (.bool true)∧KW A base R wb t u m ks ns w w':=by
 obtain ⟨X,hX⟩:∃ X,X=((w.alloc (.cells #[.pointer (some ⟨k.fb,0,none⟩),.pointer (some ⟨k.rb,0,none⟩)] 123)).alloc (.cells #[.int .i64 13,.int .i64 on,.int .i64 oa,.string ox,.int .i64 N,.int .i64 W,.int .i64 B,.int .i64 L,.int .i64 f0,.int .i64 f1,.int .i64 f2,.int .i64 f3,.int .i64 f4,.slice fa fl fc,.string fs] 81)):=⟨_,rfl⟩
 have hbX:Below w.heap.size w X:=by rw [hX];exact bthen (a00 _ _) (a00 _ _)
 have q0:X.cell? ⟨w.heap.size,0,none⟩=some (.pointer (some ⟨k.fb,0,none⟩)):=by rw [hX];exact (Below.cell (a00 _ _) (p:=⟨w.heap.size,0,none⟩) (by simp)).trans (cell_of_row _ _ 0 _ _ (0,0) (heap_alloc_new _ _))
 have q1:X.cell? ⟨w.heap.size,1,none⟩=some (.pointer (some ⟨k.rb,0,none⟩)):=by rw [hX];exact (Below.cell (a00 _ _) (p:=⟨w.heap.size,1,none⟩) (by simp)).trans (cell_of_row _ _ 1 _ _ (0,0) (heap_alloc_new _ _))
 have hsz:(w.alloc (.cells #[.pointer (some ⟨k.fb,0,none⟩),.pointer (some ⟨k.rb,0,none⟩)] 123)).heap.size=w.heap.size+1:=by simp
 have qo:∀ j,X.cell? ⟨w.heap.size+1,j,none⟩=#[Value.int .i64 13,.int .i64 on,.int .i64 oa,.string ox,.int .i64 N,.int .i64 W,.int .i64 B,.int .i64 L,.int .i64 f0,.int .i64 f1,.int .i64 f2,.int .i64 f3,.int .i64 f4,.slice fa fl fc,.string fs][j]?:=fun j=>by rw [hX,←hsz];exact cell_of_row _ _ j _ _ (0,0) (heap_alloc_new _ _)
 have hLX:=h.low hbX
 obtain ⟨ts,⟨ta,tc,c5,hto,_⟩,htl,hts⟩:=hLX.bk.tx
 obtain ⟨fb,rb,g,p,s⟩:=k
 by_cases h0:ts.length=0
 ·have HK:Hid (KW A base R wb t u m ks ns w X):=⟨⟨ks,ns,O,F,hLX.more (Nat.le_succ _) (Nat.le_succ _) (Nat.le_succ _),rfl,rfl⟩,h.same hbX⟩
  rw [h0] at c5
  subst hX
  clear h hi hLX hto htl hts h0 qo q0 q1 hbX hsz
  generalize KW A base R wb t u m ks ns w=KK at *
  go_enter Tryz.func68,Tryz.ntmps68
  go_wp2_with fail
  go_ret
  exact ⟨rfl,HK.out⟩
 ·have hpb:=pk_bd oa ts.length (by omega)
  obtain ⟨r,hr⟩:∃ r:Nat,(r:Int)=(ts.length:Int)-1-pk oa ts.length:=⟨((ts.length:Int)-1-pk oa ts.length).toNat,by omega⟩
  have hrl:r<ts.length:=by omega
  obtain ⟨y,hy⟩:∃ y,ts[r]?=some y:=⟨ts[r],List.getElem?_eq_getElem hrl⟩
  have hys:y.size≤100:=hts y (List.mem_of_getElem? hy)
  have HH:Hid (∀ v,Below X.heap.size X v→Calls Tryz.prog 110 #[.pointer (some ⟨wb,0,none⟩),.agg #[.pointer (some ⟨fb,0,none⟩),.pointer (some ⟨rb,0,none⟩)],.string y] v fun e w'=>e=.returned (.bool true)∧KW A base R wb t u m ks ns w w'):=fun v hv=>(ah1 A base R wb t u m ks ns O F i ⟨fb,rb,g,p,s⟩ y hi ht hu hm (by unfold maxLen;omega) v (hLX.low hv)).mono fun e w' hh=>⟨hh.1,hh.2.of ((h.same hbX).trans (hLX.same hv))⟩
  have HPk:Hid (∀ w,Calls Tryz.prog 69 #[.int .i64 oa,.int .i64 (ts.length:Int)] w fun e w'=>e=.returned (.int .i64 (pk oa ts.length))∧w'=w):=fun w=>a5p oa ts.length w ha (by omega) (by omega)
  obtain ⟨gt,e1,ct⟩:∃ gt,ta=some ⟨gt,0,none⟩∧X.cell? ⟨gt,r,none⟩=some (.string y):=by
   rcases hto.2 with ⟨_,h9⟩ | ⟨gt,cap',cur,e,_⟩
   ·exact absurd h9 h0
   ·cases e
    refine ⟨gt,rfl,?_⟩
    rw [World.ownsRow.cellAt hto r (by omega)]
    simp [txrow,hy]
  subst e1
  have htl2:(ts.length:Int)≤1000000000:=by omega
  have hw1:IntKind.i64.wrap ((ts.length:Int)-1)=(ts.length:Int)-1:=by rw [IntKind.wrap_i64];omega
  have hw2:IntKind.i64.wrap ((ts.length:Int)-1-pk oa ts.length)=(r:Int):=by rw [IntKind.wrap_i64];omega
  have hr1:(r:Int)<(ts.length:Int):=by omega
  have hne:¬ ((ts.length:Int)=0):=by omega
  generalize hp:pk oa ts.length=pp at *
  generalize ts.length=tn at *
  have o2:X.cell? ⟨w.heap.size+1,2,none⟩=some (.int .i64 oa):=qo 2
  simp only at q0 q1
  subst hX
  clear h hi hLX hto htl hts h0 qo hbX hsz hy hp hr
  generalize KW A base R wb t u m ks ns w=KK at *
  go_enter Tryz.func68,Tryz.ntmps68
  go_wp2_with fail
  generalize (w.alloc (.cells #[.pointer (some ⟨fb,0,none⟩),.pointer (some ⟨rb,0,none⟩)] 123)).alloc (.cells #[.int .i64 13,.int .i64 on,.int .i64 oa,.string ox,.int .i64 N,.int .i64 W,.int .i64 B,.int .i64 L,.int .i64 f0,.int .i64 f1,.int .i64 f2,.int .i64 f3,.int .i64 f4,.slice fa fl fc,.string fs] 81)=X at *
  go_region_with (first|(go_at_call 69;refine (show Calls _ _ _ _ _ from HPk.out _).mono ?_;rintro e w' ⟨rfl,rfl⟩)|(go_at_call 110;refine (show Calls _ _ _ _ _ from HH.out _ (by first | exact (Below.refl _ _).drew | exact Below.refl _ _ | exact below_drewN (Below.refl _ _) _)).mono ?_;rintro e w' ⟨rfl,hK⟩;have HK:Hid _:=hK;clear hK))
  all_goals
   go_wp2_with fail
   go_ret
   exact ⟨rfl,HK.out⟩
end Go.Proofs.YtabecbjfamphbaaGreatDoor
