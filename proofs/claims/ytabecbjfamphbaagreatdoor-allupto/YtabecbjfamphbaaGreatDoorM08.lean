/- A part of the proof. -/
import Derived.Test.YtabecbjfamphbaaGreatDoorM07
namespace Go.Proofs.YtabecbjfamphbaaGreatDoor
open Go.RowKit Go.Stop Go.Extern
set_option maxRecDepth 100000
theorem a0r (a:Addr) (s:ByteArray) (w:World):Calls Tryz.prog 90 #[.iface 298 (.pointer (some a)),.string s] w fun e w'=>e=.returned (.iface 208 (.agg #[.string s,.iface 298 (.pointer (some a))]))∧w'=w:=by
 go_enter Tryz.func90,Tryz.ntmps90
 go_wp2_with fail
 go_ret
 exact ⟨rfl,rfl⟩
def selfK (p:Nat) (f:Fr):Nat:=if f.frm=p then 6 else if f.kind=1∧f.org=p then 6 else 0
set_option maxHeartbeats 1000000 in
theorem a96 (A:Nat→Addr) (b n:Nat) (W B L:Int) (p gv:Nat) (f:Fr) (w:World) (hw:Sents w A) (hb:NB w b n W B L p gv) :
  Calls Tryz.prog 154 #[.pointer (some ⟨b,0,none⟩),Fr.agg n f] w fun e w'=>(∃ v,e=.returned v∧a0l A v (selfK p f))∧Below w.heap.size w w':=by
 have hal:=a00 w (.cells #[.int .i64 f.kind,.int .i64 f.frm,.int .i64 f.org,.int .i64 f.seq,.int .i64 f.low,.slice f.ad n f.cap,.string f.body] 45)
 have hsv:=a05 w (.int .i64 f.kind) (.int .i64 f.frm) (.int .i64 f.org) (.int .i64 f.seq) (.int .i64 f.low) (.slice f.ad n f.cap) (.string f.body) 45
 have hb':=hb.alike (E:=fun _=>False) (Alike.of_below hal _) (fun h=>h)
 have hw':=hw.below hal
 have HAL:Hid _:=hal
 have c6:_:=hw'.c 6 (by decide) (by decide)
 have c4:=hb'.c4
 have HI:Hid (∀ s,a0l A (.iface 208 (.agg #[.string s,.iface 298 (.pointer (some (A 6)))])) 6):=fun s=>⟨Or.inr (Or.inl ⟨by decide,by decide,s,rfl⟩)⟩
 have HK:Hid (selfK p f=if f.frm=p then 6 else if f.kind=1∧f.org=p then 6 else 0):=rfl
 unfold gOf at c6
 simp only at c6
 clear hw hb hal hb' hw'
 unfold Fr.agg
 go_enter Tryz.func154,Tryz.ntmps154
 go_wp2_with fail
 generalize w.alloc (.cells #[.int .i64 f.kind,.int .i64 f.frm,.int .i64 f.org,.int .i64 f.seq,.int .i64 f.low,.slice f.ad n f.cap,.string f.body] 45)=X at *
 obtain ⟨s0,s1,s2,s3,s4,s5,s6,_⟩:=hsv
 by_cases h1:f.frm=p
 ·have e1:(f.frm == (p:Int))=true:=by simp [h1]
  have HR:Hid (selfK p f=6):=HK.out.trans (if_pos h1)
  clear HK
  go_quiet (fail)
  go_wp2_with (go_at_call 90;refine (a0r _ _ _).mono ?_;rintro e w' ⟨rfl,rfl⟩)
  go_ret
  exact ⟨⟨_,rfl,by rw [show selfK p f=6 from HR.out];exact HI.out _⟩,below_drewN HAL.out _⟩
 ·have e1:(f.frm == (p:Int))=false:=by simp [h1]
  by_cases h2:f.kind=1
  ·have e2:(f.kind == (1:Int))=true:=by simp [h2]
   by_cases h3:f.org=p
   ·have e3:(f.org == (p:Int))=true:=by simp [h3]
    have HR:Hid (selfK p f=6):=HK.out.trans ((if_neg h1).trans (if_pos ⟨h2,h3⟩))
    clear HK
    go_quiet (fail)
    go_wp2_with fail
    go_quiet (fail)
    go_wp2_with (go_at_call 90;refine (a0r _ _ _).mono ?_;rintro e w' ⟨rfl,rfl⟩)
    go_ret
    exact ⟨⟨_,rfl,by rw [show selfK p f=6 from HR.out];exact HI.out _⟩,by first | exact below_drewN HAL.out _ | exact below_drewN (below_drewN HAL.out _) _⟩
   ·have e3:(f.org == (p:Int))=false:=by simp [h3]
    have HR:Hid (selfK p f=0):=HK.out.trans ((if_neg h1).trans (if_neg (fun h=>h3 h.2)))
    clear HK
    go_quiet (fail)
    go_wp2_with fail
    go_quiet (fail)
    go_wp2_with fail
    go_ret
    exact ⟨⟨_,rfl,by rw [show selfK p f=0 from HR.out];exact ⟨Or.inl ⟨rfl,rfl⟩⟩⟩,by first | exact below_drewN HAL.out _ | exact below_drewN (below_drewN HAL.out _) _⟩
  ·have e2:(f.kind == (1:Int))=false:=by simp [h2]
   have HR:Hid (selfK p f=0):=HK.out.trans ((if_neg h1).trans (if_neg (fun h=>h2 h.1)))
   clear HK
   go_quiet (fail)
   go_wp2_with fail
   go_quiet (fail)
   go_wp2_with fail
   go_ret
   exact ⟨⟨_,rfl,by rw [show selfK p f=0 from HR.out];exact ⟨Or.inl ⟨rfl,rfl⟩⟩⟩,by first | exact below_drewN HAL.out _ | exact below_drewN (below_drewN HAL.out _) _⟩
end Go.Proofs.YtabecbjfamphbaaGreatDoor
