/- A part of the proof. -/
import Derived.Test.YtabecbjfamphbaaGreatDoorM31
namespace Go.Proofs.YtabecbjfamphbaaGreatDoor
open Go.RowKit Go.Stop Go.Extern
set_option maxRecDepth 100000
set_option maxHeartbeats 4000000
def vecR (L K O S:Int) (p:Nat) (vs:List Int) (k:Int):Int:=
 match a4e L K O S vs with
 | some i=>(p:Int)+2 * (i:Int)
 | none=>k
theorem am8 {L K O S k:Int} {p:Nat} {vs:List Int} {i:Nat} (hi:i<vs.length) (hb:vbad L K O S i (vs.getD i 0)=true) (h:∀ j,j<i→vbad L K O S j (vs.getD j 0)=false):vecR L K O S p vs k=(p:Int)+2 * (i:Int):=by
 unfold vecR a4e
 rw [af3 hi hb h]
theorem al3 {L K O S k:Int} {p:Nat} {vs:List Int} (h:∀ j,j<vs.length→vbad L K O S j (vs.getD j 0)=false):vecR L K O S p vs k=k:=by
 unfold vecR a4e
 rw [ah7 h]
theorem a8q (n:Nat) (W B L:Int) (s:ByteArray) (w:World) (h1:2≤n) (h2:n≤8) (hs:s.size≤maxLen) (hl:9+2 * n≤s.size) (hk:byt s 2=2) :
  Calls Tryz.prog 200 #[.agg #[.int .i64 (n:Int),.int .i64 W,.int .i64 B,.int .i64 L],.string s] w fun e w'=>e=.returned (.int .i64 (vecR L 2 0 0 5 (vecOf s 5 n) (-1)))∧Below w.heap.size w w':=by
 have HS:Hid (s.size≤maxLen):=hs
 unfold maxLen at hs
 have hi2:2<s.size:=by omega
 have hi2i:(2:Int)<s.size:=by omega
 have hb2:=s[2].toNat_lt
 rw [a1m s 2 hi2] at hk
 have k2d:((s[2].toNat:Int) == 1)=false:=by rw [hk];rfl
 clear hk
 go_enter Tryz.func200,Tryz.ntmps200
 go_wp2_with fail
 go_loop [9] (fun c=>∃ k:Nat,k≤n∧c=.int .i64 k∧∀ j,j<k→vbad L 2 0 0 j ((vecOf s 5 n).getD j 0)=false) (fun c=>n-(intOf c).toNat)
 case atStart=>exact ⟨0,Nat.zero_le _,rfl,fun j hj=>absurd hj (by omega)⟩
 case round =>
  obtain ⟨k,hkn,rfl,hok⟩:=hrel
  have HOK:Hid (∀ j,j<k→vbad L 2 0 0 j ((vecOf s 5 n).getD j 0)=false):=hok
  clear hok
  by_cases hlt:k<n
  ·have HX:Hid (∀ w,Calls Tryz.prog 201 #[.string s,.int .i64 ((5:Int)+2 * (k:Int)),.int .i64 2] w fun e w'=>e=.returned (.int .i64 (val s (5+2 * k) 2))∧w'=w):=fun w=>a19 s ((5:Int)+2 * (k:Int)) 2 (5+2 * k) 2 (by omega) rfl w HS.out (by omega) (by omega)
   have HV:Hid ((vecOf s 5 n).getD k 0=(val s (5+2 * k) 2:Int)):=aj0 s 5 n k hlt
   generalize val s (5+2 * k) 2=y at *
   by_cases hb:L<(y:Int)
   ·have HR:Hid (vecR L 2 0 0 5 (vecOf s 5 n) (-1)=5+2 * (k:Int)):=am8 (by rw [a06];exact hlt) (by rw [HV.out];unfold vbad;exact decide_eq_true (Or.inr (Or.inl hb))) HOK.out
    go_wp2_with (go_at_call 201;refine (HX.out _).mono ?_;rintro e w' ⟨rfl,rfl⟩)
    go_ret
    rw [HR.out]
    exact ⟨rfl,a00 _ _⟩
   ·have HN:Hid (vbad L 2 0 0 k ((vecOf s 5 n).getD k 0)=false):=by show vbad L 2 0 0 k ((vecOf s 5 n).getD k 0)=false;rw [HV.out];unfold vbad;exact decide_eq_false (by omega)
    have hb':(y:Int)≤L:=by omega
    clear hb
    go_wp2_with (go_at_call 201;refine (HX.out _).mono ?_;rintro e w' ⟨rfl,rfl⟩)
    go_round
    case rel=>exact ⟨k+1,by omega,by go_num,fun j hj=>if h:j=k then h ▸ HN.out else HOK.out j (by omega)⟩
    case measure=>simp [intOf];omega
  ·have hkn':k=n:=by omega
   have HR:Hid (vecR L 2 0 0 5 (vecOf s 5 n) (-1) = -1):=al3 (fun j hj=>HOK.out j (by rw [a06] at hj;omega))
   clear hkn'
   go_wp2
   go_ret
   rw [HR.out]
   exact ⟨rfl,a00 _ _⟩
def inD (n:Nat) (W B L:Int) (s:ByteArray):Int:=
 if n≤byt s 5 then 5 else if val s 6 2=0∨L<(val s 6 2:Int) then 6 else if val s 6 2≤val s 8 2∨(val s 8 2:Int)<(val s 6 2:Int)-W then 8 else
 vecR L 1 (byt s 5) (val s 6 2) 10 (vecOf s 10 n) (if B<(byt s (10+2 * n):Int)∨s.size≠15+2 * n+byt s (10+2 * n) then 10+2 * (n:Int) else -1)
theorem a9x (n:Nat) (W B L:Int) (s:ByteArray) (w:World) (h1:2≤n) (h2:n≤8) (hW1:1≤W) (hW2:W≤8) (hs:s.size≤maxLen) (hl:15+2 * n≤s.size) (hk:byt s 2=1) :
  Calls Tryz.prog 200 #[.agg #[.int .i64 (n:Int),.int .i64 W,.int .i64 B,.int .i64 L],.string s] w fun e w'=>e=.returned (.int .i64 (inD n W B L s))∧Below w.heap.size w w':=by
 have HS:Hid (s.size≤maxLen):=hs
 unfold maxLen at hs
 have hi2:2<s.size:=by omega
 have hi2i:(2:Int)<s.size:=by omega
 have hb2:=s[2].toNat_lt
 have hi5:5<s.size:=by omega
 have hi5i:(5:Int)<s.size:=by omega
 have hb5:=s[5].toNat_lt
 have H5:Hid (byt s 5=s[5].toNat):=a1m s 5 hi5
 rw [a1m s 2 hi2] at hk
 have k2d:((s[2].toNat:Int) == 1)=true:=by rw [hk];rfl
 clear hk
 have HX6:Hid (∀ w,Calls Tryz.prog 201 #[.string s,.int .i64 6,.int .i64 2] w fun e w'=>e=.returned (.int .i64 (val s 6 2))∧w'=w):=fun w=>a19 s 6 2 6 2 rfl rfl w HS.out (by omega) (by omega)
 have HX8:Hid (∀ w,Calls Tryz.prog 201 #[.string s,.int .i64 8,.int .i64 2] w fun e w'=>e=.returned (.int .i64 (val s 8 2))∧w'=w):=fun w=>a19 s 8 2 8 2 rfl rfl w HS.out (by omega) (by omega)
 have hv6:=a6t s 6
 have hv8:=a6t s 8
 have HI:Hid (inD n W B L s=if n≤byt s 5 then 5 else if val s 6 2=0∨L<(val s 6 2:Int) then 6 else if val s 6 2≤val s 8 2∨(val s 8 2:Int)<(val s 6 2:Int)-W then 8 else
  vecR L 1 (byt s 5) (val s 6 2) 10 (vecOf s 10 n) (if B<(byt s (10+2 * n):Int)∨s.size≠15+2 * n+byt s (10+2 * n) then 10+2 * (n:Int) else -1)):=rfl
 rw [H5.out] at HI
 generalize val s 6 2=q6 at *
 generalize val s 8 2=q8 at *
 by_cases c1:n≤s[5].toNat
 ·have HR:Hid (inD n W B L s=5):=HI.out.trans (if_pos c1)
  have c1b:(n:Int)≤(s[5].toNat:Int):=by omega
  clear c1
  go_enter Tryz.func200,Tryz.ntmps200
  go_wp2_with fail
  refine (HX6.out _).mono ?_
  rintro e w' ⟨rfl,rfl⟩
  go_wp2_with fail
  refine (HX8.out _).mono ?_
  rintro e w' ⟨rfl,rfl⟩
  go_wp2_with fail
  go_ret
  rw [HR.out]
  exact ⟨rfl,a00 _ _⟩
 have HI2:Hid _:=HI.out.trans (if_neg c1)
 clear HI
 have c1b:(s[5].toNat:Int)<(n:Int):=by omega
 by_cases c2:q6=0∨L<(q6:Int)
 ·have HR:Hid (inD n W B L s=6):=HI2.out.trans (if_pos c2)
  clear c1
  by_cases c3:q6=0
  ·subst c3
   go_enter Tryz.func200,Tryz.ntmps200
   go_wp2_with fail
   refine (HX6.out _).mono ?_
   rintro e w' ⟨rfl,rfl⟩
   go_wp2_with fail
   refine (HX8.out _).mono ?_
   rintro e w' ⟨rfl,rfl⟩
   go_wp2_with fail
   go_ret
   rw [HR.out]
   exact ⟨rfl,a00 _ _⟩
  ·have c3b:((q6:Int) == 0)=false:=by simp;omega
   have c3c:L<(q6:Int):=by omega
   clear c2 c3
   go_enter Tryz.func200,Tryz.ntmps200
   go_wp2_with fail
   refine (HX6.out _).mono ?_
   rintro e w' ⟨rfl,rfl⟩
   go_wp2_with fail
   refine (HX8.out _).mono ?_
   rintro e w' ⟨rfl,rfl⟩
   go_wp2_with fail
   go_ret
   rw [HR.out]
   exact ⟨rfl,a00 _ _⟩
 have HI3:Hid _:=HI2.out.trans (if_neg c2)
 clear HI2
 have c2b:((q6:Int) == 0)=false:=by simp;omega
 have c2c:(q6:Int)≤L:=by omega
 have c2d:1≤q6:=by omega
 clear c2
 by_cases c3:q6≤q8∨(q8:Int)<(q6:Int)-W
 ·have HR:Hid (inD n W B L s=8):=HI3.out.trans (if_pos c3)
  clear c1
  by_cases c4:q6≤q8
  ·have c4b:(q6:Int)≤(q8:Int):=by omega
   clear c3 c4
   go_enter Tryz.func200,Tryz.ntmps200
   go_wp2_with fail
   refine (HX6.out _).mono ?_
   rintro e w' ⟨rfl,rfl⟩
   go_wp2_with fail
   refine (HX8.out _).mono ?_
   rintro e w' ⟨rfl,rfl⟩
   go_wp2_with fail
   go_ret
   rw [HR.out]
   exact ⟨rfl,a00 _ _⟩
  ·have c4b:(q8:Int)<(q6:Int):=by omega
   have c4c:(q8:Int)<(q6:Int)-W:=by omega
   clear c3 c4
   go_enter Tryz.func200,Tryz.ntmps200
   go_wp2_with fail
   refine (HX6.out _).mono ?_
   rintro e w' ⟨rfl,rfl⟩
   go_wp2_with fail
   refine (HX8.out _).mono ?_
   rintro e w' ⟨rfl,rfl⟩
   go_wp2_with fail
   go_ret
   rw [HR.out]
   exact ⟨rfl,a00 _ _⟩
 have HI4:Hid _:=HI3.out.trans (if_neg c3)
 clear HI3
 have c3b:(q8:Int)<(q6:Int):=by omega
 have c3c:(q6:Int)-W≤(q8:Int):=by omega
 have c1d:decide (n≤s[5].toNat)=false:=decide_eq_false (by omega)
 have c3d:decide (q6≤q8)=false:=decide_eq_false (by omega)
 have c3e:decide ((q8:Int)<(q6:Int)-W)=false:=decide_eq_false (by omega)
 have c2e:decide (L<(q6:Int))=false:=decide_eq_false (by omega)
 clear c3 c1
 go_enter Tryz.func200,Tryz.ntmps200
 go_wp2_with fail
 refine (HX6.out _).mono ?_
 rintro e w' ⟨rfl,rfl⟩
 go_wp2_with fail
 refine (HX8.out _).mono ?_
 rintro e w' ⟨rfl,rfl⟩
 go_wp2_with fail
 go_loop [9] (fun c=>∃ k:Nat,k≤n∧c=.int .i64 k∧∀ j,j<k→vbad L 1 s[5].toNat q6 j ((vecOf s 10 n).getD j 0)=false) (fun c=>n-(intOf c).toNat)
 case atStart=>exact ⟨0,Nat.zero_le _,rfl,fun j hj=>absurd hj (by omega)⟩
 case round =>
  obtain ⟨k,hkn,rfl,hok⟩:=hrel
  have HOK:Hid (∀ j,j<k→vbad L 1 s[5].toNat q6 j ((vecOf s 10 n).getD j 0)=false):=hok
  clear hok
  by_cases hlt:k<n
  ·have HX:Hid (∀ w,Calls Tryz.prog 201 #[.string s,.int .i64 ((10:Int)+2 * (k:Int)),.int .i64 2] w fun e w'=>e=.returned (.int .i64 (val s (10+2 * k) 2))∧w'=w):=fun w=>a19 s ((10:Int)+2 * (k:Int)) 2 (10+2 * k) 2 (by omega) rfl w HS.out (by omega) (by omega)
   have HV:Hid ((vecOf s 10 n).getD k 0=(val s (10+2 * k) 2:Int)):=aj0 s 10 n k hlt
   generalize val s (10+2 * k) 2=y at *
   by_cases hbad:L<(y:Int)∨(k=s[5].toNat∧(y:Int)≠q6-1)
   ·have HR:Hid (inD n W B L s=10+2 * (k:Int)):=HI4.out.trans (am8 (by rw [a06];exact hlt) (by rw [HV.out];unfold vbad;exact decide_eq_true (by omega)) HOK.out)
    by_cases hb:L<(y:Int)
    ·clear hbad
     go_wp2_with (go_at_call 201;refine (HX.out _).mono ?_;rintro e w' ⟨rfl,rfl⟩)
     go_ret
     rw [HR.out]
     exact ⟨rfl,a00 _ _⟩
    ·have hb1:(y:Int)≤L:=by omega
     have hb3:((k:Int) == (s[5].toNat:Int))=true:=by simp;omega
     have hb4:((y:Int) != (q6:Int)-1)=true:=bne_iff_ne.2 (by omega)
     clear hbad hb
     go_wp2_with (go_at_call 201;refine (HX.out _).mono ?_;rintro e w' ⟨rfl,rfl⟩)
     go_ret
     rw [HR.out]
     exact ⟨rfl,a00 _ _⟩
   ·have HN:Hid (vbad L 1 s[5].toNat q6 k ((vecOf s 10 n).getD k 0)=false):=by show vbad L 1 s[5].toNat q6 k ((vecOf s 10 n).getD k 0)=false;rw [HV.out];unfold vbad;exact decide_eq_false (by omega)
    have hb1:(y:Int)≤L:=by omega
    by_cases hm:k=s[5].toNat
    ·have hb3:((k:Int) == (s[5].toNat:Int))=true:=by simp;omega
     have hb4:((y:Int) != (q6:Int)-1)=false:=by simp;omega
     clear hbad hm
     go_wp2_with (go_at_call 201;refine (HX.out _).mono ?_;rintro e w' ⟨rfl,rfl⟩)
     go_round
     case rel=>exact ⟨k+1,by omega,by go_num,fun j hj=>if h:j=k then h ▸ HN.out else HOK.out j (by omega)⟩
     case measure=>simp [intOf];omega
    ·have hb3:((k:Int) == (s[5].toNat:Int))=false:=by simp;omega
     clear hbad hm
     go_wp2_with (go_at_call 201;refine (HX.out _).mono ?_;rintro e w' ⟨rfl,rfl⟩)
     go_round
     case rel=>exact ⟨k+1,by omega,by go_num,fun j hj=>if h:j=k then h ▸ HN.out else HOK.out j (by omega)⟩
     case measure=>simp [intOf];omega
  ·have hkn':k=n:=by omega
   have HI5:Hid _:=HI4.out.trans (al3 (fun j hj=>HOK.out j (by rw [a06] at hj;omega)))
   clear hkn'
   have hiz:10+2 * n<s.size:=by omega
   have hizi:(10:Int)+2 * (n:Int)<(s.size:Int):=by omega
   have hiz0:(0:Int)≤10+2 * (n:Int):=by omega
   have hizt:((10:Int)+2 * (n:Int)).toNat=10+2 * n:=by omega
   have hbz:=s[10+2 * n].toNat_lt
   have hHZ:byt s (10+2 * n)=s[10+2 * n].toNat:=a1m s _ hiz
   rw [hHZ] at HI5
   clear hHZ
   by_cases c9:B<(s[10+2 * n].toNat:Int)∨s.size≠15+2 * n+s[10+2 * n].toNat
   ·have HR:Hid (inD n W B L s=10+2 * (n:Int)):=HI5.out.trans (if_pos c9)
    by_cases c8:B<(s[10+2 * n].toNat:Int)
    ·clear c9
     go_wp2_with fail
     go_ret
     rw [HR.out]
     exact ⟨rfl,a00 _ _⟩
    ·have c8b:(s[10+2 * n].toNat:Int)≤B:=by omega
     have c8c:((s.size:Int) != 15+2 * (n:Int)+(s[10+2 * n].toNat:Int))=true:=bne_iff_ne.2 (by omega)
     clear c9 c8
     go_wp2_with fail
     go_ret
     rw [HR.out]
     exact ⟨rfl,a00 _ _⟩
   ·have HR:Hid (inD n W B L s = -1):=HI5.out.trans (if_neg c9)
    have c8b:(s[10+2 * n].toNat:Int)≤B:=by omega
    have c8c:((s.size:Int) != 15+2 * (n:Int)+(s[10+2 * n].toNat:Int))=false:=by simp;omega
    clear c9
    go_wp2_with fail
    go_ret
    rw [HR.out]
    exact ⟨rfl,a00 _ _⟩
def Says (r:Option (Option Int)) (p:Int):Prop:=(r=none∧p = -1)∨(r=some (some p)∧0≤p)
theorem b40 (n:Nat) (L K O S:Int) (s:ByteArray) (p:Nat):rVec n L K O S (vecOf s p n)=(a4e L K O S (vecOf s p n)).map fun i=>some (vAt K+2 * (i:Int)):=by
 unfold rVec
 rw [if_pos (by rw [a06])]
theorem b0r (n:Nat) (L:Int) (s:ByteArray) (h:s.size=9+2 * n):Says (a2e n L s) (vecR L 2 0 0 5 (vecOf s 5 n) (-1)):=by
 unfold a2e
 rw [if_pos (by omega),b40]
 unfold vecR
 cases a4e L 2 0 0 (vecOf s 5 n) with
 | none=>exact Or.inl ⟨rfl,rfl⟩
 | some i=>exact Or.inr ⟨by simp [vAt],by simp;omega⟩
theorem b0v (n:Nat) (W B L:Int) (s:ByteArray) (h:15+2 * n≤s.size):Says (a2q n W B L s) (inD n W B L s):=by
 unfold a2q inD rData
 rw [if_neg (by omega)]
 have hb:=at7 s (10+2 * n)
 by_cases c1:n≤byt s 5
 ·rw [if_pos c1,if_pos (by omega)]
  exact Or.inr ⟨rfl,by omega⟩
 rw [if_neg c1,if_neg (by omega)]
 by_cases c2:val s 6 2=0∨L<(val s 6 2:Int)
 ·rw [if_pos c2,if_pos (by omega)]
  exact Or.inr ⟨rfl,by omega⟩
 rw [if_neg c2,if_neg (by omega)]
 by_cases c3:val s 6 2≤val s 8 2∨(val s 8 2:Int)<(val s 6 2:Int)-W
 ·rw [if_pos c3,if_pos (by omega)]
  exact Or.inr ⟨rfl,by omega⟩
 rw [if_neg c3,if_neg (by omega),b40]
 unfold vecR
 cases a4e L 1 (byt s 5) (val s 6 2) (vecOf s 10 n) with
 | some i=>exact Or.inr ⟨by simp [vAt],by simp;omega⟩
 | none =>
  by_cases c4:B<(byt s (10+2 * n):Int)∨s.size≠15+2 * n+byt s (10+2 * n)
  ·rw [if_pos c4]
   refine Or.inr ⟨?_,show (0:Int)≤10+2 * (n:Int) by omega⟩
   by_cases c5:B<((s.size-(15+2 * n):Nat):Int)
   ·rw [if_pos c5]
    rfl
   ·rw [if_neg c5]
    show (if (byt s (10+2 * n):Int)=((s.size-(15+2 * n):Nat):Int) then none else some (some (10+2 * (n:Int))))=_
    rw [if_neg (by omega)]
  ·rw [if_neg c4]
   refine Or.inl ⟨?_,rfl⟩
   rw [if_neg (show ¬ B<((s.size-(15+2 * n):Nat):Int) by omega)]
   show (if (byt s (10+2 * n):Int)=((s.size-(15+2 * n):Nat):Int) then none else some (some (10+2 * (n:Int))))=_
   rw [if_pos (by omega)]
def refAt (n:Nat) (W B L:Int) (s:ByteArray):Int:=
 if outR n s<0 then (if byt s 2=1 then inD n W B L s else vecR L 2 0 0 5 (vecOf s 5 n) (-1)) else outR n s
theorem ad5 {n:Nat} {s:ByteArray} (h:outR n s<0):(byt s 2=1∧15+2 * n≤s.size)∨(byt s 2=2∧s.size=9+2 * n):=by
 unfold outR at h
 split at h
 ·omega
 split at h
 ·omega
 split at h
 ·omega
 split at h
 ·omega
 split at h
 ·omega
 split at h
 ·omega
 split at h
 ·omega
 split at h
 ·omega
 ·omega
theorem ac3 (n:Nat) (W B L:Int) (s:ByteArray):Says (rAll n W B L s) (refAt n W B L s):=by
 by_cases c1:(s.size:Int)<9+2 * n
 ·have e:outR n s=s.size:=by unfold outR;rw [if_pos c1]
  have r:rAll n W B L s=some (some (s.size:Int)):=by unfold rAll rSeal;rw [if_pos c1]
  unfold refAt
  rw [e,r,if_neg (by omega)]
  exact Or.inr ⟨rfl,by omega⟩
 by_cases c2:marked s=false
 ·have e:outR n s=0:=by unfold outR;rw [if_neg c1,if_pos c2]
  have r:rAll n W B L s=some (some 0):=by unfold rAll rSeal;rw [if_neg c1,if_pos c2]
  unfold refAt
  rw [e,r,if_neg (by omega)]
  exact Or.inr ⟨rfl,by omega⟩
 by_cases c3:val s (s.size-4) 4≠a2c s
 ·have e:outR n s=(s.size:Int)-4:=by unfold outR;rw [if_neg c1,if_neg c2,if_pos c3]
  have r:rAll n W B L s=some (some ((s.size:Int)-4)):=by unfold rAll rSeal;rw [if_neg c1,if_neg c2,if_pos c3]
  unfold refAt
  rw [e,r,if_neg (by omega)]
  exact Or.inr ⟨rfl,by omega⟩
 have q:rAll n W B L s=rRead n W B L s:=by unfold rAll rSeal;rw [if_neg c1,if_neg c2,if_neg c3]
 rw [q]
 by_cases c4:byt s 2=1∨byt s 2=2
 case neg =>
  have e:outR n s=2:=by unfold outR;rw [if_neg c1,if_neg c2,if_neg c3,if_pos c4]
  have r:rRead n W B L s=some (some 2):=by unfold rRead rKind;rw [if_neg (by omega)]
  unfold refAt
  rw [e,r,if_neg (by omega)]
  exact Or.inr ⟨rfl,by omega⟩
 have k:rKind (byt s 2)=none:=by unfold rKind;rw [if_pos (by omega)]
 by_cases c5:byt s 3≠n
 ·have e:outR n s=3:=by unfold outR;rw [if_neg c1,if_neg c2,if_neg c3,if_neg (by omega),if_pos c5]
  have r:rRead n W B L s=some (some 3):=by unfold rRead;rw [k];show (if byt s 3=n then _ else _)=_;rw [if_neg c5]
  unfold refAt
  rw [e,r,if_neg (by omega)]
  exact Or.inr ⟨rfl,by omega⟩
 by_cases c6:n≤byt s 4
 ·have e:outR n s=4:=by unfold outR;rw [if_neg c1,if_neg c2,if_neg c3,if_neg (by omega),if_neg c5,if_pos c6]
  have r:rRead n W B L s=some (some 4):=by
   unfold rRead;rw [k];show (if byt s 3=n then _ else _)=_;rw [if_pos (by omega)]
   unfold rFrom;rw [if_neg (by omega)]
  unfold refAt
  rw [e,r,if_neg (by omega)]
  exact Or.inr ⟨rfl,by omega⟩
 have q2:rRead n W B L s=if (byt s 2:Int)=2 then a2e n L s else a2q n W B L s:=by
  unfold rRead;rw [k];show (if byt s 3=n then _ else _)=_;rw [if_pos (by omega)]
  have f:rFrom n (byt s 4)=none:=by unfold rFrom;rw [if_pos (by omega)]
  rw [f]
 rw [q2]
 by_cases c7:byt s 2=2∧s.size≠9+2 * n
 ·have e:outR n s=s.size:=by unfold outR;rw [if_neg c1,if_neg c2,if_neg c3,if_neg (by omega),if_neg c5,if_neg c6,if_pos c7]
  have r:a2e n L s=some (some (s.size:Int)):=by unfold a2e;rw [if_neg (by omega)]
  unfold refAt
  rw [e,if_pos (by omega),r,if_neg (by omega)]
  exact Or.inr ⟨rfl,by omega⟩
 by_cases c8:byt s 2=1∧s.size<15+2 * n
 ·have e:outR n s=s.size:=by unfold outR;rw [if_neg c1,if_neg c2,if_neg c3,if_neg (by omega),if_neg c5,if_neg c6,if_neg c7,if_pos c8]
  have r:a2q n W B L s=some (some (s.size:Int)):=by unfold a2q;rw [if_pos (by omega)]
  unfold refAt
  rw [e,if_neg (by omega),r,if_neg (by omega)]
  exact Or.inr ⟨rfl,by omega⟩
 have e:outR n s = -1:=by unfold outR;rw [if_neg c1,if_neg c2,if_neg c3,if_neg (by omega),if_neg c5,if_neg c6,if_neg c7,if_neg c8]
 unfold refAt
 rw [e,if_pos (show (-1:Int)<0 by omega)]
 rcases c4 with c4 | c4
 ·rw [if_pos c4,if_neg (by omega)]
  exact b0v n W B L s (by omega)
 ·rw [if_neg (show ¬ byt s 2=1 by omega),if_pos (by omega)]
  exact b0r n L s (by omega)
theorem al6 (N W B L:Int) (s:ByteArray) (w:World) (hG:okG N W B L=false) :
  Calls Tryz.prog 164 #[.agg #[.int .i64 N,.int .i64 W,.int .i64 B,.int .i64 L],.string s] w
   fun e w'=>e=.returned (.tuple #[fz,.int .i64 0,.int .i64 1])∧Below w.heap.size w w':=by
 have HC:Hid (∀ x,Calls Tryz.prog 158 #[.agg #[.int .i64 N,.int .i64 W,.int .i64 B,.int .i64 L]] x fun e w'=>e=.returned (.int .i64 1)∧Below x.heap.size x w'):=fun x=>by
  have:=a14 N W B L x
  rw [hG] at this
  exact this
 clear hG
 have HP0:Hid _:=a2y w N W B L 26 45
 go_enter Tryz.func164,Tryz.ntmps164
 go_wp2_with fail
 refine (HC.out _).mono ?_
 rintro e w1 ⟨rfl,hb⟩
 have HA1:Hid (Below w.heap.size w w1):=bthen (a09 _ _ _) hb
 have HP1:Hid (Pen w.heap.size w1 N W B L):=HP0.out.below hb HP0.out.z
 clear hb HP0
 have D:=HP1.out
 have fr:=D.s.f
 obtain ⟨u0,hu0⟩:=D.s.r 0 (by omega)
 obtain ⟨u1,hu1⟩:=D.s.r 1 (by omega)
 obtain ⟨u2,hu2⟩:=D.s.r 2 (by omega)
 obtain ⟨u3,hu3⟩:=D.s.r 3 (by omega)
 obtain ⟨u4,hu4⟩:=D.s.r 4 (by omega)
 obtain ⟨u5,hu5⟩:=D.s.r 5 (by omega)
 obtain ⟨u6,hu6⟩:=D.s.r 6 (by omega)
 obtain ⟨c0,c1,c2,c3,_,cz⟩:=D
 go_wp2_with fail
 obtain ⟨r0,r1,r2,r3,r4,r5,r6⟩:=Slots.seven HP1.out.s (.int .i64 0) (.int .i64 0) (.int .i64 0) (.int .i64 0) (.int .i64 0) (.slice none 0 0) (.string ⟨#[]⟩) _ rfl
 refine bodyPost_ret (v:=.tuple #[fz,.int .i64 0,.int .i64 1]) (by unfold fz;simp [results,Tryz.results164,go_sem,r0,r1,r2,r3,r4,r5,r6]) rfl ⟨rfl,?_⟩
 exact a0b HA1.out (by omega) _ _ _ _ _ _ _
theorem a5w (n:Nat) (W B L:Int) (s:ByteArray) (w:World) (hG:okG n W B L=true) (hs:s.size≤maxLen) (hat:0≤refAt n W B L s) :
  Calls Tryz.prog 164 #[.agg #[.int .i64 (n:Int),.int .i64 W,.int .i64 B,.int .i64 L],.string s] w
   fun e w'=>e=.returned (.tuple #[fz,.int .i64 (refAt n W B L s),.int .i64 5])∧Below w.heap.size w w':=by
 obtain ⟨h1,h2,h3,h4,-,-,-,-⟩:=a0u.1 hG
 have HC:Hid (∀ x,Calls Tryz.prog 158 #[.agg #[.int .i64 (n:Int),.int .i64 W,.int .i64 B,.int .i64 L]] x fun e w'=>e=.returned (.int .i64 0)∧Below x.heap.size x w'):=fun x=>by
  have:=a14 n W B L x
  rw [hG] at this
  exact this
 have HO:Hid (∀ x,Calls Tryz.prog 199 #[.agg #[.int .i64 (n:Int),.int .i64 W,.int .i64 B,.int .i64 L],.string s] x fun e w'=>e=.returned (.int .i64 (outR n s))∧Below x.heap.size x w'):=fun x=>a8b n W B L s x (by omega) (by omega) hs
 clear hG
 have HP0:Hid _:=a2y w n W B L 26 45
 by_cases co:outR n s<0
 ·have HIn:Hid (∀ x,Calls Tryz.prog 200 #[.agg #[.int .i64 (n:Int),.int .i64 W,.int .i64 B,.int .i64 L],.string s] x fun e w'=>e=.returned (.int .i64 (refAt n W B L s))∧Below x.heap.size x w'):=fun x=>by
   unfold refAt
   rw [if_pos co]
   rcases ad5 co with ⟨k,hl⟩ | ⟨k,hl⟩
   ·rw [if_pos k]
    exact a9x n W B L s x (by omega) (by omega) h3 h4 hs hl k
   ·rw [if_neg (by omega)]
    exact a8q n W B L s x (by omega) (by omega) hs (by omega) k
  generalize outR n s=p1 at *
  generalize refAt n W B L s=p2 at *
  clear hs
  go_enter Tryz.func164,Tryz.ntmps164
  go_wp2_with fail
  refine (HC.out _).mono ?_
  rintro e w1 ⟨rfl,hb⟩
  have HA1:Hid (Below w.heap.size w w1):=bthen (a09 _ _ _) hb
  have HP1:Hid (Pen w.heap.size w1 n W B L):=HP0.out.below hb HP0.out.z
  clear hb HP0
  have D:=HP1.out
  have fr:=D.s.f
  obtain ⟨u0,hu0⟩:=D.s.r 0 (by omega)
  obtain ⟨u1,hu1⟩:=D.s.r 1 (by omega)
  obtain ⟨u2,hu2⟩:=D.s.r 2 (by omega)
  obtain ⟨u3,hu3⟩:=D.s.r 3 (by omega)
  obtain ⟨u4,hu4⟩:=D.s.r 4 (by omega)
  obtain ⟨u5,hu5⟩:=D.s.r 5 (by omega)
  obtain ⟨u6,hu6⟩:=D.s.r 6 (by omega)
  obtain ⟨c0,c1,c2,c3,_,cz⟩:=D
  go_wp2_with fail
  refine (HO.out _).mono ?_
  rintro e w2 ⟨rfl,hb⟩
  have HA2:Hid (Below w.heap.size w w2):=bthen HA1.out hb
  have HP2:Hid (Pen w.heap.size w2 n W B L):=HP1.out.below hb HP1.out.z
  clear hb HP1 HA1
  clear c0 c1 c2 c3 fr hu0 hu1 hu2 hu3 hu4 hu5 hu6 u0 u1 u2 u3 u4 u5 u6 cz
  have D:=HP2.out
  have fr:=D.s.f
  obtain ⟨u0,hu0⟩:=D.s.r 0 (by omega)
  obtain ⟨u1,hu1⟩:=D.s.r 1 (by omega)
  obtain ⟨u2,hu2⟩:=D.s.r 2 (by omega)
  obtain ⟨u3,hu3⟩:=D.s.r 3 (by omega)
  obtain ⟨u4,hu4⟩:=D.s.r 4 (by omega)
  obtain ⟨u5,hu5⟩:=D.s.r 5 (by omega)
  obtain ⟨u6,hu6⟩:=D.s.r 6 (by omega)
  obtain ⟨c0,c1,c2,c3,_,cz⟩:=D
  go_wp2_with fail
  refine (HIn.out _).mono ?_
  rintro e w3 ⟨rfl,hb⟩
  have HA3:Hid (Below w.heap.size w w3):=bthen HA2.out hb
  have HP3:Hid (Pen w.heap.size w3 n W B L):=HP2.out.below hb HP2.out.z
  clear hb HP2 HA2
  clear c0 c1 c2 c3 fr hu0 hu1 hu2 hu3 hu4 hu5 hu6 u0 u1 u2 u3 u4 u5 u6 cz
  have D:=HP3.out
  have fr:=D.s.f
  obtain ⟨u0,hu0⟩:=D.s.r 0 (by omega)
  obtain ⟨u1,hu1⟩:=D.s.r 1 (by omega)
  obtain ⟨u2,hu2⟩:=D.s.r 2 (by omega)
  obtain ⟨u3,hu3⟩:=D.s.r 3 (by omega)
  obtain ⟨u4,hu4⟩:=D.s.r 4 (by omega)
  obtain ⟨u5,hu5⟩:=D.s.r 5 (by omega)
  obtain ⟨u6,hu6⟩:=D.s.r 6 (by omega)
  obtain ⟨c0,c1,c2,c3,_,cz⟩:=D
  go_wp2_with fail
  obtain ⟨r0,r1,r2,r3,r4,r5,r6⟩:=Slots.seven HP3.out.s (.int .i64 0) (.int .i64 0) (.int .i64 0) (.int .i64 0) (.int .i64 0) (.slice none 0 0) (.string ⟨#[]⟩) _ rfl
  refine bodyPost_ret (v:=.tuple #[fz,.int .i64 p2,.int .i64 5]) (by unfold fz;simp [results,Tryz.results164,go_sem,r0,r1,r2,r3,r4,r5,r6]) rfl ⟨rfl,?_⟩
  exact a0b HA3.out (by omega) _ _ _ _ _ _ _
 ·have HRA:Hid (refAt n W B L s=outR n s):=if_neg co
  have co':0≤outR n s:=by omega
  clear hat co
  generalize outR n s=p1 at *
  clear hs
  go_enter Tryz.func164,Tryz.ntmps164
  go_wp2_with fail
  refine (HC.out _).mono ?_
  rintro e w1 ⟨rfl,hb⟩
  have HA1:Hid (Below w.heap.size w w1):=bthen (a09 _ _ _) hb
  have HP1:Hid (Pen w.heap.size w1 n W B L):=HP0.out.below hb HP0.out.z
  clear hb HP0
  have D:=HP1.out
  have fr:=D.s.f
  obtain ⟨u0,hu0⟩:=D.s.r 0 (by omega)
  obtain ⟨u1,hu1⟩:=D.s.r 1 (by omega)
  obtain ⟨u2,hu2⟩:=D.s.r 2 (by omega)
  obtain ⟨u3,hu3⟩:=D.s.r 3 (by omega)
  obtain ⟨u4,hu4⟩:=D.s.r 4 (by omega)
  obtain ⟨u5,hu5⟩:=D.s.r 5 (by omega)
  obtain ⟨u6,hu6⟩:=D.s.r 6 (by omega)
  obtain ⟨c0,c1,c2,c3,_,cz⟩:=D
  go_wp2_with fail
  refine (HO.out _).mono ?_
  rintro e w2 ⟨rfl,hb⟩
  have HA2:Hid (Below w.heap.size w w2):=bthen HA1.out hb
  have HP2:Hid (Pen w.heap.size w2 n W B L):=HP1.out.below hb HP1.out.z
  clear hb HP1 HA1
  clear c0 c1 c2 c3 fr hu0 hu1 hu2 hu3 hu4 hu5 hu6 u0 u1 u2 u3 u4 u5 u6 cz
  have D:=HP2.out
  have fr:=D.s.f
  obtain ⟨u0,hu0⟩:=D.s.r 0 (by omega)
  obtain ⟨u1,hu1⟩:=D.s.r 1 (by omega)
  obtain ⟨u2,hu2⟩:=D.s.r 2 (by omega)
  obtain ⟨u3,hu3⟩:=D.s.r 3 (by omega)
  obtain ⟨u4,hu4⟩:=D.s.r 4 (by omega)
  obtain ⟨u5,hu5⟩:=D.s.r 5 (by omega)
  obtain ⟨u6,hu6⟩:=D.s.r 6 (by omega)
  obtain ⟨c0,c1,c2,c3,_,cz⟩:=D
  go_wp2_with fail
  obtain ⟨r0,r1,r2,r3,r4,r5,r6⟩:=Slots.seven HP2.out.s (.int .i64 0) (.int .i64 0) (.int .i64 0) (.int .i64 0) (.int .i64 0) (.slice none 0 0) (.string ⟨#[]⟩) _ rfl
  refine bodyPost_ret (v:=.tuple #[fz,.int .i64 p1,.int .i64 5]) (by unfold fz;simp [results,Tryz.results164,go_sem,r0,r1,r2,r3,r4,r5,r6]) rfl ⟨by rw [HRA.out],?_⟩
  exact a0b HA2.out (by omega) _ _ _ _ _ _ _
def OwnI (w:World) (base:Nat) (v:Value) (l:List Int):Prop:=w.ownsRow base 3 1 v l.length (l.map (Value.int .i64))
theorem OwnI.alloc {w:World} {base:Nat} {v:Value} {l:List Int} (h:OwnI w base v l) (o:Obj):OwnI (w.alloc o) base v l:=World.ownsRow.alloc h o
theorem OwnI.block {w:World} {base:Nat} {v:Value} {l:List Int} (h:OwnI w base v l):∀ k,v.ownBlock=some k→base≤k:=by
 intro k hk
 rcases h.2 with ⟨rfl,_⟩ | ⟨g,cap,cur,rfl,hg,_⟩
 ·cases hk
 ·cases hk;exact hg
theorem OwnI.snoc {w w':World} {base:Nat} {v v':Value} {l:List Int} (y:Int) (o:Obj) (_h:OwnI w base v l) (h':w'.ownsRow base 3 1 v' (l.length+1) (l.map (Value.int .i64)++[Value.int .i64 y])) (hg:(w.alloc o).grownBy w' v.ownBlock) (hb:base≤w.heap.size):OwnI w' base v' (l++[y])∧Below base w w':=by
 refine ⟨?_,((Below.refl _ _).alloc hb o).grown hg (by simp;omega) _h.block⟩
 unfold OwnI
 rw [List.map_append,List.length_append]
 exact h'
theorem OwnI.other {w:World} {base:Nat} {v:Value} {l:List Int} (h:OwnI w base v l) {a:Addr} (ha:a.block<base) (u:Value):OwnI (w.setCell a u) base v l:=ownsRow_setCell_below h ha u
theorem OwnI.mono {w:World} {base base':Nat} {v:Value} {l:List Int} (h:OwnI w base v l) (hb:base'≤base):OwnI w base' v l:=by
 refine ⟨h.1,?_⟩
 rcases h.2 with h | ⟨g,cap,cur,h1,h2,h3⟩
 ·exact Or.inl h
 ·exact Or.inr ⟨g,cap,cur,h1,Nat.le_trans hb h2,h3⟩
theorem OwnI.shape {w:World} {base:Nat} {v:Value} {l:List Int} (h:OwnI w base v l):∃ a c,v=.slice a l.length c:=by
 rcases h.2 with ⟨rfl,h0⟩ | ⟨g,cap,cur,rfl,_⟩
 ·rw [h0];exact ⟨none,0,rfl⟩
 ·exact ⟨_,_,rfl⟩
theorem OwnI.set7 {w:World} {base b:Nat} {v:Value} {l:List Int} (h:OwnI w base v l) (hb:b<base) (v0 v1 v2 v3 v4 v5 v6:Value) :
  OwnI (((((((w.setCell ⟨b,0,none⟩ v0).setCell ⟨b,1,none⟩ v1).setCell ⟨b,2,none⟩ v2).setCell ⟨b,3,none⟩ v3).setCell ⟨b,4,none⟩ v4).setCell ⟨b,5,none⟩ v5).setCell ⟨b,6,none⟩ v6) base v l:=
 ((((((h.other hb _).other hb _).other hb _).other hb _).other hb _).other hb _).other hb _
theorem OwnI.ints {w:World} {base:Nat} {v:Value} {l:List Int} {n:Nat} (h:OwnI w base v l) (hn:l.length=n):∃ ad cap,v=.slice ad n cap∧Ints w ad n l:=by
 subst hn
 rcases h.2 with ⟨rfl,h0⟩ | ⟨g,cap,cur,rfl,hg,hh,hr⟩
 ·rw [List.length_eq_zero_iff.1 h0]
  exact ⟨none,0,rfl,⟨rfl,fun _ hi=>absurd hi (Nat.not_lt_zero _)⟩⟩
 ·refine ⟨_,cap,rfl,rfl,fun i hi=>⟨g,0,rfl,lt_of_some hh,?_⟩⟩
  have hc:=World.ownsRow.cellAt h i (by simpa using hi)
  rw [Nat.zero_add,hc,List.getElem?_map,List.getElem?_eq_getElem hi,List.getD_eq_getElem?_getD,List.getElem?_eq_getElem hi]
  rfl
end Go.Proofs.YtabecbjfamphbaaGreatDoor
