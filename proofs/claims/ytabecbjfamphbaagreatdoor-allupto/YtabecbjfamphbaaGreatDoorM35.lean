/- A part of the proof. -/
import Derived.Test.YtabecbjfamphbaaGreatDoorM34
namespace Go.Proofs.YtabecbjfamphbaaGreatDoor
open Go.RowKit Go.Stop Go.Extern
set_option maxRecDepth 100000
theorem a3s {α:Type} {l:List α} {i:Nat} {t:α} (h:l[i]?=some t):l.take (i+1)=l.take i++[t]:=by
 rw [List.take_add_one,h]
 rfl
theorem b56 {α:Type} {l:List α} {k:Nat} {t:α} (h:l[k]?=some t):(l.take (k+1)).eraseIdx k=(l.take k).eraseIdx k:=by
 have hkl:=(List.getElem?_eq_some_iff.1 h).1
 have hl:(l.take k).length=k:=by simp;omega
 rw [a3s h,List.eraseIdx_append_of_length_le (by omega),hl,Nat.sub_self,List.eraseIdx_of_length_le (l:=l.take k) (by omega)]
 simp
theorem b36 {α:Type} {l:List α} {i k:Nat} {t:α} (h:l[i]?=some t) (hne:i≠k):(l.take (i+1)).eraseIdx k=(l.take i).eraseIdx k++[t]:=by
 have hkl:=(List.getElem?_eq_some_iff.1 h).1
 have hl:(l.take i).length=i:=by simp;omega
 rw [a3s h]
 rcases Nat.lt_or_ge k i with h1 | h1
 ·rw [List.eraseIdx_append_of_lt_length (by omega)]
 ·rw [List.eraseIdx_of_length_le (l:=l.take i) (by omega),List.eraseIdx_of_length_le (by simp;omega)]
end Go.Proofs.YtabecbjfamphbaaGreatDoor
