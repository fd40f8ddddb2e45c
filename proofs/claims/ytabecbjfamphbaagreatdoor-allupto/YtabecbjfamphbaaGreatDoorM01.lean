/- A part of the proof. -/
namespace Go.Proofs.YtabecbjfamphbaaGreatDoor
set_option maxRecDepth 100000
structure Wd where
 org:Int
 seq:Int
 body:ByteArray
def vw (vs:List (List Int)) (q o:Nat):Int:=(vs.getD q []).getD o 0
def imax (y x:Int):Int:=if y<x then x else y
theorem b38 (y x:Int):imax y x=max y x:=by unfold imax;split<;>omega
def vset (vs:List (List Int)) (q o:Nat) (x:Int):List (List Int):=vs.set q ((vs.getD q []).set o x)
theorem a1q {α:Type} (l:List α) (i j:Nat) (x d:α):(l.set i x).getD j d=if i=j∧j<l.length then x else l.getD j d:=by
 rw [List.getD_eq_getElem?_getD,List.getD_eq_getElem?_getD,List.getElem?_set]
 split
 ·rename_i h
  subst h
  split
  ·simp [*]
  ·rename_i h
   rw [List.getElem?_eq_none (by omega),if_neg (by omega)]
 ·rename_i h
  rw [if_neg (by omega)]
def lowTo (vs:List (List Int)) (L:Int) (o:Nat):Nat→Int
 | 0=>L
 | k+1=>if vw vs k o<lowTo vs L o k then vw vs k o else lowTo vs L o k
def a1n (vs:List (List Int)) (q:Nat) (v:List Int):Nat→List (List Int)
 | 0=>vs
 | k+1=>vset (a1n vs q v k) q k (imax (vw (a1n vs q v k) q k) (v.getD k 0))
def vlow (vs:List (List Int)) (p o:Nat) (x:Int):Nat→List (List Int)
 | 0=>vs
 | k+1=>if k=p then vlow vs p o x k else vset (vlow vs p o x k) k o (imax (vw (vlow vs p o x k) k o) x)
structure Shp (vs:List (List Int)) (n:Nat):Prop where
 vlen:vs.length=n
 elen:∀ q,q<n→(vs.getD q []).length=n
theorem Shp.vset {vs:List (List Int)} {n:Nat} (h:Shp vs n) (q o:Nat) (x:Int):Shp (vset vs q o x) n:=by
 refine ⟨by unfold Proofs.YtabecbjfamphbaaGreatDoor.vset;rw [List.length_set];exact h.vlen,fun j hj=>?_⟩
 unfold Proofs.YtabecbjfamphbaaGreatDoor.vset
 rw [a1q]
 split
 ·rename_i e
  rw [List.length_set,e.1];exact h.elen j hj
 ·exact h.elen j hj
theorem a2f {vs:List (List Int)} {n:Nat} (h:Shp vs n) {q o:Nat} (hq:q<n) (ho:o<n) (x:Int) (q' o':Nat):vw (vset vs q o x) q' o'=if q'=q∧o'=o then x else vw vs q' o':=by
 unfold vw vset
 have h1:=h.vlen
 have h2:=h.elen q hq
 rw [a1q]
 by_cases e:q=q'
 ·subst e
  rw [if_pos ⟨rfl,by omega⟩,a1q]
  by_cases e':o=o'
  ·subst e'
   rw [if_pos ⟨rfl,by omega⟩,if_pos ⟨rfl,rfl⟩]
  ·rw [if_neg (fun c=>e' c.1),if_neg (fun c=>e' c.2.symm)]
 ·rw [if_neg (fun c=>e c.1),if_neg (fun c=>e c.1.symm)]
theorem Shp.a1n {vs:List (List Int)} {n:Nat} (h:Shp vs n) (q:Nat) (v:List Int):∀ k,Shp (a1n vs q v k) n
 | 0=>h
 | k+1=>(h.a1n q v k).vset _ _ _
theorem a3p {vs:List (List Int)} {n:Nat} (h:Shp vs n) {q:Nat} (hq:q<n) (v:List Int) (k:Nat) (hk:k≤n) (q' o:Nat):vw (a1n vs q v k) q' o=if q'=q∧o<k then max (vw vs q' o) (v.getD o 0) else vw vs q' o:=by
 induction k with
 | zero=>rw [if_neg (by omega)];rfl
 | succ k ih =>
  show vw (Proofs.YtabecbjfamphbaaGreatDoor.vset (a1n vs q v k) q k (imax (vw (a1n vs q v k) q k) (v.getD k 0))) q' o=_
  rw [a2f (h.a1n q v k) hq (by omega),ih (by omega),b38]
  by_cases e:q'=q
  ·subst e
   by_cases e':o=k
   ·subst e'
    rw [if_pos ⟨rfl,rfl⟩,if_pos ⟨rfl,by omega⟩]
    have h3:=ih (by omega)
    rw [if_neg (by omega)] at h3
    rw [h3]
   ·rw [if_neg (fun c=>e' c.2)]
    by_cases h4:o<k
    ·rw [if_pos ⟨rfl,h4⟩,if_pos ⟨rfl,by omega⟩]
    ·rw [if_neg (fun c=>h4 c.2),if_neg (by omega)]
  ·rw [if_neg (fun c=>e c.1),if_neg (fun c=>e c.1),if_neg (fun c=>e c.1)]
theorem Shp.vlow {vs:List (List Int)} {n:Nat} (h:Shp vs n) (p o:Nat) (x:Int):∀ k,Shp (vlow vs p o x k) n
 | 0=>h
 | k+1=>by
  unfold Proofs.YtabecbjfamphbaaGreatDoor.vlow
  split
  ·exact h.vlow p o x k
  ·exact (h.vlow p o x k).vset _ _ _
theorem a5o {vs:List (List Int)} {n:Nat} (h:Shp vs n) {p o:Nat} (ho:o<n) (x:Int) (k:Nat) (hk:k≤n) (q o':Nat):vw (vlow vs p o x k) q o'=if q≠p∧q<k∧o'=o then max (vw vs q o') x else vw vs q o':=by
 induction k with
 | zero=>rw [if_neg (by omega)];rfl
 | succ k ih =>
  unfold Proofs.YtabecbjfamphbaaGreatDoor.vlow
  by_cases e:k=p
  ·rw [if_pos e,ih (by omega)]
   subst e
   by_cases h1:q≠k∧q<k∧o'=o
   ·rw [if_pos h1,if_pos ⟨h1.1,by omega,h1.2.2⟩]
   ·rw [if_neg h1,if_neg (fun c=>h1 ⟨c.1,by omega,c.2.2⟩)]
  ·rw [if_neg e,a2f (h.vlow p o x k) (by omega) ho,ih (by omega),b38]
   by_cases e1:q=k
   ·subst e1
    by_cases e2:o'=o
    ·subst e2
     rw [if_pos ⟨rfl,rfl⟩,if_pos ⟨e,by omega,rfl⟩]
     have h3:=ih (by omega)
     rw [if_neg (by omega)] at h3
     rw [h3]
    ·rw [if_neg (fun c=>e2 c.2),if_neg (fun c=>e2 c.2.2),if_neg (fun c=>e2 c.2.2)]
   ·rw [if_neg (fun c=>e1 c.1)]
    by_cases h1:q≠p∧q<k∧o'=o
    ·rw [if_pos h1,if_pos ⟨h1.1,by omega,h1.2.2⟩]
    ·rw [if_neg h1,if_neg (fun c=>h1 ⟨c.1,by omega,c.2.2⟩)]
theorem a7a (vs:List (List Int)) (L:Int) (o n:Nat):lowTo vs L o n≤L:=by
 induction n with
 | zero=>exact Int.le_refl _
 | succ n ih =>
  unfold lowTo
  split<;>omega
theorem a6i (vs:List (List Int)) (L:Int) (o n q:Nat) (hq:q<n):lowTo vs L o n≤vw vs q o:=by
 induction n with
 | zero=>omega
 | succ n ih =>
  unfold lowTo
  by_cases e:q=n
  ·subst e
   split<;>omega
  ·have:=ih (by omega)
   split<;>omega
theorem a5q (vs:List (List Int)) (L x:Int) (o n:Nat) (hL:x≤L) (h:∀ q,q<n→x≤vw vs q o):x≤lowTo vs L o n:=by
 induction n with
 | zero=>exact hL
 | succ n ih =>
  have h1:=ih (fun q hq=>h q (by omega))
  have h2:=h n (by omega)
  unfold lowTo
  split<;>omega
theorem a6w (vs vs':List (List Int)) (L:Int) (o n:Nat) (h:∀ q,q<n→vw vs q o≤vw vs' q o):lowTo vs L o n≤lowTo vs' L o n:=
 a5q _ _ _ _ _ (a7a _ _ _ _) (fun q hq=>Int.le_trans (a6i _ _ _ _ q hq) (h q hq))
end Go.Proofs.YtabecbjfamphbaaGreatDoor
