/-
  Texts that the proofs of this seat share, joined: Fr, Rer0.
-/
import Derived.Test.YtabecbjfamphbaaGreatDoorBou06
import Derived.Test.YtabecbjfamphbaaGreatDoorB34
import Derived.Test.YtabecbjfamphbaaGreatDoorB27
/- The law's framed: a frame of the group, out of any. -/
namespace Go.Proofs.YtabecbjfamphbaaGreatDoor
open Go.RowKit Go.Stop Go.Extern

/-- The group, the frame that came in, the answer's cells, and the frame that is made. -/
structure FrB (z : Nat) (x : World) (N W B L K F O S Lw : Int) (sv : Value) (body : ByteArray) (g0 g1 g2 g3 g4 g5 g6 : Value) : Prop where
  k0 : x.cell? ⟨z, 0, none⟩ = some (.int .i64 N)
  k1 : x.cell? ⟨z, 1, none⟩ = some (.int .i64 W)
  k2 : x.cell? ⟨z, 2, none⟩ = some (.int .i64 B)
  k3 : x.cell? ⟨z, 3, none⟩ = some (.int .i64 L)
  f : Seven (z + 1) x (.int .i64 K) (.int .i64 F) (.int .i64 O) (.int .i64 S) (.int .i64 Lw) sv (.string body)
  r : Slots (z + 2) x
  g : Seven (z + 3) x g0 g1 g2 g3 g4 g5 g6
  gf : ∀ i, x.frozen? ⟨z + 3, i, none⟩ = false
theorem FrB.below {z : Nat} {x y : World} {N W B L K F O S Lw : Int} {sv : Value} {body : ByteArray} {g0 g1 g2 g3 g4 g5 g6 : Value} (h : FrB z x N W B L K F O S Lw sv body g0 g1 g2 g3 g4 g5 g6) {c : Nat} (hb : Below c x y) (hc : z + 3 < c) : FrB z y N W B L K F O S Lw sv body g0 g1 g2 g3 g4 g5 g6 := by
  obtain ⟨k0, k1, k2, k3, hf, hr, hg, gf⟩ := h
  have e : ∀ i, y.cell? ⟨z, i, none⟩ = x.cell? ⟨z, i, none⟩ := fun i => hb.cell (p := ⟨z, i, none⟩) (by show z < c; omega)
  exact ⟨(e _).trans k0, (e _).trans k1, (e _).trans k2, (e _).trans k3, hf.below hb (by omega), hr.below hb (by omega), hg.below hb hc, fun i => (hb.frozen (p := ⟨z + 3, i, none⟩) hc).trans (gf i)⟩
theorem Seven.other {g : Nat} {x : World} {v0 v1 v2 v3 v4 v5 v6 : Value} (h : Seven g x v0 v1 v2 v3 v4 v5 v6) {a : Addr} (v : Value) (ha : g ≠ a.block) : Seven g (x.setCell a v) v0 v1 v2 v3 v4 v5 v6 := by
  have e : ∀ i, (x.setCell a v).cell? ⟨g, i, none⟩ = x.cell? ⟨g, i, none⟩ := fun i => World.cell?_of_block (w := x) (heap_setCell_other x a g v ha)
  exact ⟨(e _).trans h.c0, (e _).trans h.c1, (e _).trans h.c2, (e _).trans h.c3, (e _).trans h.c4, (e _).trans h.c5, (e _).trans h.c6, by simpa [World.setCell] using h.z⟩
theorem Slots.other {b : Nat} {x : World} (h : Slots b x) {a : Addr} (v : Value) (ha : b ≠ a.block) : Slots b (x.setCell a v) := by
  obtain ⟨sr, sf, sz⟩ := h
  refine ⟨fun i hi => ?_, fun i => (frozen_set _ _ _ _).trans (sf i), by simpa [World.setCell] using sz⟩
  obtain ⟨u, hu⟩ := sr i hi
  exact ⟨u, (World.cell?_of_block (w := x) (heap_setCell_other x a b v ha)).trans hu⟩
theorem FrB.put {z : Nat} {x : World} {N W B L K F O S Lw : Int} {sv : Value} {body : ByteArray} {g0 g1 g2 g3 g4 g5 g6 u0 u1 u2 u3 u4 u5 u6 : Value} (h : FrB z x N W B L K F O S Lw sv body g0 g1 g2 g3 g4 g5 g6) (i : Nat) (v : Value)
    (hg : Seven (z + 3) (x.setCell ⟨z + 3, i, none⟩ v) u0 u1 u2 u3 u4 u5 u6) : FrB z (x.setCell ⟨z + 3, i, none⟩ v) N W B L K F O S Lw sv body u0 u1 u2 u3 u4 u5 u6 := by
  obtain ⟨k0, k1, k2, k3, hf, hr, _, gf⟩ := h
  have e : ∀ j, (x.setCell ⟨z + 3, i, none⟩ v).cell? ⟨z, j, none⟩ = x.cell? ⟨z, j, none⟩ := fun j => World.cell?_of_block (w := x) (heap_setCell_other x ⟨z + 3, i, none⟩ z v (by show z ≠ z + 3; omega))
  exact ⟨(e _).trans k0, (e _).trans k1, (e _).trans k2, (e _).trans k3, hf.other _ (by show z + 1 ≠ z + 3; omega), hr.other _ (by show z + 2 ≠ z + 3; omega), hg, fun j => (frozen_set _ _ _ _).trans (gf j)⟩
theorem Seven.put0 {g : Nat} {x : World} {v0 v1 v2 v3 v4 v5 v6 : Value} (h : Seven g x v0 v1 v2 v3 v4 v5 v6) (v : Value) : Seven g (x.setCell ⟨g, 0, none⟩ v) v v1 v2 v3 v4 v5 v6 := by
  obtain ⟨c0, c1, c2, c3, c4, c5, c6, cz⟩ := h
  refine ⟨?_, ?_, ?_, ?_, ?_, ?_, ?_, by simpa [World.setCell] using cz⟩ <;> go_simp
theorem Seven.put2 {g : Nat} {x : World} {v0 v1 v2 v3 v4 v5 v6 : Value} (h : Seven g x v0 v1 v2 v3 v4 v5 v6) (v : Value) : Seven g (x.setCell ⟨g, 2, none⟩ v) v0 v1 v v3 v4 v5 v6 := by
  obtain ⟨c0, c1, c2, c3, c4, c5, c6, cz⟩ := h
  refine ⟨?_, ?_, ?_, ?_, ?_, ?_, ?_, by simpa [World.setCell] using cz⟩ <;> go_simp
theorem Seven.put3 {g : Nat} {x : World} {v0 v1 v2 v3 v4 v5 v6 : Value} (h : Seven g x v0 v1 v2 v3 v4 v5 v6) (v : Value) : Seven g (x.setCell ⟨g, 3, none⟩ v) v0 v1 v2 v v4 v5 v6 := by
  obtain ⟨c0, c1, c2, c3, c4, c5, c6, cz⟩ := h
  refine ⟨?_, ?_, ?_, ?_, ?_, ?_, ?_, by simpa [World.setCell] using cz⟩ <;> go_simp
theorem Seven.put4 {g : Nat} {x : World} {v0 v1 v2 v3 v4 v5 v6 : Value} (h : Seven g x v0 v1 v2 v3 v4 v5 v6) (v : Value) : Seven g (x.setCell ⟨g, 4, none⟩ v) v0 v1 v2 v3 v v5 v6 := by
  obtain ⟨c0, c1, c2, c3, c4, c5, c6, cz⟩ := h
  refine ⟨?_, ?_, ?_, ?_, ?_, ?_, ?_, by simpa [World.setCell] using cz⟩ <;> go_simp
theorem Seven.put5 {g : Nat} {x : World} {v0 v1 v2 v3 v4 v5 v6 : Value} (h : Seven g x v0 v1 v2 v3 v4 v5 v6) (v : Value) : Seven g (x.setCell ⟨g, 5, none⟩ v) v0 v1 v2 v3 v4 v v6 := by
  obtain ⟨c0, c1, c2, c3, c4, c5, c6, cz⟩ := h
  refine ⟨?_, ?_, ?_, ?_, ?_, ?_, ?_, by simpa [World.setCell] using cz⟩ <;> go_simp
theorem Seven.put6 {g : Nat} {x : World} {v0 v1 v2 v3 v4 v5 v6 : Value} (h : Seven g x v0 v1 v2 v3 v4 v5 v6) (v : Value) : Seven g (x.setCell ⟨g, 6, none⟩ v) v0 v1 v2 v3 v4 v5 v := by
  obtain ⟨c0, c1, c2, c3, c4, c5, c6, cz⟩ := h
  refine ⟨?_, ?_, ?_, ?_, ?_, ?_, ?_, by simpa [World.setCell] using cz⟩ <;> go_simp
/-- The numbers of a vector, each brought into its bounds. -/
def fvec (vs : List Int) (L : Int) (k : Nat) : List Int := (List.range k).map fun q => pk (vs.getD q 0) (L + 1)
theorem fvec_length (vs : List Int) (L : Int) (k : Nat) : (fvec vs L k).length = k := by simp [fvec]
theorem fvec_succ (vs : List Int) (L : Int) (k : Nat) : fvec vs L (k + 1) = fvec vs L k ++ [pk (vs.getD k 0) (L + 1)] := by simp [fvec, List.range_succ]
theorem fvec_mem {vs : List Int} {L : Int} {k : Nat} (hL : 0 ≤ L) : ∀ v ∈ fvec vs L k, 0 ≤ v ∧ v ≤ L := by
  intro v hv
  obtain ⟨q, _, rfl⟩ := List.mem_map.1 hv
  have := pk_bd (vs.getD q 0) (L + 1) (by omega)
  omega
theorem frb_start (w : World) (N W B L K F O S Lw : Int) (sv : Value) (body : ByteArray) (g0 g1 g2 g3 g4 g5 g6 : Value) (r : Array Value) (tc tf tr tg : TypeId) (hr : r.size = 7) :
    FrB w.heap.size ((((w.alloc (.cells #[.int .i64 N, .int .i64 W, .int .i64 B, .int .i64 L] tc)).alloc (.cells #[.int .i64 K, .int .i64 F, .int .i64 O, .int .i64 S, .int .i64 Lw, sv, .string body] tf)).alloc (.cells r tr)).alloc (.cells #[g0, g1, g2, g3, g4, g5, g6] tg)) N W B L K F O S Lw sv body g0 g1 g2 g3 g4 g5 g6 := by
  obtain ⟨c0, c1, c2, c3⟩ := cbox w N W B L tc
  have h1 := seven_alloc (w.alloc (.cells #[.int .i64 N, .int .i64 W, .int .i64 B, .int .i64 L] tc)) (.int .i64 K) (.int .i64 F) (.int .i64 O) (.int .i64 S) (.int .i64 Lw) sv (.string body) tf
  have h2 := slots_alloc ((w.alloc (.cells #[.int .i64 N, .int .i64 W, .int .i64 B, .int .i64 L] tc)).alloc (.cells #[.int .i64 K, .int .i64 F, .int .i64 O, .int .i64 S, .int .i64 Lw, sv, .string body] tf)) r tr hr
  have h3 := seven_alloc (((w.alloc (.cells #[.int .i64 N, .int .i64 W, .int .i64 B, .int .i64 L] tc)).alloc (.cells #[.int .i64 K, .int .i64 F, .int .i64 O, .int .i64 S, .int .i64 Lw, sv, .string body] tf)).alloc (.cells r tr)) g0 g1 g2 g3 g4 g5 g6 tg
  have hz1 : (w.alloc (.cells #[.int .i64 N, .int .i64 W, .int .i64 B, .int .i64 L] tc)).heap.size = w.heap.size + 1 := by simp
  generalize w.alloc (.cells #[.int .i64 N, .int .i64 W, .int .i64 B, .int .i64 L] tc) = x1 at *
  have hz2 : (x1.alloc (.cells #[.int .i64 K, .int .i64 F, .int .i64 O, .int .i64 S, .int .i64 Lw, sv, .string body] tf)).heap.size = w.heap.size + 2 := by simp; omega
  have b2 := below1 x1 (.cells #[.int .i64 K, .int .i64 F, .int .i64 O, .int .i64 S, .int .i64 Lw, sv, .string body] tf)
  generalize x1.alloc (.cells #[.int .i64 K, .int .i64 F, .int .i64 O, .int .i64 S, .int .i64 Lw, sv, .string body] tf) = x2 at *
  have hz3 : (x2.alloc (.cells r tr)).heap.size = w.heap.size + 3 := by simp; omega
  have b3 := below1 x2 (.cells r tr)
  generalize x2.alloc (.cells r tr) = x3 at *
  have b4 := below1 x3 (.cells #[g0, g1, g2, g3, g4, g5, g6] tg)
  have hfr : ∀ i, (x3.alloc (.cells #[g0, g1, g2, g3, g4, g5, g6] tg)).frozen? ⟨x3.heap.size, i, none⟩ = false := fun i => frozen_of_row _ _ i _ tg (heap_alloc_new _ _)
  generalize x3.alloc (.cells #[g0, g1, g2, g3, g4, g5, g6] tg) = x4 at *
  rw [hz1] at h1 b2
  rw [hz2] at h2 b3
  rw [hz3] at h3 b4 hfr
  have e : ∀ i, x4.cell? ⟨w.heap.size, i, none⟩ = x1.cell? ⟨w.heap.size, i, none⟩ := fun i =>
    (b4.cell (p := ⟨w.heap.size, i, none⟩) (by show w.heap.size < w.heap.size + 3; omega)).trans ((b3.cell (p := ⟨w.heap.size, i, none⟩) (by show w.heap.size < w.heap.size + 2; omega)).trans (b2.cell (p := ⟨w.heap.size, i, none⟩) (by show w.heap.size < w.heap.size + 1; omega)))
  exact ⟨(e _).trans c0, (e _).trans c1, (e _).trans c2, (e _).trans c3, (h1.below b3 (by omega)).below b4 (by omega), h2.below b4 (by omega), h3, hfr⟩

set_option maxRecDepth 100000 in
set_option maxHeartbeats 4000000 in
theorem frame_any (n : Nat) (W B L K F O S Lw : Int) (ad : Option Addr) (len cap : Nat) (body : ByteArray) (vs : List Int) (w : World) (hG : okG n W B L = true) (hi : Ints w ad len vs) (hK : I64 K) (hF : I64 F) (hO : I64 O) (hS : I64 S) (hLw : I64 Lw) (hv : ∀ v ∈ vs, I64 v) :
    Calls Tryz.prog 84 #[.agg #[.int .i64 (n : Int), .int .i64 W, .int .i64 B, .int .i64 L], .agg #[.int .i64 K, .int .i64 F, .int .i64 O, .int .i64 S, .int .i64 Lw, .slice ad len cap, .string body]] w
      fun e w' => (∃ K' F' O' S' Lw' ad' cap' vs' body', e = .returned (.agg #[.int .i64 K', .int .i64 F', .int .i64 O', .int .i64 S', .int .i64 Lw', .slice ad' n cap', .string body']) ∧ Fits n W B L K' F' O' S' Lw' vs' body' ∧ Ints w' ad' n vs' ∧ ∀ b off, ad' = some ⟨b, off, none⟩ → w.heap.size + 4 ≤ b) ∧ Below w.heap.size w w' := by
  obtain ⟨h1, h2, h3, h4, h5, h6, h7, h8⟩ := okG_iff.1 hG
  have HI : Hid (Ints w ad len vs) := hi
  have HPF : Hid (∀ w, Calls Tryz.prog 21 #[.int .i64 F, .int .i64 (n : Int)] w fun e w' => e = .returned (.int .i64 (pk F n)) ∧ w' = w) := fun w => pick_any F n w hF (by omega) (by omega)
  have HPV : Hid (∀ (q : Nat) w, Calls Tryz.prog 21 #[.int .i64 (vs.getD q 0), .int .i64 (L + 1)] w fun e w' => e = .returned (.int .i64 (pk (vs.getD q 0) (L + 1))) ∧ w' = w) := fun q w => by
    refine pick_any (vs.getD q 0) (L + 1) w ?_ (by omega) (by omega)
    rw [List.getD_eq_getElem?_getD]
    cases hq : vs[q]? with
    | none => exact ⟨by decide, by decide⟩
    | some v => exact hv v (List.mem_of_getElem? hq)
  have HPK : Hid (∀ w, Calls Tryz.prog 21 #[.int .i64 K, .int .i64 2] w fun e w' => e = .returned (.int .i64 (pk K 2)) ∧ w' = w) := fun w => pick_any K 2 w hK (by omega) (by omega)
  have HPO : Hid (∀ w, Calls Tryz.prog 21 #[.int .i64 O, .int .i64 (n : Int)] w fun e w' => e = .returned (.int .i64 (pk O n)) ∧ w' = w) := fun w => pick_any O n w hO (by omega) (by omega)
  have HPS : Hid (∀ w, Calls Tryz.prog 21 #[.int .i64 S, .int .i64 L] w fun e w' => e = .returned (.int .i64 (pk S L)) ∧ w' = w) := fun w => pick_any S L w hS (by omega) (by omega)
  have HPL : Hid (∀ w, Calls Tryz.prog 21 #[.int .i64 Lw, .int .i64 W] w fun e w' => e = .returned (.int .i64 (pk Lw W)) ∧ w' = w) := fun w => pick_any Lw W w hLw (by omega) (by omega)
  have bF := pk_bd F n (by omega)
  have bK := pk_bd K 2 (by omega)
  have bO := pk_bd O n (by omega)
  have bS := pk_bd S L (by omega)
  have bL := pk_bd Lw W (by omega)
  generalize pk F n = xF at *
  generalize pk K 2 = xK at *
  generalize pk O n = xO at *
  generalize pk S L = xS at *
  generalize pk Lw W = xL at *
  clear hK hF hO hS hLw hv hi hG
  go_enter Tryz.func84, Tryz.ntmps84
  go_wp2_with fail
  refine (HPF.out _).mono ?_
  rintro e w' ⟨rfl, rfl⟩
  go_wp2_with fail
  have HB0 := frb_start w n W B L K F O S Lw (.slice ad len cap) body (.int .i64 2) (.int .i64 xF) (.int .i64 0) (.int .i64 0) (.int .i64 0) (.slice none 0 0) (.string ⟨#[]⟩) #[.int .i64 0, .int .i64 0, .int .i64 0, .int .i64 0, .int .i64 0, .slice none 0 0, .string ⟨#[]⟩] 26 45 45 45 rfl
  have HBS : Hid _ := HB0
  clear HB0
  obtain ⟨i0, hi, hz0, hz1, hz2⟩ := info_parts Tryz.infoInt
  go_loopw [6] (fun c wr => ∃ (k : Nat) (v : Value), k ≤ n ∧ c = .int .i64 k ∧ OwnI wr (w.heap.size + 4) v (fvec vs L k) ∧ FrB w.heap.size wr n W B L K F O S Lw (.slice ad len cap) body (.int .i64 2) (.int .i64 xF) (.int .i64 0) (.int .i64 0) (.int .i64 0) v (.string ⟨#[]⟩) ∧ Below w.heap.size w wr) (fun c _ => n - (intOf c).toNat)
  case atStart => exact ⟨0, .slice none 0 0, Nat.zero_le _, rfl, World.ownsRow_nil _ _ _ _, HBS.out, bthen (below2 _ _ _) (below2 _ _ _)⟩
  case round =>
    obtain ⟨k, v, hkn, rfl, hown, htab, hbel⟩ := hrel
    obtain ⟨av, cv, hve⟩ := hown.shape
    rw [fvec_length] at hve
    subst hve
    have HOwn : Hid (OwnI wr (w.heap.size + 4) (.slice av k cv) (fvec vs L k)) := hown
    have HTab : Hid (FrB w.heap.size wr n W B L K F O S Lw (.slice ad len cap) body (.int .i64 2) (.int .i64 xF) (.int .i64 0) (.int .i64 0) (.int .i64 0) (.slice av k cv) (.string ⟨#[]⟩)) := htab
    have HBel : Hid (Below w.heap.size w wr) := hbel
    have hzz : w.heap.size + 3 < wr.heap.size := htab.g.z
    obtain ⟨c0, c1, c2, c3, ⟨f0, f1, f2, f3, f4, f5, f6, _⟩, _, ⟨e0, e1, e2, e3, e4, e5, e6, _⟩, ef⟩ := htab
    clear hown hbel
    by_cases hlt : k < n
    · have HAt : Hid (∀ x, Below wr.heap.size wr x → Calls Tryz.prog 45 #[.slice ad len cap, .int .i64 (k : Int)] x fun e w' => e = .returned (.int .i64 (vs.getD k 0)) ∧ w' = x) := fun x hx => at_any ad len cap vs k x (HI.out.below (bthen HBel.out hx))
      have HV : Hid (fvec vs L (k + 1) = fvec vs L k ++ [pk (vs.getD k 0) (L + 1)]) := fvec_succ vs L k
      have HP : Hid _ := HPV.out k
      have hyb := pk_bd (vs.getD k 0) (L + 1) (by omega)
      generalize pk (vs.getD k 0) (L + 1) = y at *
      generalize vs.getD k 0 = yy at *
      go_wp2_with fail
      go_quiet (first | (go_at_call 45; exact Calls.quiet_of_same (HAt.out _ (below_drewN (Below.refl _ _) _))) | (go_at_call 21; exact Calls.quiet_of_same (HP.out _)))
      have HOX : Hid (OwnI (wr.drewN nq) (w.heap.size + 4) (.slice av k cv) (fvec vs L k)) := HOwn.out
      have HTX : Hid (FrB w.heap.size (wr.drewN nq) n W B L K F O S Lw (.slice ad len cap) body (.int .i64 2) (.int .i64 xF) (.int .i64 0) (.int .i64 0) (.int .i64 0) (.slice av k cv) (.string ⟨#[]⟩)) := HTab.out.below (c := wr.heap.size) (below_drewN (Below.refl _ _) nq) hzz
      have HBX : Hid (Below w.heap.size w (wr.drewN nq)) := below_drewN HBel.out nq
      have hzx : w.heap.size + 3 < (wr.drewN nq).heap.size := hzz
      generalize wr.drewN nq = X at *
      clear c0 c1 c2 c3 f0 f1 f2 f3 f4 f5 f6 e0 e1 e2 e3 e4 e5 e6 ef
      have hTX := HTX.out
      obtain ⟨c0, c1, c2, c3, ⟨f0, f1, f2, f3, f4, f5, f6, _⟩, _, ⟨e0, e1, e2, e3, e4, e5, e6, _⟩, ef⟩ := hTX
      have HLen : Hid ((fvec vs L k).length = k) := fvec_length vs L k
      go_wp2_with (at_builtin; refine wpList_append_own _ rfl (.tmp 30) (.tmp 32) 34 rfl (w.heap.size + 4) 3 i0 (.int .i64 0) 1 8 Tryz.underlying34 hi hz0 hz1 hz2 rfl (by decide) _ _ _ rfl (HOX.out.alloc _) ⟨X.heap.size, 0, none⟩ 1 1 [.int .i64 y] rfl rfl ?c1 ?c2 ?c3 ?c4 ?c5 ?_)
      case c1 =>
        intro q u hq
        match q, hq with
        | 0, hq => simp at hq; subst hq; simp [Addr.add]
      case c2 => intro u hu; simp at hu; subst hu; rfl
      case c3 => rw [HLen.out]; unfold maxLen; omega
      case c4 => rw [HLen.out]; omega
      case c5 => simp; omega
      intro v' w5 hown' hgrow _
      have R := OwnI.snoc y _ HOX.out hown' hgrow (by omega)
      rw [← HV.out] at R
      obtain ⟨av', cv', hve⟩ := R.1.shape
      rw [fvec_length] at hve
      subst hve
      have HO5 : Hid (OwnI w5 (w.heap.size + 4) (.slice av' (k + 1) cv') (fvec vs L (k + 1))) := R.1
      have HB5 : Hid (Below (w.heap.size + 4) X w5) := R.2
      have HT5 : Hid _ := HTX.out.below R.2 (by omega)
      have hT5 := HT5.out
      clear hown' hgrow R c0 c1 c2 c3 f0 f1 f2 f3 f4 f5 f6 e0 e1 e2 e3 e4 e5 e6 ef
      obtain ⟨c0, c1, c2, c3, _, _, ⟨e0, e1, e2, e3, e4, e5, e6, ez⟩, ef⟩ := hT5
      go_wp2_with fail
      go_roundw
      case rel => exact ⟨k + 1, .slice av' (k + 1) cv', by omega, by go_num, HO5.out.other (by show w.heap.size + 3 < w.heap.size + 4; omega) _, HT5.out.put 5 _ (HT5.out.g.put5 _), (HBX.out.trans (HB5.out.mono (by omega))).setCell (by show w.heap.size ≤ w.heap.size + 3; omega) _⟩
      case measure => simp [intOf]; omega
    · have hkn' : k = n := by omega
      subst hkn'
      go_wp2_with fail
      refine (HPK.out _).mono ?_
      rintro e w0 ⟨rfl, rfl⟩
      clear HPK HPF HPV
      by_cases hx0 : xK = 0
      · subst hx0
        have HR := HTab.out.r
        obtain ⟨sr, sf, _⟩ := HR
        obtain ⟨u0, hu0⟩ := sr 0 (by omega)
        obtain ⟨u1, hu1⟩ := sr 1 (by omega)
        obtain ⟨u2, hu2⟩ := sr 2 (by omega)
        obtain ⟨u3, hu3⟩ := sr 3 (by omega)
        obtain ⟨u4, hu4⟩ := sr 4 (by omega)
        obtain ⟨u5, hu5⟩ := sr 5 (by omega)
        obtain ⟨u6, hu6⟩ := sr 6 (by omega)
        go_wp2_with fail
        obtain ⟨r0, r1, r2, r3, r4, r5, r6⟩ := Slots.seven HTab.out.r (.int .i64 2) (.int .i64 xF) (.int .i64 0) (.int .i64 0) (.int .i64 0) (.slice av k cv) (.string ⟨#[]⟩) _ rfl
        refine bodyPost_ret (v := .agg #[.int .i64 2, .int .i64 xF, .int .i64 0, .int .i64 0, .int .i64 0, .slice av k cv, .string ⟨#[]⟩]) (by simp [results, Tryz.results84, go_sem, r0, r1, r2, r3, r4, r5, r6]) rfl ⟨⟨2, xF, 0, 0, 0, av, cv, fvec vs L k, ⟨#[]⟩, rfl, ?_, ?_, ?_⟩, ?_⟩
        · exact ⟨bF.1, bF.2, by rw [fvec_length], fvec_mem (by omega), Or.inl ⟨rfl, rfl, rfl, rfl, rfl⟩⟩
        · obtain ⟨ad', cap', he, hin⟩ := (HOwn.out.set7 (b := w.heap.size + 2) (by omega) _ _ _ _ _ _ _).ints (fvec_length vs L k)
          cases he
          exact hin
        · intro b off he
          subst he
          exact HOwn.out.block b rfl
        · exact below_set7 HBel.out (by omega) _ _ _ _ _ _ _
      have hx1 : xK = 1 := by omega
      subst hx1
      have HT0 := HTab
      have HO0 := HOwn
      have HB0 := HBel
      go_wp2_with fail
      have HT1 : Hid (FrB w.heap.size (w0.setCell ⟨w.heap.size + 1 + 1 + 1, 0, none⟩ (.int .i64 1)) k W B L K F O S Lw (.slice ad len cap) body (.int .i64 1) (.int .i64 xF) (.int .i64 0) (.int .i64 0) (.int .i64 0) (.slice av k cv) (.string ⟨#[]⟩)) := HT0.out.put 0 _ (HT0.out.g.put0 _)
      have HO1 : Hid (OwnI (w0.setCell ⟨w.heap.size + 1 + 1 + 1, 0, none⟩ (.int .i64 1)) (w.heap.size + 4) (.slice av k cv) (fvec vs L k)) := HO0.out.other (by show w.heap.size + 3 < w.heap.size + 4; omega) _
      have HB1 : Hid (Below w.heap.size w (w0.setCell ⟨w.heap.size + 1 + 1 + 1, 0, none⟩ (.int .i64 1))) := HB0.out.setCell (by show w.heap.size ≤ w.heap.size + 3; omega) _
      generalize w0.setCell ⟨w.heap.size + 1 + 1 + 1, 0, none⟩ (.int .i64 1) = X1 at *
      clear c0 c1 c2 c3 f0 f1 f2 f3 f4 f5 f6 e0 e1 e2 e3 e4 e5 e6 ef
      have hTX := HT1.out
      obtain ⟨c0, c1, c2, c3, ⟨f0, f1, f2, f3, f4, f5, f6, _⟩, _, ⟨e0, e1, e2, e3, e4, e5, e6, _⟩, ef⟩ := hTX
      refine (HPO.out _).mono ?_
      rintro e w1 ⟨rfl, rfl⟩
      go_wp2_with fail
      have HT2 : Hid (FrB w.heap.size (w1.setCell ⟨w.heap.size + 1 + 1 + 1, 2, none⟩ (.int .i64 xO)) k W B L K F O S Lw (.slice ad len cap) body (.int .i64 1) (.int .i64 xF) (.int .i64 xO) (.int .i64 0) (.int .i64 0) (.slice av k cv) (.string ⟨#[]⟩)) := HT1.out.put 2 _ (HT1.out.g.put2 _)
      have HO2 : Hid (OwnI (w1.setCell ⟨w.heap.size + 1 + 1 + 1, 2, none⟩ (.int .i64 xO)) (w.heap.size + 4) (.slice av k cv) (fvec vs L k)) := HO1.out.other (by show w.heap.size + 3 < w.heap.size + 4; omega) _
      have HB2 : Hid (Below w.heap.size w (w1.setCell ⟨w.heap.size + 1 + 1 + 1, 2, none⟩ (.int .i64 xO))) := HB1.out.setCell (by show w.heap.size ≤ w.heap.size + 3; omega) _
      generalize w1.setCell ⟨w.heap.size + 1 + 1 + 1, 2, none⟩ (.int .i64 xO) = X2 at *
      clear c0 c1 c2 c3 f0 f1 f2 f3 f4 f5 f6 e0 e1 e2 e3 e4 e5 e6 ef
      have hTX := HT2.out
      obtain ⟨c0, c1, c2, c3, ⟨f0, f1, f2, f3, f4, f5, f6, _⟩, _, ⟨e0, e1, e2, e3, e4, e5, e6, _⟩, ef⟩ := hTX
      refine (HPS.out _).mono ?_
      rintro e w2 ⟨rfl, rfl⟩
      go_wp2_with fail
      have HT3 : Hid (FrB w.heap.size (w2.setCell ⟨w.heap.size + 1 + 1 + 1, 3, none⟩ (.int .i64 (1 + xS))) k W B L K F O S Lw (.slice ad len cap) body (.int .i64 1) (.int .i64 xF) (.int .i64 xO) (.int .i64 (1 + xS)) (.int .i64 0) (.slice av k cv) (.string ⟨#[]⟩)) := HT2.out.put 3 _ (HT2.out.g.put3 _)
      have HO3 : Hid (OwnI (w2.setCell ⟨w.heap.size + 1 + 1 + 1, 3, none⟩ (.int .i64 (1 + xS))) (w.heap.size + 4) (.slice av k cv) (fvec vs L k)) := HO2.out.other (by show w.heap.size + 3 < w.heap.size + 4; omega) _
      have HB3 : Hid (Below w.heap.size w (w2.setCell ⟨w.heap.size + 1 + 1 + 1, 3, none⟩ (.int .i64 (1 + xS)))) := HB2.out.setCell (by show w.heap.size ≤ w.heap.size + 3; omega) _
      generalize w2.setCell ⟨w.heap.size + 1 + 1 + 1, 3, none⟩ (.int .i64 (1 + xS)) = X3 at *
      clear c0 c1 c2 c3 f0 f1 f2 f3 f4 f5 f6 e0 e1 e2 e3 e4 e5 e6 ef
      have hTX := HT3.out
      obtain ⟨c0, c1, c2, c3, ⟨f0, f1, f2, f3, f4, f5, f6, _⟩, _, ⟨e0, e1, e2, e3, e4, e5, e6, _⟩, ef⟩ := hTX
      refine (HPL.out _).mono ?_
      rintro e w3 ⟨rfl, rfl⟩
      obtain ⟨o, rfl⟩ : ∃ o : Nat, xO = o := ⟨xO.toNat, by omega⟩
      obtain ⟨bn, rfl⟩ : ∃ bn : Nat, B = bn := ⟨B.toNat, by omega⟩
      have HOR : Hid (w3.ownsRow (w.heap.size + 4) 3 1 (.slice av k cv) k ((fvec vs L k).map (Value.int .i64))) := by
        have := HO3.out
        unfold OwnI at this
        rw [fvec_length] at this
        exact this
      obtain ⟨g, rfl, hgb⟩ : ∃ g, av = some ⟨g, 0, none⟩ ∧ w.heap.size + 4 ≤ g := by
        rcases HOR.out.2 with ⟨_, h0⟩ | ⟨g, cap', cur, he, hg, _⟩
        · omega
        · cases he
          exact ⟨g, rfl, hg⟩
      have hok : o < k := by omega
      have hce : w3.cell? ⟨g, o, none⟩ = some (.int .i64 ((fvec vs L k).getD o 0)) := by
        have h0 : o < (fvec vs L k).length := by rw [fvec_length]; exact hok
        have hc := World.ownsRow.cellAt HOR.out o (by omega)
        rw [hc, List.getElem?_map, List.getElem?_eq_getElem h0, List.getD_eq_getElem?_getD, List.getElem?_eq_getElem h0]
        rfl
      have hfe : w3.frozen? ⟨g, o, none⟩ = false := World.ownsRow.frozenAt HOR.out o
      have hoki : (o : Int) < (k : Int) := by omega
      generalize (fvec vs L k).getD o 0 = yo at *
      by_cases hcmp : 1 + xS < 1 + xL
      · have hc2 : decide (1 + xS < 1 + xL) = true := by simp [hcmp]
        go_wp2_with fail
        have HT4 : Hid (FrB w.heap.size (w3.setCell ⟨w.heap.size + 1 + 1 + 1, 4, none⟩ (.int .i64 0)) k W bn L K F O S Lw (.slice ad len cap) body (.int .i64 1) (.int .i64 xF) (.int .i64 (o : Int)) (.int .i64 (1 + xS)) (.int .i64 0) (.slice (some ⟨g, 0, none⟩) k cv) (.string ⟨#[]⟩)) := HT3.out.put 4 _ (HT3.out.g.put4 _)
        have HR4 : Hid ((w3.setCell ⟨w.heap.size + 1 + 1 + 1, 4, none⟩ (.int .i64 0)).ownsRow (w.heap.size + 4) 3 1 (.slice (some ⟨g, 0, none⟩) k cv) k ((fvec vs L k).map (Value.int .i64))) := ownsRow_setCell_below HOR.out (by show w.heap.size + 3 < w.heap.size + 4; omega) _
        have HB4 : Hid (Below w.heap.size w (w3.setCell ⟨w.heap.size + 1 + 1 + 1, 4, none⟩ (.int .i64 0))) := HB3.out.setCell (by show w.heap.size ≤ w.heap.size + 3; omega) _
        generalize w3.setCell ⟨w.heap.size + 1 + 1 + 1, 4, none⟩ (.int .i64 0) = X4 at *
        have HO5 : Hid (OwnI (X4.setCell ⟨g, o, none⟩ (.int .i64 (1 + xS - 1))) (w.heap.size + 4) (.slice (some ⟨g, 0, none⟩) k cv) ((fvec vs L k).set o (1 + xS - 1))) := by
          have st := World.ownsRow.stored HR4.out o (.int .i64 (1 + xS - 1))
          show OwnI _ _ _ _
          unfold OwnI
          rw [List.length_set, fvec_length, List.map_set]
          exact st.1
        have HT5 : Hid (FrB w.heap.size (X4.setCell ⟨g, o, none⟩ (.int .i64 (1 + xS - 1))) k W bn L K F O S Lw (.slice ad len cap) body (.int .i64 1) (.int .i64 xF) (.int .i64 (o : Int)) (.int .i64 (1 + xS)) (.int .i64 0) (.slice (some ⟨g, 0, none⟩) k cv) (.string ⟨#[]⟩)) := HT4.out.below (c := w.heap.size + 4) ((Below.refl _ _).setCell hgb _) (by omega)
        have HB5 : Hid (Below w.heap.size w (X4.setCell ⟨g, o, none⟩ (.int .i64 (1 + xS - 1)))) := HB4.out.setCell (by show w.heap.size ≤ g; omega) _
        generalize X4.setCell ⟨g, o, none⟩ (.int .i64 (1 + xS - 1)) = X5 at *
        refine (upTo_any body bn X5).mono ?_
        rintro e w4 ⟨rfl, rfl⟩
        have hbsz := upT_size body bn
        generalize upT body bn = bd at *
        clear c0 c1 c2 c3 f0 f1 f2 f3 f4 f5 f6 e0 e1 e2 e3 e4 e5 e6 ef hce hfe
        have hTX := HT5.out
        obtain ⟨c0, c1, c2, c3, ⟨f0, f1, f2, f3, f4, f5, f6, _⟩, ⟨sr, sf, _⟩, ⟨e0, e1, e2, e3, e4, e5, e6, _⟩, ef⟩ := hTX
        obtain ⟨u0, hu0⟩ := sr 0 (by omega)
        obtain ⟨u1, hu1⟩ := sr 1 (by omega)
        obtain ⟨u2, hu2⟩ := sr 2 (by omega)
        obtain ⟨u3, hu3⟩ := sr 3 (by omega)
        obtain ⟨u4, hu4⟩ := sr 4 (by omega)
        obtain ⟨u5, hu5⟩ := sr 5 (by omega)
        obtain ⟨u6, hu6⟩ := sr 6 (by omega)
        have HT6 : Hid (FrB w.heap.size (w4.setCell ⟨w.heap.size + 1 + 1 + 1, 6, none⟩ (.string bd)) k W bn L K F O S Lw (.slice ad len cap) body (.int .i64 1) (.int .i64 xF) (.int .i64 (o : Int)) (.int .i64 (1 + xS)) (.int .i64 0) (.slice (some ⟨g, 0, none⟩) k cv) (.string bd)) := HT5.out.put 6 _ (HT5.out.g.put6 _)
        go_wp2_with fail
        obtain ⟨r0, r1, r2, r3, r4, r5, r6⟩ := Slots.seven HT6.out.r (.int .i64 1) (.int .i64 xF) (.int .i64 (o : Int)) (.int .i64 (1 + xS)) (.int .i64 0) (.slice (some ⟨g, 0, none⟩) k cv) (.string bd) _ rfl
        refine bodyPost_ret (v := .agg #[.int .i64 1, .int .i64 xF, .int .i64 (o : Int), .int .i64 (1 + xS), .int .i64 0, .slice (some ⟨g, 0, none⟩) k cv, .string bd]) (by simp [results, Tryz.results84, go_sem, r0, r1, r2, r3, r4, r5, r6]) rfl ⟨⟨1, xF, o, 1 + xS, 0, some ⟨g, 0, none⟩, cv, (fvec vs L k).set o (1 + xS - 1), bd, rfl, ?_, ?_, ?_⟩, ?_⟩
        · refine ⟨bF.1, bF.2, by rw [List.length_set, fvec_length], ?_, Or.inr ⟨rfl, by omega, by omega, by omega, by omega, by omega, by omega, by omega, ?_, by omega⟩⟩
          · intro v hv
            rcases List.mem_or_eq_of_mem_set hv with hv | rfl
            · exact fvec_mem (by omega) v hv
            · omega
          · rw [show (o : Int).toNat = o by omega, List.getD_eq_getElem?_getD, List.getElem?_set_self (by rw [fvec_length]; exact hok)]
            rfl
        · obtain ⟨ad', cap', he, hin⟩ := ((HO5.out.other (a := ⟨w.heap.size + 1 + 1 + 1, 6, none⟩) (by show w.heap.size + 3 < w.heap.size + 4; omega) (.string bd)).set7 (b := w.heap.size + 2) (by omega) _ _ _ _ _ _ _).ints (n := k) (by rw [List.length_set, fvec_length])
          cases he
          exact hin
        · intro b off he
          cases he
          exact hgb
        · exact below_set7 (HB5.out.setCell (by show w.heap.size ≤ w.heap.size + 3; omega) _) (by omega) _ _ _ _ _ _ _
      · go_wp2_with fail
        have HT4 : Hid (FrB w.heap.size (w3.setCell ⟨w.heap.size + 1 + 1 + 1, 4, none⟩ (.int .i64 (1 + xS - (1 + xL)))) k W bn L K F O S Lw (.slice ad len cap) body (.int .i64 1) (.int .i64 xF) (.int .i64 (o : Int)) (.int .i64 (1 + xS)) (.int .i64 (1 + xS - (1 + xL))) (.slice (some ⟨g, 0, none⟩) k cv) (.string ⟨#[]⟩)) := HT3.out.put 4 _ (HT3.out.g.put4 _)
        have HR4 : Hid ((w3.setCell ⟨w.heap.size + 1 + 1 + 1, 4, none⟩ (.int .i64 (1 + xS - (1 + xL)))).ownsRow (w.heap.size + 4) 3 1 (.slice (some ⟨g, 0, none⟩) k cv) k ((fvec vs L k).map (Value.int .i64))) := ownsRow_setCell_below HOR.out (by show w.heap.size + 3 < w.heap.size + 4; omega) _
        have HB4 : Hid (Below w.heap.size w (w3.setCell ⟨w.heap.size + 1 + 1 + 1, 4, none⟩ (.int .i64 (1 + xS - (1 + xL))))) := HB3.out.setCell (by show w.heap.size ≤ w.heap.size + 3; omega) _
        generalize w3.setCell ⟨w.heap.size + 1 + 1 + 1, 4, none⟩ (.int .i64 (1 + xS - (1 + xL))) = X4 at *
        have HO5 : Hid (OwnI (X4.setCell ⟨g, o, none⟩ (.int .i64 (1 + xS - 1))) (w.heap.size + 4) (.slice (some ⟨g, 0, none⟩) k cv) ((fvec vs L k).set o (1 + xS - 1))) := by
          have st := World.ownsRow.stored HR4.out o (.int .i64 (1 + xS - 1))
          show OwnI _ _ _ _
          unfold OwnI
          rw [List.length_set, fvec_length, List.map_set]
          exact st.1
        have HT5 : Hid (FrB w.heap.size (X4.setCell ⟨g, o, none⟩ (.int .i64 (1 + xS - 1))) k W bn L K F O S Lw (.slice ad len cap) body (.int .i64 1) (.int .i64 xF) (.int .i64 (o : Int)) (.int .i64 (1 + xS)) (.int .i64 (1 + xS - (1 + xL))) (.slice (some ⟨g, 0, none⟩) k cv) (.string ⟨#[]⟩)) := HT4.out.below (c := w.heap.size + 4) ((Below.refl _ _).setCell hgb _) (by omega)
        have HB5 : Hid (Below w.heap.size w (X4.setCell ⟨g, o, none⟩ (.int .i64 (1 + xS - 1)))) := HB4.out.setCell (by show w.heap.size ≤ g; omega) _
        generalize X4.setCell ⟨g, o, none⟩ (.int .i64 (1 + xS - 1)) = X5 at *
        refine (upTo_any body bn X5).mono ?_
        rintro e w4 ⟨rfl, rfl⟩
        have hbsz := upT_size body bn
        generalize upT body bn = bd at *
        clear c0 c1 c2 c3 f0 f1 f2 f3 f4 f5 f6 e0 e1 e2 e3 e4 e5 e6 ef hce hfe
        have hTX := HT5.out
        obtain ⟨c0, c1, c2, c3, ⟨f0, f1, f2, f3, f4, f5, f6, _⟩, ⟨sr, sf, _⟩, ⟨e0, e1, e2, e3, e4, e5, e6, _⟩, ef⟩ := hTX
        obtain ⟨u0, hu0⟩ := sr 0 (by omega)
        obtain ⟨u1, hu1⟩ := sr 1 (by omega)
        obtain ⟨u2, hu2⟩ := sr 2 (by omega)
        obtain ⟨u3, hu3⟩ := sr 3 (by omega)
        obtain ⟨u4, hu4⟩ := sr 4 (by omega)
        obtain ⟨u5, hu5⟩ := sr 5 (by omega)
        obtain ⟨u6, hu6⟩ := sr 6 (by omega)
        have HT6 : Hid (FrB w.heap.size (w4.setCell ⟨w.heap.size + 1 + 1 + 1, 6, none⟩ (.string bd)) k W bn L K F O S Lw (.slice ad len cap) body (.int .i64 1) (.int .i64 xF) (.int .i64 (o : Int)) (.int .i64 (1 + xS)) (.int .i64 (1 + xS - (1 + xL))) (.slice (some ⟨g, 0, none⟩) k cv) (.string bd)) := HT5.out.put 6 _ (HT5.out.g.put6 _)
        go_wp2_with fail
        obtain ⟨r0, r1, r2, r3, r4, r5, r6⟩ := Slots.seven HT6.out.r (.int .i64 1) (.int .i64 xF) (.int .i64 (o : Int)) (.int .i64 (1 + xS)) (.int .i64 (1 + xS - (1 + xL))) (.slice (some ⟨g, 0, none⟩) k cv) (.string bd) _ rfl
        refine bodyPost_ret (v := .agg #[.int .i64 1, .int .i64 xF, .int .i64 (o : Int), .int .i64 (1 + xS), .int .i64 (1 + xS - (1 + xL)), .slice (some ⟨g, 0, none⟩) k cv, .string bd]) (by simp [results, Tryz.results84, go_sem, r0, r1, r2, r3, r4, r5, r6]) rfl ⟨⟨1, xF, o, 1 + xS, (1 + xS - (1 + xL)), some ⟨g, 0, none⟩, cv, (fvec vs L k).set o (1 + xS - 1), bd, rfl, ?_, ?_, ?_⟩, ?_⟩
        · refine ⟨bF.1, bF.2, by rw [List.length_set, fvec_length], ?_, Or.inr ⟨rfl, by omega, by omega, by omega, by omega, by omega, by omega, by omega, ?_, by omega⟩⟩
          · intro v hv
            rcases List.mem_or_eq_of_mem_set hv with hv | rfl
            · exact fvec_mem (by omega) v hv
            · omega
          · rw [show (o : Int).toNat = o by omega, List.getD_eq_getElem?_getD, List.getElem?_set_self (by rw [fvec_length]; exact hok)]
            rfl
        · obtain ⟨ad', cap', he, hin⟩ := ((HO5.out.other (a := ⟨w.heap.size + 1 + 1 + 1, 6, none⟩) (by show w.heap.size + 3 < w.heap.size + 4; omega) (.string bd)).set7 (b := w.heap.size + 2) (by omega) _ _ _ _ _ _ _).ints (n := k) (by rw [List.length_set, fvec_length])
          cases he
          exact hin
        · intro b off he
          cases he
          exact hgb
        · exact below_set7 (HB5.out.setCell (by show w.heap.size ≤ w.heap.size + 3; omega) _) (by omega) _ _ _ _ _ _ _
end Go.Proofs.YtabecbjfamphbaaGreatDoor

/- What the law Reread asks of Encode, Decode and turned. -/
namespace Go.Proofs.YtabecbjfamphbaaGreatDoor
open Go.RowKit Go.Stop Go.Extern

theorem frame_size {n : Nat} {W B L K F O S Lw : Int} {vs : List Int} {body : ByteArray} (hG : okG n W B L = true) (hf : Fits n W B L K F O S Lw vs body) : 9 + 2 * n ≤ (txt (frameBytes n K F O S Lw vs body)).size ∧ (txt (frameBytes n K F O S Lw vs body)).size ≤ 100 := by
  obtain ⟨h1, h2, h3, h4, h5, h6, h7, h8⟩ := okG_iff.1 hG
  rcases hf.kind with ⟨rfl, _⟩ | ⟨rfl, _, _, _, _, _, _, _, _, hb⟩
  · have := (read_state hG hf).2.2.2.2
    omega
  · have := (read_data hG hf).2.2.2.2.2.2.2.2
    omega
/-- Encode of a right frame. -/
theorem enc_right (a0 a1 : Addr) (n : Nat) (W B L K F O S Lw : Int) (vs : List Int) (body : ByteArray) (hG : okG n W B L = true) (hf : Fits n W B L K F O S Lw vs body) (ad : Option Addr) (cap : Nat) (x : World) (hx : Sent x a0 a1) (hi : Ints x ad n vs) :
    Calls Tryz.prog 83 #[.agg #[.int .i64 (n : Int), .int .i64 W, .int .i64 B, .int .i64 L], .agg #[.int .i64 K, .int .i64 F, .int .i64 O, .int .i64 S, .int .i64 Lw, .slice ad n cap, .string body]] x
      fun e w' => e = .returned (.tuple #[.string (txt (frameBytes n K F O S Lw vs body)), .int .i64 0]) ∧ Below x.heap.size x w' := by
  obtain ⟨h1, h2, h3, h4, h5, h6, h7, h8⟩ := okG_iff.1 hG
  have hb := body_length hG hf
  have := hEncode_any a0 a1 n W B L K F O S Lw ad n cap body vs x hx hi (by unfold maxLen; omega) (by unfold maxLen; omega)
  have he : encR n W B L K F O S Lw vs body = (frameBytes n K F O S Lw vs body, 0) := by
    unfold encR
    rw [hG, of_fits hf]
    simp
  rw [he] at this
  exact this
theorem ba_nil {b : ByteArray} (h : b.size = 0) : b = ⟨#[]⟩ := ba_ext (List.eq_nil_of_length_eq_zero (by simpa using h))
/-- Decode of a right frame's bytes. -/
theorem dec_back (a0 a1 : Addr) (n : Nat) (W B L K F O S Lw : Int) (vs : List Int) (body : ByteArray) (hG : okG n W B L = true) (hf : Fits n W B L K F O S Lw vs body) (x : World) (hx : Sent x a0 a1) (hT : ErrT x) :
    Calls Tryz.prog 85 #[.agg #[.int .i64 (n : Int), .int .i64 W, .int .i64 B, .int .i64 L], .string (txt (frameBytes n K F O S Lw vs body))] x
      fun e w' => (∃ g, x.heap.size ≤ g ∧ e = .returned (.tuple #[.agg #[.int .i64 K, .int .i64 F, .int .i64 O, .int .i64 S, .int .i64 Lw, .slice (some ⟨g, 0, none⟩) n n, .string body], .int .i64 0, .int .i64 0]) ∧ RowI w' g vs) ∧ Below x.heap.size x w' := by
  have hsz := frame_size hG hf
  have hd := hDecode_yes a0 a1 n W B L (txt (frameBytes n K F O S Lw vs body)) x hx hT hG (by unfold maxLen; omega)
  rcases hf.kind with ⟨rfl, rfl, rfl, rfl, hb⟩ | ⟨rfl, _⟩
  · obtain ⟨hr, h2, h4, hv, _⟩ := read_state hG hf
    refine hd.mono ?_
    rintro e w' ⟨⟨fv, rfl, -, hy⟩, hbel⟩
    rw [hr]
    rcases hy hr with ⟨_, ⟨g, hg, rfl, hrow⟩⟩ | ⟨c, _⟩
    · rw [hv] at hrow
      rw [h4, ba_nil hb]
      exact ⟨⟨g, hg, rfl, hrow⟩, hbel⟩
    · omega
  · obtain ⟨hr, h2, h4, h5, h6, h8, hv, hbd, _⟩ := read_data hG hf
    refine hd.mono ?_
    rintro e w' ⟨⟨fv, rfl, -, hy⟩, hbel⟩
    rw [hr]
    rcases hy hr with ⟨c, _⟩ | ⟨_, ⟨g, hg, rfl, hrow⟩⟩
    · omega
    · rw [hv] at hrow
      rw [h4, h5, h6, h8, hbd]
      exact ⟨⟨g, hg, rfl, hrow⟩, hbel⟩
/-- Decode of what is no frame. -/
theorem dec_bad (a0 a1 : Addr) (n : Nat) (W B L : Int) (s : ByteArray) (hG : okG n W B L = true) (hs : s.size ≤ maxLen) (hr : rAll n W B L s ≠ none) (x : World) (hx : Sent x a0 a1) (hT : ErrT x) :
    Calls Tryz.prog 85 #[.agg #[.int .i64 (n : Int), .int .i64 W, .int .i64 B, .int .i64 L], .string s] x
      fun e w' => (∃ p : Int, 0 ≤ p ∧ p ≤ s.size ∧ e = .returned (.tuple #[.agg #[.int .i64 0, .int .i64 0, .int .i64 0, .int .i64 0, .int .i64 0, .slice none 0 0, .string ⟨#[]⟩], .int .i64 p, .int .i64 5])) ∧ Below x.heap.size x w' := by
  refine (hDecode_yes a0 a1 n W B L s x hx hT hG hs).mono ?_
  rintro e w' ⟨⟨fv, rfl, hn, -⟩, hbel⟩
  have hp := placeOf_in (n := n) (W := W) (B := B) (L := L) (s := s) placeOf (fun _ => rfl) rfl rfl
  rw [hn hr, if_neg hr]
  exact ⟨⟨_, hp.1, hp.2, rfl⟩, hbel⟩
/-- A text is a frame's bytes, or none. -/
theorem dec_some {n : Nat} {W B L : Int} {s : ByteArray} (hr : rAll n W B L s = none) :
    ∃ K F O S Lw vs body, Fits n W B L K F O S Lw vs body ∧ txt (frameBytes n K F O S Lw vs body) = s := by
  rcases kind_of hr with k2 | k1
  · obtain ⟨hf, hb⟩ := back_state hr k2
    exact ⟨_, _, _, _, _, _, _, hf, by rw [hb]; exact ba_ext (txt_data _)⟩
  · obtain ⟨hf, hb⟩ := back_data hr k1
    exact ⟨_, _, _, _, _, _, _, hf, by rw [hb]; exact ba_ext (txt_data _)⟩
theorem turned_bad {n : Nat} {W B L : Int} {t : ByteArray} (hr : rAll n W B L t = none) {j : Nat} {x : UInt8} (hj : j < t.size) (hx : x ≠ t.data.toList.getD j 0) : rAll n W B L (txt (t.data.toList.set j x)) ≠ none := by
  have hs : rSeal n t = none := by
    unfold rAll at hr
    cases h : rSeal n t with
    | none => rfl
    | some y => rw [h] at hr; cases hr
  have h2 := turned_none hs hj hx
  unfold rAll
  cases h : rSeal n (txt (t.data.toList.set j x)) with
  | none => exact absurd h h2
  | some y => simp
theorem frame_read {n : Nat} {W B L K F O S Lw : Int} {vs : List Int} {body : ByteArray} (hG : okG n W B L = true) (hf : Fits n W B L K F O S Lw vs body) : rAll n W B L (txt (frameBytes n K F O S Lw vs body)) = none := by
  rcases hf.kind with ⟨rfl, _⟩ | ⟨rfl, _⟩
  · exact (read_state hG hf).1
  · exact (read_data hG hf).1
end Go.Proofs.YtabecbjfamphbaaGreatDoor
