/-
  The face's Decode and the reference's, side by side: the same answer at every text.
-/
import Derived.Test.YtabecbjfamphbaaDoorBk
import Derived.Test.YtabecbjfamphbaaDoorReMath
import Derived.Test.YtabecbjfamphbaaDoorLaws
namespace Go.Proofs.YtabecbjfamphbaaDoor
open Go.RowKit Go.Stop Go.Extern

theorem LRow.ints {w : World} {ao : Option Addr} {vs : List Int} {n : Nat} (h : LRow w ao vs) (hn : vs.length = n) : Ints w ao n vs := by
  rcases h with ⟨rfl, rfl⟩ | ⟨g, rfl, hr⟩
  · subst hn; exact ints_nil w
  · subst hn
    exact RowI.ints (ms := []) (by simpa using hr)
/-- What both answer. -/
structure Both (N W B L : Int) (s : ByteArray) (K F O S Lw : Int) (len : Nat) (vs : List Int) (body : ByteArray) (p k : Int) : Prop where
  len8 : len ≤ 8
  vlen : vs.length = len
  zero : len = 0 ∨ k = 0
  face : ∀ a0 a1 x, Sent x a0 a1 → ErrT x → Calls Tryd.prog 13 #[.agg #[.int .i64 N, .int .i64 W, .int .i64 B, .int .i64 L], .string s] x
    fun e w' => (∃ ao, e = .returned (.tuple #[.agg #[.int .i64 K, .int .i64 F, .int .i64 O, .int .i64 S, .int .i64 Lw, .slice ao len len, .string body], .int .i64 p, .int .i64 k]) ∧ LRow w' ao vs ∧ ∀ g, ao = some ⟨g, 0, none⟩ → x.heap.size ≤ g) ∧ Below x.heap.size x w'
  ref : ∀ x, Calls Tryd.prog 24 #[.agg #[.int .i64 N, .int .i64 W, .int .i64 B, .int .i64 L], .string s] x
    fun e w' => (∃ ad cap, e = .returned (.tuple #[.agg #[.int .i64 K, .int .i64 F, .int .i64 O, .int .i64 S, .int .i64 Lw, .slice ad len cap, .string body], .int .i64 p, .int .i64 k]) ∧ Ints w' ad len vs) ∧ Below x.heap.size x w'
theorem Got.row {w : World} {base n : Nat} {K F O S Lw : Int} {vs : List Int} {body : ByteArray} {fv : Value} (h : Got w base n K F O S Lw vs body fv) :
    ∃ ao, fv = .agg #[.int .i64 K, .int .i64 F, .int .i64 O, .int .i64 S, .int .i64 Lw, .slice ao n n, .string body] ∧ LRow w ao vs ∧ ∀ g, ao = some ⟨g, 0, none⟩ → base ≤ g := by
  obtain ⟨g, hg, rfl, hr⟩ := h.is
  exact ⟨_, rfl, Or.inr ⟨g, rfl, hr⟩, fun g' e => by cases e; exact hg⟩
theorem both_any (N W B L : Int) (s : ByteArray) (hs : s.size ≤ maxLen) : ∃ K F O S Lw len vs body p k, Both N W B L s K F O S Lw len vs body p k := by
  by_cases hG : okG N W B L = true
  · obtain ⟨h1, h2, -⟩ := okG_iff.1 hG
    obtain ⟨n, rfl⟩ : ∃ n : Nat, N = n := ⟨N.toNat, by omega⟩
    rcases says_all n W B L s with ⟨hr, hp⟩ | ⟨hr, hp⟩
    · rcases kind_of hr with k2 | k1
      · refine ⟨2, byt s 4, 0, 0, 0, n, vecOf s 5 n, ⟨#[]⟩, 0, 0, ⟨by omega, vecOf_length _ _ _, Or.inr rfl, ?_, ?_⟩⟩
        · intro a0 a1 x hx hT
          refine (hDecode_yes a0 a1 n W B L s x hx hT hG hs).mono ?_
          rintro e w' ⟨⟨fv, rfl, -, hy⟩, hb⟩
          rw [hr]
          rcases hy hr with ⟨_, hg⟩ | ⟨c, _⟩
          · obtain ⟨ao, rfl, hl, hg'⟩ := hg.row
            exact ⟨⟨ao, rfl, hl, hg'⟩, hb⟩
          · omega
        · intro x
          refine (refDecode_state n W B L s x hG hs (by omega) k2).mono ?_
          rintro e w' ⟨⟨v, rfl, ho⟩, hb⟩
          obtain ⟨ad, cap, rfl, hi⟩ := ho.ints (vecOf_length _ _ _)
          exact ⟨⟨ad, cap, rfl, hi⟩, hb⟩
      · refine ⟨1, byt s 4, byt s 5, val s 6 2, val s 8 2, n, vecOf s 10 n, s.extract (11 + 2 * n) (s.size - 4), 0, 0, ⟨by omega, vecOf_length _ _ _, Or.inr rfl, ?_, ?_⟩⟩
        · intro a0 a1 x hx hT
          refine (hDecode_yes a0 a1 n W B L s x hx hT hG hs).mono ?_
          rintro e w' ⟨⟨fv, rfl, -, hy⟩, hb⟩
          rw [hr]
          rcases hy hr with ⟨c, _⟩ | ⟨_, hg⟩
          · omega
          · obtain ⟨ao, rfl, hl, hg'⟩ := hg.row
            exact ⟨⟨ao, rfl, hl, hg'⟩, hb⟩
        · intro x
          refine (refDecode_data n W B L s x hG hs (by omega) k1).mono ?_
          rintro e w' ⟨⟨v, rfl, ho⟩, hb⟩
          obtain ⟨ad, cap, rfl, hi⟩ := ho.ints (vecOf_length _ _ _)
          exact ⟨⟨ad, cap, rfl, hi⟩, hb⟩
    · refine ⟨0, 0, 0, 0, 0, 0, [], ⟨#[]⟩, refAt n W B L s, 5, ⟨by omega, rfl, Or.inl rfl, ?_, ?_⟩⟩
      · intro a0 a1 x hx hT
        refine (hDecode_yes a0 a1 n W B L s x hx hT hG hs).mono ?_
        rintro e w' ⟨⟨fv, rfl, hn, -⟩, hb⟩
        have hne : ¬ rAll n W B L s = none := by rw [hr]; intro h; cases h
        rw [hn hne, hr]
        exact ⟨⟨none, rfl, Or.inl ⟨rfl, rfl⟩, fun g e => by cases e⟩, hb⟩
      · intro x
        refine (refDecode_bad n W B L s x hG hs hp).mono ?_
        rintro e w' ⟨rfl, hb⟩
        exact ⟨⟨none, 0, rfl, ints_nil _⟩, hb⟩
  · have hG' : okG N W B L = false := by simpa using hG
    refine ⟨0, 0, 0, 0, 0, 0, [], ⟨#[]⟩, 0, 1, ⟨by omega, rfl, Or.inl rfl, ?_, ?_⟩⟩
    · intro a0 a1 x hx hT
      refine (hDecode_no a0 a1 N W B L s x hx hT hG').mono ?_
      rintro e w' ⟨rfl, hb⟩
      exact ⟨⟨none, rfl, Or.inl ⟨rfl, rfl⟩, fun g e => by cases e⟩, hb⟩
    · intro x
      refine (refDecode_no N W B L s x hG').mono ?_
      rintro e w' ⟨rfl, hb⟩
      exact ⟨⟨none, 0, rfl, ints_nil _⟩, hb⟩
end Go.Proofs.YtabecbjfamphbaaDoor
