/-
  What the law Reread asks of Encode, Decode and turned.
-/
import Derived.Test.YtabecbjfamphbaaDoorFr
import Derived.Test.YtabecbjfamphbaaDoorTurned
import Derived.Test.YtabecbjfamphbaaDoorReMath
namespace Go.Proofs.YtabecbjfamphbaaDoor
open Go.RowKit Go.Stop Go.Extern

theorem frame_size {n : Nat} {W B L K F O S Lw : Int} {vs : List Int} {body : ByteArray} (hG : okG n W B L = true) (hf : Fits n W B L K F O S Lw vs body) : 9 + 2 * n ≤ (txt (frameBytes n K F O S Lw vs body)).size ∧ (txt (frameBytes n K F O S Lw vs body)).size ≤ 100 := by
  obtain ⟨h1, h2, h3, h4, h5, h6, h7, h8⟩ := okG_iff.1 hG
  rcases hf.kind with ⟨rfl, _⟩ | ⟨rfl, _, _, _, _, _, _, _, _, hb⟩
  · have := (read_state hG hf).2.2.2.2
    omega
  · have := (read_data hG hf).2.2.2.2.2.2.2.2
    omega
/-- Encode of a right frame. -/
theorem enc_right (a0 a1 : Addr) (n : Nat) (W B L K F O S Lw : Int) (vs : List Int) (body : ByteArray) (hG : okG n W B L = true) (hf : Fits n W B L K F O S Lw vs body) (ad : Option Addr) (cap : Nat) (x : World) (hx : Sent x a0 a1) (hi : Ints x ad n vs) :
    Calls Tryd.prog 12 #[.agg #[.int .i64 (n : Int), .int .i64 W, .int .i64 B, .int .i64 L], .agg #[.int .i64 K, .int .i64 F, .int .i64 O, .int .i64 S, .int .i64 Lw, .slice ad n cap, .string body]] x
      fun e w' => e = .returned (.tuple #[.string (txt (frameBytes n K F O S Lw vs body)), .int .i64 0]) ∧ Below x.heap.size x w' := by
  obtain ⟨h1, h2, h3, h4, h5, h6, h7, h8⟩ := okG_iff.1 hG
  have hb := body_length hG hf
  have := hEncode_any a0 a1 n W B L K F O S Lw ad n cap body vs x hx hi (by unfold maxLen; omega) (by unfold maxLen; omega)
  have he : encR n W B L K F O S Lw vs body = (frameBytes n K F O S Lw vs body, 0) := by
    unfold encR
    rw [hG, of_fits hf]
    simp
  rw [he] at this
  exact this
theorem ba_nil {b : ByteArray} (h : b.size = 0) : b = ⟨#[]⟩ := ba_ext (List.eq_nil_of_length_eq_zero (by simpa using h))
/-- Decode of a right frame's bytes. -/
theorem dec_back (a0 a1 : Addr) (n : Nat) (W B L K F O S Lw : Int) (vs : List Int) (body : ByteArray) (hG : okG n W B L = true) (hf : Fits n W B L K F O S Lw vs body) (x : World) (hx : Sent x a0 a1) (hT : ErrT x) :
    Calls Tryd.prog 13 #[.agg #[.int .i64 (n : Int), .int .i64 W, .int .i64 B, .int .i64 L], .string (txt (frameBytes n K F O S Lw vs body))] x
      fun e w' => (∃ g, x.heap.size ≤ g ∧ e = .returned (.tuple #[.agg #[.int .i64 K, .int .i64 F, .int .i64 O, .int .i64 S, .int .i64 Lw, .slice (some ⟨g, 0, none⟩) n n, .string body], .int .i64 0, .int .i64 0]) ∧ RowI w' g vs) ∧ Below x.heap.size x w' := by
  have hsz := frame_size hG hf
  have hd := hDecode_yes a0 a1 n W B L (txt (frameBytes n K F O S Lw vs body)) x hx hT hG (by unfold maxLen; omega)
  rcases hf.kind with ⟨rfl, rfl, rfl, rfl, hb⟩ | ⟨rfl, _⟩
  · obtain ⟨hr, h2, h4, hv, _⟩ := read_state hG hf
    refine hd.mono ?_
    rintro e w' ⟨⟨fv, rfl, -, hy⟩, hbel⟩
    rw [hr]
    rcases hy hr with ⟨_, ⟨g, hg, rfl, hrow⟩⟩ | ⟨c, _⟩
    · rw [hv] at hrow
      rw [h4, ba_nil hb]
      exact ⟨⟨g, hg, rfl, hrow⟩, hbel⟩
    · omega
  · obtain ⟨hr, h2, h4, h5, h6, h8, hv, hbd, _⟩ := read_data hG hf
    refine hd.mono ?_
    rintro e w' ⟨⟨fv, rfl, -, hy⟩, hbel⟩
    rw [hr]
    rcases hy hr with ⟨c, _⟩ | ⟨_, ⟨g, hg, rfl, hrow⟩⟩
    · omega
    · rw [hv] at hrow
      rw [h4, h5, h6, h8, hbd]
      exact ⟨⟨g, hg, rfl, hrow⟩, hbel⟩
/-- Decode of what is no frame. -/
theorem dec_bad (a0 a1 : Addr) (n : Nat) (W B L : Int) (s : ByteArray) (hG : okG n W B L = true) (hs : s.size ≤ maxLen) (hr : rAll n W B L s ≠ none) (x : World) (hx : Sent x a0 a1) (hT : ErrT x) :
    Calls Tryd.prog 13 #[.agg #[.int .i64 (n : Int), .int .i64 W, .int .i64 B, .int .i64 L], .string s] x
      fun e w' => (∃ p : Int, 0 ≤ p ∧ p ≤ s.size ∧ e = .returned (.tuple #[.agg #[.int .i64 0, .int .i64 0, .int .i64 0, .int .i64 0, .int .i64 0, .slice none 0 0, .string ⟨#[]⟩], .int .i64 p, .int .i64 5])) ∧ Below x.heap.size x w' := by
  refine (hDecode_yes a0 a1 n W B L s x hx hT hG hs).mono ?_
  rintro e w' ⟨⟨fv, rfl, hn, -⟩, hbel⟩
  have hp := placeOf_in (n := n) (W := W) (B := B) (L := L) (s := s) placeOf (fun _ => rfl) rfl rfl
  rw [hn hr, if_neg hr]
  exact ⟨⟨_, hp.1, hp.2, rfl⟩, hbel⟩
/-- A text is a frame's bytes, or none. -/
theorem dec_some {n : Nat} {W B L : Int} {s : ByteArray} (hr : rAll n W B L s = none) :
    ∃ K F O S Lw vs body, Fits n W B L K F O S Lw vs body ∧ txt (frameBytes n K F O S Lw vs body) = s := by
  rcases kind_of hr with k2 | k1
  · obtain ⟨hf, hb⟩ := back_state hr k2
    exact ⟨_, _, _, _, _, _, _, hf, by rw [hb]; exact ba_ext (txt_data _)⟩
  · obtain ⟨hf, hb⟩ := back_data hr k1
    exact ⟨_, _, _, _, _, _, _, hf, by rw [hb]; exact ba_ext (txt_data _)⟩
theorem turned_bad {n : Nat} {W B L : Int} {t : ByteArray} (hr : rAll n W B L t = none) {j : Nat} {x : UInt8} (hj : j < t.size) (hx : x ≠ t.data.toList.getD j 0) : rAll n W B L (txt (t.data.toList.set j x)) ≠ none := by
  have hs : rSeal n t = none := by
    unfold rAll at hr
    cases h : rSeal n t with
    | none => rfl
    | some y => rw [h] at hr; cases hr
  have h2 := turned_none hs hj hx
  unfold rAll
  cases h : rSeal n (txt (t.data.toList.set j x)) with
  | none => exact absurd h h2
  | some y => simp
theorem frame_read {n : Nat} {W B L K F O S Lw : Int} {vs : List Int} {body : ByteArray} (hG : okG n W B L = true) (hf : Fits n W B L K F O S Lw vs body) : rAll n W B L (txt (frameBytes n K F O S Lw vs body)) = none := by
  rcases hf.kind with ⟨rfl, _⟩ | ⟨rfl, _⟩
  · exact (read_state hG hf).1
  · exact (read_data hG hf).1
end Go.Proofs.YtabecbjfamphbaaDoor
