/-
  Texts that the proofs of this seat share, joined: Ki, Kj.
-/
import Derived.Test.YtabecbjfamphbaaGreatDoorB34
/- hearsaykeep: spoils. -/
namespace Go.Proofs.YtabecbjfamphbaaGreatDoor
open Go.RowKit Go.Stop Go.Extern

/-- A text that is not read is refused, and the net is as it was but for the count. -/
theorem spoil_net {g : Gr} {x : MNet} {p : Nat} {tx : ByteArray} (hr : rAll g.n g.W g.B g.L tx ≠ none) : MNet.deliverR g { x with bag := x.bag ++ [⟨(p : Int), tx⟩] } (x.bag.length : Int) = ⟨0, 5, x.refuse p⟩ := by
  have hat : MNet.at { x with bag := x.bag ++ [⟨(p : Int), tx⟩] } (x.bag.length : Int) = some ⟨(p : Int), tx⟩ := by
    unfold MNet.at
    rw [if_pos (by omega)]
    simp
  have hh : (x.nd p).hear g p tx = ⟨5, [], x.nd p⟩ := by
    unfold NS.hear
    cases h : rAll g.n g.W g.B g.L tx with
    | none => exact absurd h hr
    | some _ => rfl
  unfold MNet.deliverR
  rw [hat]
  simp only [MNet.deliver, Int.toNat_natCast, hh]
  rw [if_neg (by decide)]
  have e1 : (x.bag ++ [(⟨(p : Int), tx⟩ : Pk)]).eraseIdx x.bag.length ++ ([] : List Pk) = x.bag := by
    rw [List.append_nil, List.eraseIdx_append_of_length_le (Nat.le_refl _)]
    simp
  have e2 : (fun q => if q = p then x.nd p else x.nd q) = x.nd := by
    funext q
    split
    · rename_i h; rw [h]
    · rfl
  simp only [MNet.refuse, MNet.put, e1, e2]
theorem send_net {g : Gr} {x : MNet} {p : Nat} {tx : ByteArray} (hp : p < g.n) (ht : tx.size ≤ 100) : x.sendR g p tx = ⟨0, 0, { x with bag := x.bag ++ [⟨(p : Int), tx⟩] }⟩ := by
  unfold MNet.sendR
  rw [if_pos (show isNode g.n p = true from decide_eq_true ⟨by omega, by omega⟩), if_pos ht]
theorem ref_net {g : Gr} {x : MNet} {p : Nat} (hp : p < g.n) : x.refusedR g p = ⟨x.ref p, 0, x⟩ := by
  unfold MNet.refusedR
  rw [if_pos (show isNode g.n p = true from decide_eq_true ⟨by omega, by omega⟩)]
  rfl
theorem peek_net {x : MNet} {k : Nat} {t : Pk} (h : x.bag[k]? = some t) : x.peekR k = ⟨t, 0⟩ := by
  unfold MNet.peekR MNet.at
  rw [if_pos (by omega), Int.toNat_natCast, h]
theorem turn_bad {g : Gr} {s : ByteArray} {j : Nat} {b : UInt8} (h : rAll g.n g.W g.B g.L s = none) (hj : j < s.size) (hb : b ≠ s.data.toList.getD j 0) : rAll g.n g.W g.B g.L (txt (s.data.toList.set j b)) ≠ none := by
  have hs : rSeal g.n s = none := by
    unfold rAll at h
    cases e : rSeal g.n s with
    | none => rfl
    | some y => rw [e] at h; simp at h
  have h2 := turned_none hs hj hb
  unfold rAll
  cases e : rSeal g.n (txt (s.data.toList.set j b)) with
  | none => exact absurd e h2
  | some y => simp
set_option maxRecDepth 100000 in
set_option maxHeartbeats 1000000 in
theorem spoils_any (A : Nat → Addr) (base z rb : Nat) (g : Gr) (x : MNet) (sd : List Sd) (sn : List Sn) (k : Nat) (p : Nat) (tx : ByteArray) (i v : Int) (hi : I64 i) (hv : I64 v) (hg : g.Ok) (hx : x.Ok g) (hx' : (x.refuse p).Ok g) (hlen : x.bag.length + 1 ≤ 100000000000) (hp : p < g.n) (hk : x.bag[k]? = some ⟨(p : Int), tx⟩) (hr : rAll g.n g.W g.B g.L tx = none) (h0 : 0 < tx.size) (h100 : tx.size ≤ 100) (w : World) (hw : Sl w A base) (hz : base ≤ z) (h : CircZ z w rb g x sd sn) :
    Calls Tryz.prog 81 #[.pointer (some ⟨rb, 0, none⟩), .int .i64 k, .int .i64 i, .int .i64 v] w fun e w' => e = .returned (.bool true) ∧ CircZ z w' rb g (x.refuse p) sd sn ∧ Below z w w' := by
  obtain ⟨C, hC, hCz⟩ := h.how
  have HW : Hid _ := hw
  have HX : Hid _ := hx
  have HX2 : Hid _ := hx'
  have HC : Hid _ := hC
  have HCz : Hid _ := hCz
  have HK : Hid _ := hk
  have HR : Hid _ := hr
  have HP : Hid _ := netPeek A base C.fb g x C.Fx k w hw hC.net
  rw [peek_net hk] at HP
  have c4 := hC.c4
  have hn8 := hg.n.2
  clear hw hx hx' hC hCz hk hr h
  have hpi : (p : Int) < (g.n : Int) := by omega
  go_enter Tryz.func81, Tryz.ntmps81
  go_wp2_with fail
  refine (show Calls _ _ _ _ _ from HP.out).mono ?_
  rintro e w1 ⟨rfl, hb1⟩
  have HB1 : Hid (Below w.heap.size w w1) := hb1
  clear HP hb1 c4
  have hts : tx.toList.isEmpty = false := by
    cases e : tx.toList.isEmpty with
    | false => rfl
    | true =>
      have := (isEmpty_size tx).1 e
      omega
  have HB2 : Hid (Below w.heap.size w (w1.alloc (.cells #[.int .i64 (p : Int), .string tx] 109))) := bthen HB1.out (below1 _ _)
  have HBx : Hid (w.heap.size ≤ w1.heap.size ∧ w1.heap.size < (w1.alloc (.cells #[.int .i64 (p : Int), .string tx] 109)).heap.size ∧ (w1.alloc (.cells #[.int .i64 (p : Int), .string tx] 109)).cell? ⟨w1.heap.size, 0, none⟩ = some (.int .i64 (p : Int)) ∧ (w1.alloc (.cells #[.int .i64 (p : Int), .string tx] 109)).cell? ⟨w1.heap.size, 1, none⟩ = some (.string tx)) := by
    have e : ∀ i, (w1.alloc (.cells #[.int .i64 (p : Int), .string tx] 109)).cell? ⟨w1.heap.size, i, none⟩ = #[Value.int .i64 (p : Int), .string tx][i]? := fun i => cell_of_row _ _ i _ _ (0, 0) (heap_alloc_new _ _)
    exact ⟨HB1.out.size, by simp, e 0, e 1⟩
  go_wp2_with fail
  generalize w1.alloc (.cells #[.int .i64 (p : Int), .string tx] 109) = X at *
  generalize w1.heap.size = q at *
  obtain ⟨hqw, hqx, b0, b1⟩ := HBx.out
  have HCx : Hid (Circ X rb g x sd sn C) := HC.out.low HB2.out
  have HWx : Hid (Sl X A base) := HW.out.low HB2.out
  refine (heard_any A base z rb g x sd sn p hg HX.out hp X HWx.out ⟨C, HCx.out, HCz.out⟩).mono ?_
  rintro e w2 ⟨⟨c1, rfl, hc1, hr1⟩, hb2⟩
  have HB3 : Hid (Below X.heap.size X w2) := hb2
  have HR1 : Hid (RowI w2 c1 (cnts g.n (x.nd p).hs)) := hr1
  have HC1 : Hid (X.heap.size ≤ c1 ∧ c1 < w2.heap.size) := ⟨hc1, RowI.lt hr1⟩
  have d0 := (hb2.cell (p := ⟨q, 0, none⟩) hqx).trans b0
  have HD1 : Hid (w2.cell? ⟨q, 1, none⟩ = some (.string tx)) := (hb2.cell (p := ⟨q, 1, none⟩) hqx).trans b1
  have HC2 : Hid (Circ w2 rb g x sd sn C) := HCx.out.low hb2
  have HW2 : Hid (Sl w2 A base) := HWx.out.low hb2
  have e4 := HC2.out.c4
  have hqw2 : q < w2.heap.size := lt_of_cell d0
  clear hb2 hr1 hc1 b0 b1
  go_wp2_with fail
  have HRf : Hid (∀ y, Below w2.heap.size w2 y → Calls Tryz.prog 86 #[.pointer (some ⟨C.fb, 0, none⟩), .int .i64 (p : Int)] y fun e w' => e = .returned (.tuple #[.int .i64 (x.ref p), .int .i64 0]) ∧ Below y.heap.size y w') := fun y hy => by
    have h1 := netRefused A base C.fb g x C.Fx p y (HW2.out.low hy) (HC2.out.net.low hy)
    rw [ref_net hp] at h1
    exact h1
  go_region_held3 (fun y => y.cell? ⟨rb, 4, none⟩ = some (.pointer (some ⟨C.fb, 0, none⟩)) ∧ y.cell? ⟨q, 0, none⟩ = some (.int .i64 (p : Int))) (first | (exact ⟨e4, d0⟩) | (exact HK3.out) | go_keep) (first | (go_at_call 86; refine (show Calls _ _ _ _ _ from HRf.out _ (Below.refl _ _).drew).mono ?_; rintro e w3 ⟨rfl, hb3⟩; have HB4 : Hid (Below w2.heap.size w2 w3) := (Below.refl _ _).drew.trans hb3; have HK3 : Hid (w3.cell? ⟨rb, 4, none⟩ = some (.pointer (some ⟨C.fb, 0, none⟩)) ∧ w3.cell? ⟨q, 0, none⟩ = some (.int .i64 (p : Int))) := ⟨(HB4.out.cell (p := ⟨rb, 4, none⟩) (lt_of_cell e4)).trans e4, (HB4.out.cell (p := ⟨q, 0, none⟩) hqw2).trans d0⟩; clear hb3))
  clear e4 d0
  rename_i hHeld
  clear hHeld
  have HC3 : Hid (Circ w3 rb g x sd sn C) := HC2.out.low HB4.out
  have HW3 : Hid (Sl w3 A base) := HW2.out.low HB4.out
  obtain ⟨e4, d0⟩ := HK3.out
  have d1 := (HB4.out.cell (p := ⟨q, 1, none⟩) hqw2).trans HD1.out
  have hqw3 : q < w3.heap.size := lt_of_cell d0
  have hrw3 : rb < w3.heap.size := lt_of_cell e4
  go_wp2_with fail
  refine (netLeft C.fb g x C.Fx w3 HC3.out.net).mono ?_
  rintro e w4 ⟨rfl, hw4⟩
  subst hw4
  go_wp2_with fail
  have HTu : Hid (∀ y, Calls Tryz.prog 138 #[.string tx, .int .i64 i, .int .i64 v] y fun e w' => (∃ ty, e = .returned (.string ty) ∧ ty.size ≤ 100 ∧ rAll g.n g.W g.B g.L ty ≠ none) ∧ Below y.heap.size y w') := fun y => by
    refine (turned_any tx i v y h0 (by omega) hi hv).mono ?_
    rintro e w' ⟨⟨j, b, hj, hb, rfl⟩, hb5⟩
    refine ⟨⟨_, rfl, ?_, turn_bad HR.out hj hb⟩, hb5⟩
    rw [txt_size, List.length_set]
    simpa using h100
  have HZw : Hid (z ≤ w.heap.size) := (CircZ.mk ⟨C, HC.out, HCz.out⟩ : CircZ z w rb g x sd sn).le
  have HFl : Hid (∀ k, C.foot rb sd sn k → k < w.heap.size) := fun k hk => HC.out.lt hk
  have HFb : Hid (∀ k, C.Fx k → base ≤ k) := fun k hk => Nat.le_trans hz (HCz.out k (Or.inr (Or.inl hk)))
  have HSd : Hid (∀ ty y, ty.size ≤ 100 → Below w4.heap.size w4 y → Calls Tryz.prog 87 #[.pointer (some ⟨C.fb, 0, none⟩), .int .i64 (p : Int), .string ty] y fun e w' => e = .returned (.int .i64 0) ∧ NDid y w' C.fb g C.Fx { x with bag := x.bag ++ [⟨(p : Int), ty⟩] }) := fun ty y hty hy => by
    have h1 := netSend A base C.fb g x C.Fx p ty HX.out y (HW3.out.low hy) HFb.out (HC3.out.net.low hy)
    rw [send_net hp hty] at h1
    exact h1
  have HNf : Hid (¬ C.Fx rb ∧ ¬ C.Fx q) := ⟨fun h => (HC.out.sep rb h).1 rfl, fun h => by have := HFl.out q (Or.inr (Or.inl h)); omega⟩
  go_region_held3 (fun y => y.cell? ⟨rb, 4, none⟩ = some (.pointer (some ⟨C.fb, 0, none⟩)) ∧ y.cell? ⟨q, 0, none⟩ = some (.int .i64 (p : Int)) ∧ y.cell? ⟨q, 1, none⟩ = some (.string tx)) (first | (exact ⟨e4, d0, d1⟩) | (exact HK6.out) | (exact HK5.out) | go_keep)
    (first | (go_at_call 138; refine (show Calls _ _ _ _ _ from HTu.out _).mono ?_; rintro e w5 ⟨⟨ty, rfl, hty1, hty2⟩, hb5⟩; have HB5 : Hid (Below w4.heap.size w4 w5) := (Below.refl _ _).drew.trans hb5; have HK5 : Hid (w5.cell? ⟨rb, 4, none⟩ = some (.pointer (some ⟨C.fb, 0, none⟩)) ∧ w5.cell? ⟨q, 0, none⟩ = some (.int .i64 (p : Int)) ∧ w5.cell? ⟨q, 1, none⟩ = some (.string tx)) := ⟨(HB5.out.cell (p := ⟨rb, 4, none⟩) hrw3).trans e4, (HB5.out.cell (p := ⟨q, 0, none⟩) hqw3).trans d0, (HB5.out.cell (p := ⟨q, 1, none⟩) hqw3).trans d1⟩; have HTy : Hid (ty.size ≤ 100 ∧ rAll g.n g.W g.B g.L ty ≠ none) := ⟨hty1, hty2⟩; clear hb5 hty1 hty2) | (go_at_call 87; refine (show Calls _ _ _ _ _ from HSd.out _ _ HTy.out.1 HB5.out).mono ?_; rintro e w6 ⟨rfl, hd6⟩; have HD6 : Hid (NDid w5 w6 C.fb g C.Fx { x with bag := x.bag ++ [⟨(p : Int), ty⟩] }) := hd6; have HK6 : Hid (w6.cell? ⟨rb, 4, none⟩ = some (.pointer (some ⟨C.fb, 0, none⟩)) ∧ w6.cell? ⟨q, 0, none⟩ = some (.int .i64 (p : Int)) ∧ w6.cell? ⟨q, 1, none⟩ = some (.string tx)) := ⟨hd6.rest.cell HK5.out.1 HNf.out.1, hd6.rest.cell HK5.out.2.1 HNf.out.2, hd6.rest.cell HK5.out.2.2 HNf.out.2⟩; clear hd6))
  clear e4 d0 d1
  rename_i hHeld
  clear hHeld
  have HC5 : Hid (Circ w5 rb g x sd sn C) := HC3.out.low HB5.out
  obtain ⟨C6, hC6, hf6⟩ := HC5.out.did HD6.out
  have HC6 : Hid _ := hC6
  have HF6 : Hid _ := hf6
  have d0 := HK6.out.2.1
  have e4 := hC6.c4
  have HX1 : Hid (MNet.Ok g { x with bag := x.bag ++ [⟨(p : Int), ty⟩] }) := ⟨HX.out.nd, fun t ht => by
    rcases List.mem_append.1 ht with h | h
    · exact HX.out.bag t h
    · rw [List.mem_singleton] at h
      subst h
      exact ⟨⟨p, rfl, hp⟩, HTy.out.1⟩, HX.out.ref, by simpa using hlen⟩
  clear hC6 hf6 hqw3 hrw3
  go_wp2_with fail
  have HW6 : Hid (Sl w6 A base) := HD6.out.sl (HW3.out.low HB5.out) HFb.out
  have HSz : Hid (w.heap.size ≤ w5.heap.size ∧ q < w5.heap.size ∧ c1 < w5.heap.size ∧ w.heap.size ≤ c1) := by
    have h1 := HB5.out.size
    have h2 := HB4.out.size
    have h3 := HB3.out.size
    have h4 := HC1.out
    exact ⟨by omega, by omega, by omega, by omega⟩
  have HF6b : Hid (∀ k, C6.Fx k → base ≤ k) := fun k hk => by
    rcases HF6.out k (Or.inr (Or.inl hk)) with h | h
    · exact Nat.le_trans hz (HCz.out k h)
    · have := HSz.out.1
      have := HZw.out
      omega
  have HN6 : Hid (¬ C6.Fx q ∧ ¬ C6.Fx c1 ∧ ¬ C.Fx c1) := by
    have h1 := HSz.out
    refine ⟨fun hk => ?_, fun hk => ?_, fun hk => ?_⟩
    · rcases HF6.out q (Or.inr (Or.inl hk)) with h | h
      · have := HFl.out q h
        omega
      · omega
    · rcases HF6.out c1 (Or.inr (Or.inl hk)) with h | h
      · have := HFl.out c1 h
        omega
      · omega
    · have := HFl.out c1 (Or.inr (Or.inl hk))
      omega
  have HDl : Hid _ := netDeliver A base C6.fb g _ C6.Fx (x.bag.length : Int) hg HX1.out w6 HW6.out HF6b.out HC6.out.net
  rw [spoil_net HTy.out.2] at HDl
  refine (show Calls _ _ _ _ _ from HDl.out).mono ?_
  rintro e w7 ⟨rfl, hd7⟩
  have HD7 : Hid (NDid w6 w7 C6.fb g C6.Fx (x.refuse p)) := hd7
  obtain ⟨C7, hC7, hf7⟩ := HC6.out.did hd7
  have HC7 : Hid (Circ w7 rb g (x.refuse p) sd sn C7) := hC7
  have HC7z : Hid (∀ k, C7.foot rb sd sn k → z ≤ k) := fun k hk => by
    have h1 := HSz.out.1
    have h2 := HZw.out
    have h3 := HD6.out.rest.size
    rcases hf7 k hk with h | h
    · rcases HF6.out k h with h | h
      · exact HCz.out k h
      · omega
    · omega
  have HW7 : Hid (Sl w7 A base) := hd7.sl HW6.out HF6b.out
  have HR7 : Hid (RowI w7 c1 (cnts g.n (x.nd p).hs)) := by
    have h1 := RowI.below (RowI.below HR1.out HB4.out HC1.out.2) HB5.out (by have := HB4.out.size; have := HC1.out.2; omega)
    have h2 : RowI w6 c1 (cnts g.n (x.nd p).hs) := (HD6.out.rest.block c1 HSz.out.2.2.1 HN6.out.2.2).trans h1
    exact (hd7.rest.block c1 (Nat.lt_of_lt_of_le HSz.out.2.2.1 HD6.out.rest.size) HN6.out.2.1).trans h2
  have f0 := hd7.rest.cell d0 HN6.out.1
  have HBz : Hid (Below z w w7) := by
    have h1 := HZw.out
    have h2 := HSz.out.1
    have hb : Below w.heap.size w w5 := bthen HB2.out (bthen HB3.out (bthen HB4.out HB5.out))
    have h6 : Below z w5 w6 := below_of_alike HD6.out.rest (fun k hk => HCz.out k (Or.inr (Or.inl hk))) (by omega)
    have h7 : Below z w6 w7 := below_of_alike hd7.rest (fun k hk => by
      rcases HF6.out k (Or.inr (Or.inl hk)) with h | h
      · exact HCz.out k h
      · omega) (by have := HD6.out.rest.size; omega)
    exact ((hb.mono h1).trans h6).trans h7
  clear hd7 hC7 hf7 d0 e4 HDl
  go_wp2_with fail
  refine (heard_any A base z rb g (x.refuse p) sd sn p hg HX2.out hp w7 HW7.out ⟨C7, HC7.out, HC7z.out⟩).mono ?_
  rintro e w8 ⟨⟨c2, rfl, hc2, hr2⟩, hb8⟩
  have HB8 : Hid (Below w7.heap.size w7 w8) := hb8
  have HR8 : Hid (RowI w8 c2 (cnts g.n (x.nd p).hs)) := hr2
  have HR9 : Hid (RowI w8 c1 (cnts g.n (x.nd p).hs)) := RowI.below HR7.out hb8 (RowI.lt HR7.out)
  have HC8 : Hid (Circ w8 rb g (x.refuse p) sd sn C7) := HC7.out.low hb8
  have HW8 : Hid (Sl w8 A base) := HW7.out.low hb8
  have d0 := (hb8.cell (p := ⟨q, 0, none⟩) (lt_of_cell f0)).trans f0
  have e4 := HC8.out.c4
  clear hr2 hb8 hc2 f0
  have HRg : Hid (∀ y, Below w8.heap.size w8 y → Calls Tryz.prog 86 #[.pointer (some ⟨C7.fb, 0, none⟩), .int .i64 (p : Int)] y fun e w' => e = .returned (.tuple #[.int .i64 (x.ref p + 1), .int .i64 0]) ∧ Below y.heap.size y w') := fun y hy => by
    have h1 := netRefused A base C7.fb g (x.refuse p) C7.Fx p y (HW8.out.low hy) (HC8.out.net.low hy)
    rw [ref_net hp, show (x.refuse p).ref p = x.ref p + 1 from if_pos rfl] at h1
    exact h1
  have hqw8 : q < w8.heap.size := lt_of_cell d0
  go_wp2_with fail
  go_region_held3 (fun y => y.cell? ⟨rb, 4, none⟩ = some (.pointer (some ⟨C7.fb, 0, none⟩)) ∧ y.cell? ⟨q, 0, none⟩ = some (.int .i64 (p : Int))) (first | (exact ⟨e4, d0⟩) | (exact HK9.out) | go_keep) (first | (go_at_call 86; refine (show Calls _ _ _ _ _ from HRg.out _ (Below.refl _ _).drew).mono ?_; rintro e w9 ⟨rfl, hb9⟩; have HB9 : Hid (Below w8.heap.size w8 w9) := (Below.refl _ _).drew.trans hb9; have HK9 : Hid (w9.cell? ⟨rb, 4, none⟩ = some (.pointer (some ⟨C7.fb, 0, none⟩)) ∧ w9.cell? ⟨q, 0, none⟩ = some (.int .i64 (p : Int))) := ⟨(HB9.out.cell (p := ⟨rb, 4, none⟩) (lt_of_cell e4)).trans e4, (HB9.out.cell (p := ⟨q, 0, none⟩) hqw8).trans d0⟩; clear hb9))
  clear d0 e4
  rename_i hHeld
  clear hHeld
  have HCe : Hid (Circ w9 rb g (x.refuse p) sd sn C7) := HC8.out.low HB9.out
  have e4 := HK9.out.1
  go_wp2_with fail
  refine (netLeft C7.fb g (x.refuse p) C7.Fx w9 HCe.out.net).mono ?_
  rintro e w10 ⟨rfl, hw10⟩
  subst hw10
  have hbl : (x.refuse p).bag.length = x.bag.length := rfl
  rw [hbl]
  go_wp2_with fail
  have HRa : Hid (RowI w10 c1 (cnts g.n (x.nd p).hs)) := RowI.below HR9.out HB9.out (RowI.lt HR9.out)
  have HRb : Hid (RowI w10 c2 (cnts g.n (x.nd p).hs)) := RowI.below HR8.out HB9.out (RowI.lt HR8.out)
  have HCl : Hid ((cnts g.n (x.nd p).hs).length = g.n) := cnts_length _ _
  have c0 := HCe.out.c0
  have hrz : rb < w10.heap.size := lt_of_cell c0
  have hrf0 := (HX.out.ref p hp).1
  have hrf1 := (HX.out.ref p hp).2
  have hwr : IntKind.i64.wrap (x.ref p + 1) = x.ref p + 1 := by rw [IntKind.wrap_i64]; omega
  generalize cnts g.n (x.nd p).hs = cs at *
  generalize hrr : x.ref p = rf at *
  go_loopw [23] (fun c wq => ∃ j : Nat, j ≤ g.n ∧ c = .int .i64 j ∧ Below w10.heap.size w10 wq) (fun c _ => g.n - (intOf c).toNat)
  case atStart => exact ⟨0, Nat.zero_le _, rfl, Below.refl _ _⟩
  case round =>
    obtain ⟨j, hjn, rfl, hb⟩ := hrel
    have HBq : Hid _ := hb
    have d0 := (HBq.out.cell (p := ⟨rb, 0, none⟩) hrz).trans c0
    clear hb
    by_cases hlt : j < g.n
    · have hji : (j : Int) < (g.n : Int) := by omega
      have f0 := RowI.cell (RowI.below HRa.out HBq.out (RowI.lt HRa.out)) (j := j) (by rw [HCl.out]; exact hlt)
      have f1 := RowI.cell (RowI.below HRb.out HBq.out (RowI.lt HRb.out)) (j := j) (by rw [HCl.out]; exact hlt)
      generalize cs.getD j 0 = cj at *
      go_wp2_with fail
      go_quiet (fail)
      go_wp2_with fail
      go_roundw
      case rel => exact ⟨j + 1, by omega, by go_num, by first | exact HBq.out | exact HBq.out.drew | exact below_drewN HBq.out _⟩
      case measure => simp [intOf]; omega
    · have hjn' : j = g.n := by omega
      subst hjn'
      have HCf : Hid (CircZ z wr rb g (x.refuse p) sd sn) := ⟨C7, HCe.out.low HBq.out, HC7z.out⟩
      have HBf : Hid (Below z w wr) := HBz.out.trans ((bthen HB8.out (bthen HB9.out HBq.out)).mono (CircZ.mk ⟨C7, HC7.out, HC7z.out⟩ : CircZ z w7 rb g (x.refuse p) sd sn).le)
      go_wp2_with fail
      go_ret
      exact ⟨rfl, HCf.out, HBf.out⟩
end Go.Proofs.YtabecbjfamphbaaGreatDoor

/- What a script makes of a circle, as plain data. -/
namespace Go.Proofs.YtabecbjfamphbaaGreatDoor
open Go.RowKit Go.Stop Go.Extern

/-- What the law wrote down of a word that was said. -/
def SdOf (n : Nat) (s : Sd) (f : Fm) : Prop := s.org = f.org ∧ s.seq = f.seq ∧ s.body = f.body ∧ ∀ q, q < n → s.past.getD q 0 = f.vec.getD q 0
/-- A circle behind m steps. -/
structure Run (g : Gr) (x : MNet) (sd : List Sd) (sn : List Sn) (bag : List (Nat × Msg)) (said : List Fm) (m : Nat) : Prop where
  net : Net g x.nd bag said
  enc : x.bag = bag.map (encP g)
  len : sd.length = said.length
  same : ∀ (i : Nat) (s : Sd) (f : Fm), sd[i]? = some s → said[i]? = some f → SdOf g.n s f
  seen : Seen x sn
  ref : ∀ p, p < g.n → 0 ≤ x.ref p ∧ x.ref p ≤ (m : Int)
  few : bag.length ≤ 520 * m
  short : said.length ≤ m
theorem caused_of {g : Gr} {sd : List Sd} {said : List Fm} {hs : List Wd} (hv : HV g said hs) (hok : ∀ f ∈ said, f.Ok g) (hd : said.Pairwise (fun a b => ¬ SameK a b)) (hlen : sd.length = said.length) (hsame : ∀ (i : Nat) (s : Sd) (f : Fm), sd[i]? = some s → said[i]? = some f → SdOf g.n s f) : CausedOk g.n sd hs := by
  induction hv with
  | none => intro i t h; simp at h
  | more h0 hf hsq hvec ih =>
    rename_i hs f
    intro i t hi
    rcases Nat.lt_or_ge i hs.length with h1 | h1
    · rw [List.getElem?_append_left h1] at hi
      have h2 := ih i t hi
      rw [List.take_append_of_le_length (by omega)]
      exact h2
    · have hil : i = hs.length := by
        have := (List.getElem?_eq_some_iff.1 hi).1
        simp at this
        omega
      subst hil
      simp at hi
      subst hi
      have htk : (hs ++ [f.word]).take hs.length = hs := by simp
      rw [htk]
      have hfo := hok f hf
      refine ⟨⟨f.org.toNat, hfo.org_eq.symm, hfo.lt, hsq⟩, ?_, fun s hs1 ho hq => ?_⟩
      · obtain ⟨j, hj⟩ := List.mem_iff_getElem?.1 hf
        have hjl := (List.getElem?_eq_some_iff.1 hj).1
        have hjs : sd[j]? = some sd[j] := List.getElem?_eq_getElem (by omega)
        have h3 := hsame j _ f hjs hj
        exact ⟨_, List.mem_of_getElem? hjs, h3.1, h3.2.1⟩
      · obtain ⟨j, hj⟩ := List.mem_iff_getElem?.1 hs1
        have hjl := (List.getElem?_eq_some_iff.1 hj).1
        have hjf : said[j]? = some said[j] := List.getElem?_eq_getElem (by omega)
        have h3 := hsame j s _ hj hjf
        have he : said[j] = f := dist_eq hd (List.mem_of_getElem? hjf) hf ⟨h3.1.symm.trans ho, h3.2.1.symm.trans hq⟩
        rw [he] at h3
        refine ⟨h3.2.2.1, fun q hq => ?_⟩
        rw [h3.2.2.2 q hq]
        exact hvec q hq
section
variable {g : Gr} {x : MNet} {sd : List Sd} {sn : List Sn} {bag : List (Nat × Msg)} {said : List Fm} {m : Nat}
theorem Run.caused (h : Run g x sd sn bag said m) : ∀ p, p < g.n → CausedOk g.n sd (x.nd p).hs := fun p hp => caused_of (h.net.inv.heard p hp) h.net.inv.sok h.net.inv.dist h.len h.same
theorem Run.text (h : Run g x sd sn bag said m) (hg : g.Ok) : ∀ t ∈ x.bag, (∃ q : Nat, t.to = q ∧ q < g.n) ∧ t.text.size ≤ 100 ∧ 0 < t.text.size ∧ rAll g.n g.W g.B g.L t.text = none := fun t ht => by
  rw [h.enc] at ht
  obtain ⟨y, hy, rfl⟩ := List.mem_map.1 ht
  have hgd := h.net.good y hy
  have hr := text_read hg (GoodP.msg h.net.inv hgd)
  exact ⟨⟨y.1, rfl, hgd.to⟩, hr.2.1, by have := hr.2.2; show 0 < (y.2.text g).size; omega, hr.1⟩
theorem Run.ok (h : Run g x sd sn bag said m) (hg : g.Ok) (hm : m ≤ 10000000) : x.Ok g := ⟨h.net.inv.ok, fun t ht => ⟨(h.text hg t ht).1, (h.text hg t ht).2.1⟩, fun p hp => ⟨(h.ref p hp).1, by have := (h.ref p hp).2; omega⟩, by
  have := h.few
  rw [h.enc, List.length_map]
  omega⟩
theorem Run.view (h : Run g x sd sn bag said m) {p : Nat} (hp : p < g.n) : ∀ q, q < g.n → g.low (x.nd p).vs p ≤ (cntW (x.nd q).hs p : Int) := fun q hq => by
  rw [← (h.net.inv.ok q hq).clk.cnt p hp]
  exact h.net.inv.low_le hp hq hp
theorem put_upd (x : MNet) (p : Nat) (s : NS) : (x.put p s).nd = upd x.nd p s := rfl
theorem Seen.grow {x y : MNet} (h : Seen x sn) (hp : ∀ p, ∃ l, (y.nd p).hs = (x.nd p).hs ++ l) : Seen y sn := fun p sp hsp i t ht => by
  obtain ⟨l, hl⟩ := hp p
  have h1 := h p sp hsp i t ht
  rw [hl, List.getElem?_append_left (List.getElem?_eq_some_iff.1 h1).1]
  exact h1
theorem runM_grow {n p : Nat} {st : List Fm} (k : Nat) : ∀ (vs : List (List Int)) (hs : List Wd), ∃ l, (runM n p st k vs hs).2 = hs ++ l := by
  induction k with
  | zero => exact fun vs hs => ⟨[], by simp [runM]⟩
  | succ k ih =>
    intro vs hs
    unfold runM
    split
    · exact ⟨[], by simp⟩
    · rename_i f _
      obtain ⟨l, hl⟩ := ih (vset vs p f.org.toNat f.seq) (hs ++ [f.word])
      exact ⟨f.word :: l, by rw [hl]; simp⟩
theorem hearM_grow (g : Gr) (p : Nat) (s : NS) (m : Msg) : ∃ l, ((s.hearM g p m).2.2).hs = s.hs ++ l := by
  cases m with
  | data q f =>
    show ∃ l, (if q = p ∨ f.org = p then ((6, [], s) : Nat × List (Nat × Msg) × NS) else if s.newK g p f = 0 then (0, passM g p f q, s.got g p f) else (s.newK g p f, [], s)).2.2.hs = s.hs ++ l
    split
    · exact ⟨[], by simp⟩
    · split
      · exact runM_grow _ _ _
      · exact ⟨[], by simp⟩
  | state q v =>
    show ∃ l, (if q = p then ((6, [], s) : Nat × List (Nat × Msg) × NS) else (0, [], s.told g q v)).2.2.hs = s.hs ++ l
    split
    · exact ⟨[], by simp⟩
    · exact ⟨[], by simp [NS.told]⟩
theorem eraseIdx_map2 {α β : Type} (f : α → β) : ∀ (l : List α) (k : Nat), (l.map f).eraseIdx k = (l.eraseIdx k).map f
  | [], _ => rfl
  | _ :: _, 0 => rfl
  | a :: l, k + 1 => by simp [eraseIdx_map2 f l k]
theorem upd_grow {nd : Nat → NS} {p : Nat} {s : NS} (h : ∃ l, s.hs = (nd p).hs ++ l) : ∀ q, ∃ l, (upd nd p s q).hs = (nd q).hs ++ l := fun q => by
  by_cases e : q = p
  · subst e; rw [upd_same]; exact h
  · rw [upd_other _ _ _ e]; exact ⟨[], by simp⟩
theorem Run.drop (h : Run g x sd sn bag said m) (k : Nat) : Run g { x with bag := x.bag.eraseIdx k } sd sn (bag.eraseIdx k) said (m + 1) :=
  ⟨⟨h.net.inv, fun y hy => h.net.good y (List.mem_of_mem_eraseIdx hy)⟩, by show x.bag.eraseIdx k = _; rw [h.enc, eraseIdx_map2], h.len, h.same, h.seen, fun p hp => ⟨(h.ref p hp).1, by have := (h.ref p hp).2; show x.ref p ≤ _; omega⟩, by have := h.few; have := List.length_eraseIdx_le bag k; omega, by have := h.short; omega⟩
theorem Run.copy (h : Run g x sd sn bag said m) {k : Nat} {y : Nat × Msg} (hk : bag[k]? = some y) : Run g { x with bag := x.bag ++ [encP g y] } sd sn (bag ++ [y]) said (m + 1) :=
  ⟨⟨h.net.inv, fun z hz => by
    rcases List.mem_append.1 hz with h1 | h1
    · exact h.net.good z h1
    · rw [List.mem_singleton] at h1; subst h1; exact h.net.good _ (List.mem_of_getElem? hk)⟩, by show x.bag ++ [encP g y] = _; rw [h.enc]; simp, h.len, h.same, h.seen, fun p hp => ⟨(h.ref p hp).1, by have := (h.ref p hp).2; show x.ref p ≤ _; omega⟩, by have := h.few; rw [List.length_append]; simp; omega, by have := h.short; omega⟩
theorem Run.spoil (h : Run g x sd sn bag said m) (p : Nat) : Run g (x.refuse p) sd sn bag said (m + 1) :=
  ⟨h.net, h.enc, h.len, h.same, h.seen, fun q hq => by
    have h1 := h.ref q hq
    show 0 ≤ (if q = p then x.ref p + 1 else x.ref q) ∧ (if q = p then x.ref p + 1 else x.ref q) ≤ _
    split
    · rename_i e; subst e; constructor <;> omega
    · constructor <;> omega, by have := h.few; omega, by have := h.short; omega⟩
theorem Run.tick (h : Run g x sd sn bag said m) (hg : g.Ok) {p : Nat} (hp : p < g.n) : Run g (x.tick g p) sd sn (bag ++ tickM g p (x.nd p)) said (m + 1) :=
  ⟨⟨h.net.inv, fun z hz => by
    rcases List.mem_append.1 hz with h1 | h1
    · exact h.net.good z h1
    · exact tick_good h.net.inv hp z h1⟩, by show x.bag ++ (x.nd p).tick g p = _; rw [h.enc, tick_enc, List.map_append], h.len, h.same, h.seen, fun q hq => ⟨(h.ref q hq).1, by have := (h.ref q hq).2; show x.ref q ≤ _; omega⟩, by
      have h1 := h.few
      have h2 := tick_few hg (h.net.inv.ok p hp)
      rw [tick_enc, List.length_map] at h2
      rw [List.length_append]
      omega, by have := h.short; omega⟩
theorem Run.deliver (h : Run g x sd sn bag said m) (hg : g.Ok) {k to : Nat} {y : Msg} (hk : bag[k]? = some (to, y)) :
    (((x.nd to).hear g to (y.text g)).k = 0 ∨ ((x.nd to).hear g to (y.text g)).k = 7) ∧ Run g (x.deliver g k (encP g (to, y))) sd sn (bag.eraseIdx k ++ ((x.nd to).hearM g to y).2.1) said (m + 1) := by
  have hgd := h.net.good _ (List.mem_of_getElem? hk)
  have hto : to < g.n := hgd.to
  have hms := GoodP.msg h.net.inv hgd
  have hh := hear_text hg (p := to) (s := x.nd to) hms
  obtain ⟨hs, hn⟩ := h.net.deliver hk
  have hfew : ((x.nd to).hearM g to y).2.1.length ≤ g.n := by
    rcases hs.few with h1 | h1
    · rw [h1]; exact Nat.zero_le _
    · exact h1.1
  have hn8 := hg.n.2
  refine ⟨by rw [hh]; exact hs.ok, ?_⟩
  have e : x.deliver g k (encP g (to, y)) = if ((x.nd to).hearM g to y).1 = 0 then { x.put to ((x.nd to).hearM g to y).2.2 with bag := x.bag.eraseIdx k ++ ((x.nd to).hearM g to y).2.1.map (encP g) } else MNet.refuse { x.put to ((x.nd to).hearM g to y).2.2 with bag := x.bag.eraseIdx k ++ ((x.nd to).hearM g to y).2.1.map (encP g) } to := by
    unfold MNet.deliver
    show (let r := (x.nd ((to : Int).toNat)).hear g ((to : Int).toNat) (y.text g); let z : MNet := { x.put ((to : Int).toNat) r.s with bag := x.bag.eraseIdx k ++ r.ps }; if r.k = 0 then z else z.refuse ((to : Int).toNat)) = _
    rw [Int.toNat_natCast, hh]
  have hgrow : ∀ q, ∃ l, (upd x.nd to ((x.nd to).hearM g to y).2.2 q).hs = (x.nd q).hs ++ l := upd_grow (hearM_grow g to (x.nd to) y)
  have henc : x.bag.eraseIdx k ++ ((x.nd to).hearM g to y).2.1.map (encP g) = (bag.eraseIdx k ++ ((x.nd to).hearM g to y).2.1).map (encP g) := by rw [h.enc, eraseIdx_map2, List.map_append]
  have hlen : (bag.eraseIdx k ++ ((x.nd to).hearM g to y).2.1).length ≤ 520 * (m + 1) := by
    have h1 := h.few
    have h2 := List.length_eraseIdx_le bag k
    rw [List.length_append]
    omega
  have hR : Run g { x.put to ((x.nd to).hearM g to y).2.2 with bag := x.bag.eraseIdx k ++ ((x.nd to).hearM g to y).2.1.map (encP g) } sd sn (bag.eraseIdx k ++ ((x.nd to).hearM g to y).2.1) said (m + 1) :=
    ⟨hn, henc, h.len, h.same, h.seen.grow hgrow, fun q hq => ⟨(h.ref q hq).1, by have := (h.ref q hq).2; show x.ref q ≤ _; omega⟩, hlen, by have := h.short; omega⟩
  rw [e]
  split
  · exact hR
  · exact ⟨hn, henc, h.len, h.same, h.seen.grow hgrow, fun q hq => by
      have h1 := h.ref q hq
      show 0 ≤ (if q = to then x.ref to + 1 else x.ref q) ∧ (if q = to then x.ref to + 1 else x.ref q) ≤ _
      split
      · rename_i e; subst e; constructor <;> omega
      · constructor <;> omega, hlen, by have := h.short; omega⟩
end
end Go.Proofs.YtabecbjfamphbaaGreatDoor
