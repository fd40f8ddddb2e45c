/-
  Texts that the proofs of this seat share, joined: Kx.
-/
import Derived.Test.YtabecbjfamphbaaGreatDoorB37
/- hearsaykeep: stands. -/
namespace Go.Proofs.YtabecbjfamphbaaGreatDoor
open Go.RowKit Go.Stop Go.Extern

set_option maxRecDepth 100000 in
set_option maxHeartbeats 1000000 in
theorem stands_any (base : Nat) (ad : Option Addr) (cap : Nat) (ws : List Wd) (o q : Int) (b : ByteArray) (pa : Option Addr) (pl pc : Nat) (hl : ws.length ≤ 1000000) (w : World) (h : Wrd w base (.slice ad ws.length cap) ws) :
    Calls Tryz.prog 47 #[.slice ad ws.length cap, .agg #[.int .i64 o, .int .i64 q, .string b, .slice pa pl pc]] w fun e w' => (∃ r, e = .returned (.bool r) ∧ (r = true ↔ (⟨o, q, b⟩ : Wd) ∈ ws)) ∧ Below w.heap.size w w' := by
  have HH : Hid _ := h
  clear h
  go_enter Tryz.func47, Tryz.ntmps47
  go_wp2_with fail
  have HX : Hid _ := below1 w (.cells #[.int .i64 o, .int .i64 q, .string b, .slice pa pl pc] 93)
  have HBx : Hid (w.heap.size < (w.alloc (.cells #[.int .i64 o, .int .i64 q, .string b, .slice pa pl pc] 93)).heap.size ∧ (w.alloc (.cells #[.int .i64 o, .int .i64 q, .string b, .slice pa pl pc] 93)).cell? ⟨w.heap.size, 0, none⟩ = some (.int .i64 o) ∧ (w.alloc (.cells #[.int .i64 o, .int .i64 q, .string b, .slice pa pl pc] 93)).cell? ⟨w.heap.size, 1, none⟩ = some (.int .i64 q) ∧ (w.alloc (.cells #[.int .i64 o, .int .i64 q, .string b, .slice pa pl pc] 93)).cell? ⟨w.heap.size, 2, none⟩ = some (.string b)) := by
    have e : ∀ i, (w.alloc (.cells #[.int .i64 o, .int .i64 q, .string b, .slice pa pl pc] 93)).cell? ⟨w.heap.size, i, none⟩ = #[Value.int .i64 o, .int .i64 q, .string b, .slice pa pl pc][i]? := fun i => cell_of_row _ _ i _ _ (0, 0) (heap_alloc_new _ _)
    exact ⟨by simp, e 0, e 1, e 2⟩
  generalize w.alloc (.cells #[.int .i64 o, .int .i64 q, .string b, .slice pa pl pc] 93) = X at *
  go_loopw [5] (fun c wr => ∃ k : Nat, k ≤ ws.length ∧ c = .int .i64 k ∧ (⟨o, q, b⟩ : Wd) ∉ ws.take k ∧ Below X.heap.size X wr) (fun c _ => ws.length - (intOf c).toNat)
  case atStart => exact ⟨0, Nat.zero_le _, rfl, by simp, Below.refl _ _⟩
  case round =>
    obtain ⟨k, hkn, rfl, hno, hb⟩ := hrel
    have HNo : Hid _ := hno
    have HB : Hid (Below X.heap.size X wr) := hb
    have HBw : Hid (Below w.heap.size w wr) := bthen HX.out hb
    have d0 := (hb.cell (p := ⟨w.heap.size, 0, none⟩) HBx.out.1).trans HBx.out.2.1
    have d1 := (hb.cell (p := ⟨w.heap.size, 1, none⟩) HBx.out.1).trans HBx.out.2.2.1
    have d2 := (hb.cell (p := ⟨w.heap.size, 2, none⟩) HBx.out.1).trans HBx.out.2.2.2
    clear hno hb
    by_cases hlt : k < ws.length
    · have hki : (k : Int) < (ws.length : Int) := by omega
      obtain ⟨t, ht⟩ : ∃ t, ws[k]? = some t := ⟨ws[k], List.getElem?_eq_getElem _⟩
      obtain ⟨gb, rfl, _, t0, t1, t2⟩ := HH.out.get ht
      have t0' := (HBw.out.cell (p := ⟨gb, k * 3, none⟩) (lt_of_cell t0)).trans t0
      have t1' := (HBw.out.cell (p := ⟨gb, k * 3 + 1, none⟩) (lt_of_cell t0)).trans t1
      have t2' := (HBw.out.cell (p := ⟨gb, k * 3 + 2, none⟩) (lt_of_cell t0)).trans t2
      have HT : Hid _ := ht
      have HTk : Hid (ws.take (k + 1) = ws.take k ++ [t]) := by
        show _ = _
        rw [List.take_add_one, ht]
        rfl
      clear ht t0 t1 t2
      by_cases heq : t = ⟨o, q, b⟩
      · subst heq
        have HM : Hid ((⟨o, q, b⟩ : Wd) ∈ ws) := List.mem_of_getElem? HT.out
        simp only at t0' t1' t2'
        go_wp2_with fail
        go_quiet (fail)
        go_wp2_with fail
        go_ret
        exact ⟨⟨true, rfl, fun _ => HM.out, fun _ => rfl⟩, by first | exact HBw.out | exact HBw.out.drew | exact below_drewN HBw.out _⟩
      · have HN : Hid ((⟨o, q, b⟩ : Wd) ∉ ws.take (k + 1)) := by
          show ¬ _
          rw [HTk.out, List.mem_append, List.mem_singleton]
          rintro (h | h)
          · exact HNo.out h
          · exact heq h.symm
        obtain ⟨to, tq, tb⟩ := t
        simp only at t0' t1' t2'
        clear HT HTk
        by_cases h1 : to = o
        · subst h1
          by_cases h2 : tq = q
          · subst h2
            have h3 : ¬ tb.toList = b.toList := fun e => heq (by
              rw [ByteArray.toList_eq, ByteArray.toList_eq] at e
              have e2 := Array.toList_inj.1 e
              cases tb
              cases b
              simp only at e2
              rw [e2])
            have h4 : (tb.toList == b.toList) = false := by simp [h3]
            clear heq
            go_wp2_with fail
            go_quiet (fail)
            go_wp2_with fail
            go_roundw
            case rel => exact ⟨k + 1, by omega, by go_num, HN.out, by first | exact HB.out | exact HB.out.drew | exact below_drewN HB.out _⟩
            case measure => simp [intOf]; omega
          · clear heq
            go_wp2_with fail
            go_quiet (fail)
            go_wp2_with fail
            go_roundw
            case rel => exact ⟨k + 1, by omega, by go_num, HN.out, by first | exact HB.out | exact HB.out.drew | exact below_drewN HB.out _⟩
            case measure => simp [intOf]; omega
        · clear heq
          go_wp2_with fail
          go_quiet (fail)
          go_wp2_with fail
          go_roundw
          case rel => exact ⟨k + 1, by omega, by go_num, HN.out, by first | exact HB.out | exact HB.out.drew | exact below_drewN HB.out _⟩
          case measure => simp [intOf]; omega
    · have hkn' : k = ws.length := by omega
      subst hkn'
      have HN : Hid ((⟨o, q, b⟩ : Wd) ∉ ws) := by
        have h1 := HNo.out
        show ¬ _
        intro hc
        rw [List.take_length] at h1
        exact h1 hc
      go_wp2_with fail
      go_ret
      exact ⟨⟨false, rfl, fun h => (by cases h), fun h => absurd h HN.out⟩, HBw.out⟩
end Go.Proofs.YtabecbjfamphbaaGreatDoor
