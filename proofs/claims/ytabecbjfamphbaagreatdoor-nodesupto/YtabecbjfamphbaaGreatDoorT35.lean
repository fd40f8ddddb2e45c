/-
  Texts that the proof needs, joined: Qt, Qu, Qv, Qw, Qx, Qy, Wa, Va, Same.
-/
import Derived.Test.YtabecbjfamphbaaGreatDoorT34
import Derived.Deep.CutRange
import Derived.Test.YtabecbjfamphbaaGreatDoorT21
import Derived.Test.YtabecbjfamphbaaGreatDoorT30
/- The law's book: keepInts. -/
namespace Go.Proofs.YtabecbjfamphbaaGreatDoor
open Go.RowKit Go.Stop Go.Extern

theorem Tryz.infoIntss : (Tryz.prog.info? 34).map (fun i => (i.zero, i.size, i.bytes)) = some (some (.slice none 0 0), 1, 24) := by kernel_rfl
/-- What keepInts leaves. -/
structure KeptI (w w' : World) (b : Nat) (ad : Option Addr) (len : Nat) (xs : List Value) (ao : Option Addr) (n cp : Nat) : Prop where
  how : ∃ ad' cap' a1 c1 a2 c2 a3 c3, w'.cell? ⟨b, 0, none⟩ = some (.slice ad' (len + 4) cap') ∧ w'.ownsRow 0 34 1 (.slice ad' (len + 4) cap') (len + 4) (xs ++ [.slice ao n cp, .slice a1 (n + 1) c1, .slice a2 (n + 2) c2, .slice a3 (n + 3) c3])
    ∧ Mrk w' ao n cp 1 3 (mint len) ∧ Mrk w' a1 (n + 1) c1 1 3 (mint len) ∧ Mrk w' a2 (n + 2) c2 1 3 (mint len) ∧ Mrk w' a3 (n + 3) c3 1 3 (mint len)
    ∧ (∀ k, onB a1 k ∨ onB a2 k ∨ onB a3 k → onB ao k ∨ w.heap.size ≤ k) ∧ (∀ k, onB ad' k → onB ad k ∨ w.heap.size ≤ k)
  rest : Alike w w' (fun k => k = b ∨ onB ao k ∨ onB ad k)
  others : ∀ j v, j ≠ 0 → w.cell? ⟨b, j, none⟩ = some v → w'.cell? ⟨b, j, none⟩ = some v
  ty : ∃ cur, w'.heap[b]? = some (.cells cur 79 (0, 0))
set_option maxRecDepth 100000 in
set_option maxHeartbeats 2000000 in
theorem keepInts2_any (b : Nat) (ad : Option Addr) (len cap : Nat) (xs : List Value) (ao : Option Addr) (n cp : Nat) (hl : len ≤ 1000000) (hn : n ≤ 1000000) (hnc : n ≤ cp) (w : World) (hc : w.cell? ⟨b, 0, none⟩ = some (.slice ad len cap)) (hty : ∃ cur, w.heap[b]? = some (.cells cur 79 (0, 0))) (ho : w.ownsRow 0 34 1 (.slice ad len cap) len xs) (hM : Mrk w ao 0 cp 1 3 (mint len)) :
    Calls Tryz.prog 118 #[.pointer (some ⟨b, 0, none⟩), .slice ao n cp] w fun e w' => e = .returned (.tuple #[]) ∧ KeptI w w' b ad len xs ao n cp := by
  have HC : Hid (w.cell? ⟨b, 0, none⟩ = some (.slice ad len cap)) := hc
  have HTy : Hid _ := hty
  have HO : Hid _ := ho
  have HM0 : Hid (Mrk w ao 0 cp 1 3 (mint len)) := hM
  have HMk : Hid (∀ x, Calls Tryz.prog 133 #[.int .i64 (len : Int)] x fun e w' => e = .returned (.int .i64 (-1000 - (len : Int))) ∧ w' = x) := fun x => markInt_any (len : Int) x (by omega) (by omega)
  have HMc : Hid (mint len = [.int .i64 (-1000 - (len : Int))]) := rfl
  have HMl : Hid ((mint len).length = 1) := rfl
  obtain ⟨mm, hmm⟩ : ∃ mm : Int, mm = -1000 - (len : Int) := ⟨_, rfl⟩
  rw [← hmm] at HMk HMc
  clear hmm hM ho hty
  generalize hmw : mint len = mc at *
  have HMw : Hid (mint len = mc) := hmw
  clear hmw
  go_enter Tryz.func118, Tryz.ntmps118
  go_wp2_with fail
  refine (show Calls _ _ _ _ _ from HMk.out w).mono ?_
  rintro e w1 ⟨rfl, rfl⟩
  have HX : Hid (Below w1.heap.size w1 w1) := Below.refl _ _
  clear hc
  go_wp2_with fail
  go_loopw [5] (fun c wr => ∃ k : Nat, k ≤ n ∧ c = .int .i64 k ∧ Mrk wr ao k cp 1 3 mc ∧ Alike w1 wr (onB ao)) (fun c _ => n - (intOf c).toNat)
  case atStart => exact ⟨0, Nat.zero_le _, rfl, HM0.out, Alike.refl _ _⟩
  case round =>
    obtain ⟨k, hkn, rfl, hMk, hAk⟩ := hrel
    have HMr : Hid _ := hMk
    have HAr : Hid (Alike w1 wr (onB ao)) := hAk
    by_cases hlt : k < n
    · have hki : (k : Int) < (n : Int) := by omega
      rcases hMk with ⟨_, _, h0⟩ | ⟨g, rfl, ⟨cur, hh, hcz⟩, hkc, _⟩
      · omega
      · obtain ⟨u0, d0⟩ : ∃ u, wr.cell? ⟨g, k, none⟩ = some u := ⟨cur[k]'(by omega), by rw [cell_of_row wr g _ cur _ (0, 0) hh]; exact Array.getElem?_eq_getElem _⟩
        have f0 : wr.frozen? ⟨g, k, none⟩ = false := frozen_of_row wr g _ cur _ hh
        have HMn : Hid (Mrk (wr.setCells g (k * 1) mc) (some ⟨g, 0, none⟩) (k + 1) cp 1 3 mc) := Mrk.store HMl.out HMr.out (by omega)
        have HAn : Hid (Alike w1 (wr.setCells g (k * 1) mc) (onB (some ⟨g, 0, none⟩))) := HAr.out.trans (setCells_alike g mc (k * 1) wr) (fun j _ h => ⟨0, by rw [h]⟩)
        have HEq : Hid (wr.setCells g (k * 1) mc = wr.setCell ⟨g, k, none⟩ (.int .i64 mm)) := by show _ = _; rw [HMc.out, Nat.mul_one]; rfl
        rw [HEq.out] at HMn HAn
        clear hh hcz hkc hAk
        go_wp2_with fail
        go_roundw
        case rel => exact ⟨k + 1, by omega, by go_num, HMn.out, HAn.out⟩
        case measure => simp [intOf]; omega
    · have hkn' : k = n := by omega
      subst hkn'
      clear hMk hAk
      obtain ⟨i0, hi, hz0, hz1, hz2⟩ := info_parts Tryz.infoInt
      have HOne : Hid (∀ u ∈ mc, u.oneCell' = true) := by
        rw [HMc.out]
        intro u hu
        simp at hu
        subst hu
        rfl
      have HNw1 : Hid (∀ (y : World) (B : Nat), y.heap[B]? = some (.cells #[.int .i64 mm] 3 (0, 0)) → ∀ j u, (marks 1 mc)[j]? = some u → y.cell? ((⟨B, 0, none⟩ : Addr).add j) = some u) := fun y B hB => by rw [HMc.out]; exact World.news_of_block hB
      have HNw2 : Hid (∀ (y : World) (B : Nat), y.heap[B]? = some (.cells #[.int .i64 mm, .int .i64 mm] 3 (0, 0)) → ∀ j u, (marks 2 mc)[j]? = some u → y.cell? ((⟨B, 0, none⟩ : Addr).add j) = some u) := fun y B hB => by rw [HMc.out]; exact World.news_of_block hB
      have HNw3 : Hid (∀ (y : World) (B : Nat), y.heap[B]? = some (.cells #[.int .i64 mm, .int .i64 mm, .int .i64 mm] 3 (0, 0)) → ∀ j u, (marks 3 mc)[j]? = some u → y.cell? ((⟨B, 0, none⟩ : Addr).add j) = some u) := fun y B hB => by rw [HMc.out]; exact World.news_of_block hB
      have HT1 : Hid (Mrk (wr.alloc (.cells #[.int .i64 mm] 3)) ao k cp 1 3 mc) := Mrk.low (show Mrk wr ao k cp 1 3 mc from HMr.out) (Alike.alloc wr (.cells #[.int .i64 mm] 3) (fun _ => False)) (fun _ _ h => h)
      have HU1 : Hid (∀ j u, (marks 1 mc)[j]? = some u → (wr.alloc (.cells #[.int .i64 mm] 3)).cell? ((⟨wr.heap.size, 0, none⟩ : Addr).add j) = some u) := HNw1.out _ _ (heap_alloc_new _ _)
      go_wp2_with (at_builtin; refine wpList_append_marks _ rfl (.tmp 25) (.tmp 27) 34 rfl 3 i0 _ 1 8 Tryz.underlying34 hi hz0 hz1 hz2 rfl (by decide) ao k cp mc HMl.out HOne.out rfl HT1.out ⟨wr.heap.size, 0, none⟩ 1 1 rfl (show ∀ j u, (marks 1 mc)[j]? = some u → _ from HU1.out) (by decide) (by unfold maxLen; omega) (by omega) ?_)
      intro g1 c1 v1 hM1 hall1 hA1 hg1
      have HAll1 : Hid (∀ a' n' cap', Mrk wr a' n' cap' 1 3 mc → Mrk v1 a' n' cap' 1 3 mc) := fun a' n' cap' h => hall1 _ _ _ (h.low (Alike.alloc _ _ (fun _ => False)) (fun _ _ h => h))
      have HM1 : Hid (Mrk v1 (some ⟨g1, 0, none⟩) (k + 1) c1 1 3 mc) := hM1
      have HMa1 : Hid (Mrk v1 ao k cp 1 3 mc) := HAll1.out _ _ _ HMr.out
      have HA1 : Hid (Alike w1 v1 (onB ao)) := HAr.out.trans ((Alike.alloc _ _ _).trans hA1 (fun _ _ h => h)) (fun _ _ h => h)
      have HG1 : Hid (onB ao g1 ∨ w1.heap.size ≤ g1) := hg1.elim Or.inl (fun h => Or.inr (by have := HAr.out.size; omega))
      clear hM1 hall1 hA1 hg1
      have HT2 : Hid (Mrk (v1.alloc (.cells #[.int .i64 mm, .int .i64 mm] 3)) ao k cp 1 3 mc) := Mrk.low (show Mrk v1 ao k cp 1 3 mc from HMa1.out) (Alike.alloc v1 (.cells #[.int .i64 mm, .int .i64 mm] 3) (fun _ => False)) (fun _ _ h => h)
      have HU2 : Hid (∀ j u, (marks 2 mc)[j]? = some u → (v1.alloc (.cells #[.int .i64 mm, .int .i64 mm] 3)).cell? ((⟨v1.heap.size, 0, none⟩ : Addr).add j) = some u) := HNw2.out _ _ (heap_alloc_new _ _)
      go_wp2_with (at_builtin; refine wpList_append_marks _ rfl (.tmp 29) (.tmp 32) 34 rfl 3 i0 _ 1 8 Tryz.underlying34 hi hz0 hz1 hz2 rfl (by decide) ao k cp mc HMl.out HOne.out rfl HT2.out ⟨v1.heap.size, 0, none⟩ 2 2 rfl (show ∀ j u, (marks 2 mc)[j]? = some u → _ from HU2.out) (by decide) (by unfold maxLen; omega) (by omega) ?_)
      intro g2 c2 v2 hM2 hall2 hA2 hg2
      have HAll2 : Hid (∀ a' n' cap', Mrk v1 a' n' cap' 1 3 mc → Mrk v2 a' n' cap' 1 3 mc) := fun a' n' cap' h => hall2 _ _ _ (h.low (Alike.alloc _ _ (fun _ => False)) (fun _ _ h => h))
      have HM2 : Hid (Mrk v2 (some ⟨g2, 0, none⟩) (k + 2) c2 1 3 mc) := hM2
      have HMa2 : Hid (Mrk v2 ao k cp 1 3 mc) := HAll2.out _ _ _ HMa1.out
      have HA2 : Hid (Alike w1 v2 (onB ao)) := HA1.out.trans ((Alike.alloc _ _ _).trans hA2 (fun _ _ h => h)) (fun _ _ h => h)
      have HG2 : Hid (onB ao g2 ∨ w1.heap.size ≤ g2) := hg2.elim Or.inl (fun h => Or.inr (by have := HA1.out.size; omega))
      clear hM2 hall2 hA2 hg2
      have HT3 : Hid (Mrk (v2.alloc (.cells #[.int .i64 mm, .int .i64 mm, .int .i64 mm] 3)) ao k cp 1 3 mc) := Mrk.low (show Mrk v2 ao k cp 1 3 mc from HMa2.out) (Alike.alloc v2 (.cells #[.int .i64 mm, .int .i64 mm, .int .i64 mm] 3) (fun _ => False)) (fun _ _ h => h)
      have HU3 : Hid (∀ j u, (marks 3 mc)[j]? = some u → (v2.alloc (.cells #[.int .i64 mm, .int .i64 mm, .int .i64 mm] 3)).cell? ((⟨v2.heap.size, 0, none⟩ : Addr).add j) = some u) := HNw3.out _ _ (heap_alloc_new _ _)
      go_wp2_with (at_builtin; refine wpList_append_marks _ rfl (.tmp 34) (.tmp 38) 34 rfl 3 i0 _ 1 8 Tryz.underlying34 hi hz0 hz1 hz2 rfl (by decide) ao k cp mc HMl.out HOne.out rfl HT3.out ⟨v2.heap.size, 0, none⟩ 3 3 rfl (show ∀ j u, (marks 3 mc)[j]? = some u → _ from HU3.out) (by decide) (by unfold maxLen; omega) (by omega) ?_)
      intro g3 c3 v3 hM3 hall3 hA3 hg3
      have HAll3 : Hid (∀ a' n' cap', Mrk v2 a' n' cap' 1 3 mc → Mrk v3 a' n' cap' 1 3 mc) := fun a' n' cap' h => hall3 _ _ _ (h.low (Alike.alloc _ _ (fun _ => False)) (fun _ _ h => h))
      have HM3 : Hid (Mrk v3 (some ⟨g3, 0, none⟩) (k + 3) c3 1 3 mc) := hM3
      have HMa3 : Hid (Mrk v3 ao k cp 1 3 mc) := HAll3.out _ _ _ HMa2.out
      have HA3 : Hid (Alike w1 v3 (onB ao)) := HA2.out.trans ((Alike.alloc _ _ _).trans hA3 (fun _ _ h => h)) (fun _ _ h => h)
      have HG3 : Hid (onB ao g3 ∨ w1.heap.size ≤ g3) := hg3.elim Or.inl (fun h => Or.inr (by have := HA2.out.size; omega))
      clear hM3 hall3 hA3 hg3
      clear hi hz0 hz1 hz2
      have HnB : Hid (¬ onB ao b) := fun h => by
        obtain ⟨cur, e⟩ := HTy.out
        obtain ⟨_, cur', e'⟩ := HM0.out.lt h
        exact ty_ne e e' (by decide) rfl
      have HnR : Hid (∀ j, onB ad j → ¬ onB ao j) := fun j h h' => by
        obtain ⟨cur, e⟩ := own_block HO.out h
        obtain ⟨_, cur', e'⟩ := HM0.out.lt h'
        exact ty_ne e e' (by decide) rfl
      have HAw : Hid (Alike w1 v3 (onB ao)) := (Alike.of_below HX.out _).trans HA3.out (fun _ _ h => h)
      have cw : v3.cell? ⟨b, 0, none⟩ = some (.slice ad len cap) := HAw.out.cell HC.out HnB.out
      have HO3 : Hid (v3.ownsRow 0 34 1 (.slice ad len cap) len xs) := row_alike2 HO.out HAw.out (fun j hj => HnR.out j hj)
      have HTy3 : Hid (∃ cur, v3.heap[b]? = some (.cells cur 79 (0, 0))) := by
        obtain ⟨cur, e⟩ := HTy.out
        exact ⟨cur, (HAw.out.block b (lt_of_some e) HnB.out).trans e⟩
      have fz := frozen_ty HTy3.out 0
      obtain ⟨i1, hi, hz0, hz1, hz2⟩ := info_parts Tryz.infoIntss
      have HT4 : Hid ((v3.alloc (.cells #[.slice ao k cp, .slice (some ⟨g1, 0, none⟩) (k + 1) c1, .slice (some ⟨g2, 0, none⟩) (k + 2) c2, .slice (some ⟨g3, 0, none⟩) (k + 3) c3] 34)).ownsRow 0 34 1 (.slice ad len cap) len xs) := World.ownsRow.alloc HO3.out _
      have HOne4 : Hid (∀ u ∈ ([.slice ao k cp, .slice (some ⟨g1, 0, none⟩) (k + 1) c1, .slice (some ⟨g2, 0, none⟩) (k + 2) c2, .slice (some ⟨g3, 0, none⟩) (k + 3) c3] : List Value), u.oneCell' = true) := by
        intro u hu
        simp at hu
        rcases hu with rfl | rfl | rfl | rfl <;> rfl
      have hbX : b < v3.heap.size := lt_of_cell cw
      have hnb : some b ≠ (Value.slice ad len cap).ownBlock := fun he => by
        obtain ⟨cur, e⟩ := HTy3.out
        obtain ⟨_, e'⟩ := own_block HO3.out (own_on HO3.out he.symm)
        exact ty_ne e e' (by decide) rfl
      go_wp2_with (at_builtin; refine wpList_append_lies _ rfl (.tmp 44) (.tmp 49) 71 rfl 0 34 i1 _ 1 24 Tryz.underlying71 hi hz0 hz1 hz2 rfl (by decide) (.slice ad len cap) len xs rfl HT4.out ⟨v3.heap.size, 0, none⟩ 4 4 [.slice ao k cp, .slice (some ⟨g1, 0, none⟩) (k + 1) c1, .slice (some ⟨g2, 0, none⟩) (k + 2) c2, .slice (some ⟨g3, 0, none⟩) (k + 3) c3] rfl rfl (World.news_of_block (heap_alloc_new v3 _)) HOne4.out (by decide) (by unfold maxLen; omega) (by omega) (Nat.zero_le _) _ rfl ?_)
      intro g4 c4 v4 hown hgrow hat hlt4
      have c11 : v4.cell? ⟨b, 0, none⟩ = some (.slice ad len cap) := (hgrow.cell_far ⟨b, 0, none⟩ (by simp; omega) hnb).trans ((Below.cell (B := v3.heap.size) (w := v3) (below1 _ _) (p := ⟨b, 0, none⟩) hbX).trans cw)
      have f11 : v4.frozen? ⟨b, 0, none⟩ = false := (hgrow.frozen_far ⟨b, 0, none⟩ (by simp; omega) hnb).trans ((Below.frozen (B := v3.heap.size) (w := v3) (below1 _ _) (p := ⟨b, 0, none⟩) hbX).trans fz)
      have HA4 : Hid (Alike v3 v4 (onB ad)) := (Alike.alloc v3 _ _).trans (Alike.of_grown hgrow) (fun j _ h => own_on HO3.out h)
      have HG4 : Hid (onB ad g4 ∨ w1.heap.size ≤ g4) := by
        rcases hat with h | h
        · exact Or.inl (own_on HO3.out h)
        · refine Or.inr ?_
          have := HAw.out.size
          first | omega | (simp at h; omega)
      have HO4 : Hid (v4.ownsRow 0 34 1 (.slice (some ⟨g4, 0, none⟩) (len + 4) c4) (len + 4) (xs ++ [.slice ao k cp, .slice (some ⟨g1, 0, none⟩) (k + 1) c1, .slice (some ⟨g2, 0, none⟩) (k + 2) c2, .slice (some ⟨g3, 0, none⟩) (k + 3) c3])) := hown
      clear hown hgrow hat hlt4 cw fz hnb
      go_wp2_with fail
      refine bodyPost_end (v := .tuple #[]) (by simp [results, Tryz.results118, go_sem]) rfl ⟨rfl, ?_⟩
      obtain ⟨curb, hcb⟩ := HTy3.out
      have hnadb : ¬ onB ad b := fun h => by
        obtain ⟨_, e⟩ := own_block HO3.out h
        exact ty_ne e hcb (by decide) rfl
      have hset := Alike.setCell v4 ⟨b, 0, none⟩ (.slice (some ⟨g4, 0, none⟩) (len + 4) c4)
      have h34 : Alike v3 (v4.setCell ⟨b, 0, none⟩ (.slice (some ⟨g4, 0, none⟩) (len + 4) c4)) (fun j => j = b ∨ onB ad j) := ((Alike.refl v3 _).trans HA4.out (fun _ _ h => Or.inr h)).trans hset (fun _ _ h => Or.inl h)
      have hb4 : v4.heap[b]? = some (.cells curb 79 (0, 0)) := (HA4.out.block b (lt_of_some hcb) hnadb).trans hcb
      have hmk : ∀ a' n' cap', Mrk v3 a' n' cap' 1 3 mc → Mrk (v4.setCell ⟨b, 0, none⟩ (.slice (some ⟨g4, 0, none⟩) (len + 4) c4)) a' n' cap' 1 3 mc := fun a' n' cap' h => h.low h34 (fun j hj hor => by
        obtain ⟨_, cur, e⟩ := h.lt hj
        rcases hor with rfl | hr
        · exact ty_ne e hcb (by decide) rfl
        · obtain ⟨_, e'⟩ := own_block HO3.out hr
          exact ty_ne e e' (by decide) rfl)
      have zX := HX.out.size
      have hgb : g4 ≠ b := fun h => by
        subst h
        obtain ⟨_, e⟩ := own_block HO4.out ⟨0, rfl⟩
        exact ty_ne e hb4 (by decide) rfl
      have hnew : ∀ g, (onB ao g ∨ w1.heap.size ≤ g) → ∀ j, onB (some ⟨g, 0, none⟩) j → onB ao j ∨ w1.heap.size ≤ j := fun g hg j hj => by
        obtain ⟨off, hj⟩ := hj
        cases hj
        exact hg.elim Or.inl (fun h => Or.inr (by omega))
      refine ⟨⟨some ⟨g4, 0, none⟩, c4, some ⟨g1, 0, none⟩, c1, some ⟨g2, 0, none⟩, c2, some ⟨g3, 0, none⟩, c3, ?_, ?_, ?_, ?_, ?_, ?_, ?_, ?_⟩, ?_, ?_, ?_⟩
      · go_simp
      · exact row_alike2 HO4.out hset (fun j ⟨off, hj⟩ he => by cases hj; exact hgb he)
      · rw [HMw.out]; exact hmk _ _ _ HMa3.out
      · rw [HMw.out]; exact hmk _ _ _ (HAll3.out _ _ _ (HAll2.out _ _ _ HM1.out))
      · rw [HMw.out]; exact hmk _ _ _ (HAll3.out _ _ _ HM2.out)
      · rw [HMw.out]; exact hmk _ _ _ HM3.out
      · rintro j (h | h | h)
        · exact hnew g1 HG1.out j h
        · exact hnew g2 HG2.out j h
        · exact hnew g3 HG3.out j h
      · rintro j ⟨off, hj⟩
        cases hj
        exact HG4.out
      · exact ((Alike.refl w1 _).trans HAw.out (fun _ _ h => Or.inr (Or.inl h))).trans h34 (fun _ _ h => h.elim Or.inl (fun h => Or.inr (Or.inr h)))
      · intro j v hj hv
        have h2 : v4.cell? ⟨b, j, none⟩ = some v := HA4.out.cell (HAw.out.cell hv HnB.out) hnadb
        have hj' : ¬ j = 0 := hj
        have hj2 : ¬ 0 = j := fun h => hj h.symm
        go_simp
      · exact ⟨_, heap_setCell_same v4 b 0 curb _ _ hb4⟩
end Go.Proofs.YtabecbjfamphbaaGreatDoor

/- No block of a node is a list of packets. -/
namespace Go.Proofs.YtabecbjfamphbaaGreatDoor
open Go.RowKit Go.Stop Go.Extern

theorem NodeAt.noPk {w : World} {b : Nat} {g : Gr} {p : Nat} {s : NS} {F : Nat → Prop} (h : NodeAt w b g p s F) {k : Nat} (hk : F k) : ∃ cur t, w.heap[k]? = some (.cells cur t (0, 0)) ∧ t ≠ 109 := by
  obtain ⟨G, fs, h1, _, _, h4⟩ := h
  rcases (h4 k).1 hk with rfl | rfl | hk | hk | hk | ⟨f, hf, hk⟩
  · obtain ⟨cur, e⟩ := h1.nb.ty; exact ⟨cur, _, e, by decide⟩
  · obtain ⟨cur, e⟩ := h1.nv.ty; exact ⟨cur, _, e, by decide⟩
  · obtain ⟨q, hq, rfl⟩ := of_rows h1.nv hk
    exact ⟨_, _, h1.nv.each q hq, by decide⟩
  · obtain ⟨cur, e⟩ := h1.sa_block hk; exact ⟨cur, _, e, by decide⟩
  · obtain ⟨cur, e⟩ := h1.ha_block hk; exact ⟨cur, _, e, by decide⟩
  · obtain ⟨cur, e⟩ := (h1.vec f hf).1.block hk; exact ⟨cur, _, e, by decide⟩
/-- The document's node by its own blocks alone. -/
theorem RefAt.tight {w : World} {b : Nat} {g : Gr} {p : Nat} {s : NS} {m : Nat} {F : Nat → Prop} (h : RefAt w b g p s m F) : ∃ F0, (∀ k, F0 k → F k) ∧ RefAt w b g p s m F0 ∧ F0 b ∧ ∀ k, F0 k → ∃ cur t, w.heap[k]? = some (.cells cur t (0, 0)) ∧ t ≠ 109 ∧ t ≠ 89 := by
  obtain ⟨r, G, h1, h2, h3, h4, h5⟩ := h
  refine ⟨fun k => G.foot b k, h5, ⟨r, G, h1, h2, h3, h4, fun _ h => h⟩, Or.inl rfl, fun k hk => ?_⟩
  rcases hk with rfl | hk | hk | hk | ⟨f, hf, hk⟩ | ⟨f, hf, hk⟩
  · obtain ⟨cur, e⟩ := h1.nd.ty; exact ⟨cur, _, e, by decide, by decide⟩
  · obtain ⟨cur, e⟩ := own_block h1.nd.wo.own hk; exact ⟨cur, _, e, by decide, by decide⟩
  · obtain ⟨cur, e⟩ := own_block h1.nd.ho hk; exact ⟨cur, _, e, by decide, by decide⟩
  · obtain ⟨cur, e⟩ := own_block h1.nd.tt.own hk; exact ⟨cur, _, e, by decide, by decide⟩
  · obtain ⟨cur, e⟩ := (h1.fv f hf).block hk; exact ⟨cur, _, e, by decide, by decide⟩
  · obtain ⟨cur, e⟩ := (h1.sv f hf).block hk; exact ⟨cur, _, e, by decide, by decide⟩
end Go.Proofs.YtabecbjfamphbaaGreatDoor

/- The law's world: a list in a field grows; sent (its texts). -/
namespace Go.Proofs.YtabecbjfamphbaaGreatDoor
open Go.RowKit Go.Stop Go.Extern

/-- One list of the struct at b is another, and little else. -/
structure Grw (t : TypeId) (w w' : World) (b i : Nat) (e : TypeId) (sz : Nat) (ad : Option Addr) (len : Nat) (xs : List Value) : Prop where
  how : ∃ ad' cap', w'.cell? ⟨b, i, none⟩ = some (.slice ad' len cap') ∧ w'.ownsRow 0 e sz (.slice ad' len cap') len xs ∧ ∀ k, onB ad' k → onB ad k ∨ w.heap.size ≤ k
  rest : Alike w w' (fun k => k = b ∨ onB ad k)
  others : ∀ j v, j ≠ i → w.cell? ⟨b, j, none⟩ = some v → w'.cell? ⟨b, j, none⟩ = some v
  ty : ∃ cur, w'.heap[b]? = some (.cells cur t (0, 0))
theorem grw_in {t : TypeId} {w x w1 : World} {b i g cap : Nat} {e : TypeId} {sz : Nat} {ad : Option Addr} {len lcap n : Nat} {xs ys : List Value} {u : Value} {H : Nat} (ht : ∃ cur, w.heap[b]? = some (.cells cur t (0, 0))) (he : e ≠ t) (ho : w.ownsRow 0 e sz (.slice ad len lcap) len xs) (hb : Below w.heap.size w x) (hgr : x.grownBy w1 (Value.slice ad len lcap).ownBlock) (hat : (Value.slice ad len lcap).ownBlock = some g ∨ g = H) (hH : w.heap.size ≤ H)
    (how : w1.ownsRow 0 e sz (.slice (some ⟨g, 0, none⟩) n cap) n ys) (hc : w1.cell? ⟨b, i, none⟩ = some u) :
    Grw t w (w1.setCell ⟨b, i, none⟩ (.slice (some ⟨g, 0, none⟩) n cap)) b i e sz ad n ys := by
  obtain ⟨cur, ht⟩ := ht
  have hbl := lt_of_some ht
  have hnb : ¬ onB ad b := fun hk => by
    obtain ⟨c, hh⟩ := own_block ho hk
    exact ty_ne hh ht he rfl
  have h1 : Alike w w1 (onB ad) := (Alike.of_below hb _).trans (Alike.of_grown hgr) (fun k _ hk => own_on ho hk)
  have hty : w1.heap[b]? = some (.cells cur t (0, 0)) := (h1.block b hbl hnb).trans ht
  have hset := Alike.setCell w1 ⟨b, i, none⟩ (.slice (some ⟨g, 0, none⟩) n cap)
  have hgn : onB ad g ∨ w.heap.size ≤ g := by
    rcases hat with h | h
    · exact Or.inl (own_on ho h)
    · exact Or.inr (by omega)
  have hgb : g ≠ b := fun h => by
    subst h
    rcases hgn with h | h
    · exact hnb h
    · omega
  refine ⟨⟨some ⟨g, 0, none⟩, cap, ?_, row_alike2 how hset (fun k ⟨off, hk⟩ he => ?_), fun k ⟨off, hk⟩ => ?_⟩, ((Alike.refl w _).trans h1 (fun k _ h => Or.inr h)).trans hset (fun k _ h => Or.inl h), fun j v hj hv => ?_, ⟨_, heap_setCell_same w1 b i cur _ _ hty⟩⟩
  · go_simp
  · cases hk
    exact hgb he
  · cases hk
    exact hgn
  · have h2 : w1.cell? ⟨b, j, none⟩ = some v := h1.cell hv hnb
    have hj' : ¬ j = i := hj
    have hj2 : ¬ i = j := fun h => hj h.symm
    go_simp
theorem Grw.trans {t : TypeId} {w w1 w2 : World} {b i : Nat} {e : TypeId} {sz : Nat} {ad ad1 : Option Addr} {len1 len2 : Nat} {ys : List Value} (hr : Alike w w1 (fun k => k = b ∨ onB ad k)) (ho : ∀ j v, j ≠ i → w.cell? ⟨b, j, none⟩ = some v → w1.cell? ⟨b, j, none⟩ = some v) (hn : ∀ k, onB ad1 k → onB ad k ∨ w.heap.size ≤ k) (h : Grw t w1 w2 b i e sz ad1 len2 ys) (_hl : len1 ≤ len2) : Grw t w w2 b i e sz ad len2 ys := by
  obtain ⟨⟨ad', cap', h1, h2, h3⟩, h4, h5, h6⟩ := h
  have hs := hr.size
  refine ⟨⟨ad', cap', h1, h2, fun k hk => ?_⟩, hr.trans h4 (fun k hk h => ?_), fun j v hj hv => h5 j v hj (ho j v hj hv), h6⟩
  · rcases h3 k hk with h | h
    · exact hn k h
    · exact Or.inr (by omega)
  · rcases h with h | h
    · exact Or.inl h
    · rcases hn k h with h | h
      · exact Or.inr h
      · omega
end Go.Proofs.YtabecbjfamphbaaGreatDoor

/- The law's world: sent. -/
namespace Go.Proofs.YtabecbjfamphbaaGreatDoor
open Go.RowKit Go.Stop Go.Extern

def txrow (ts : List ByteArray) : List Value := ts.map Value.string
theorem txrow_append (a b : List ByteArray) : txrow (a ++ b) = txrow a ++ txrow b := by simp [txrow]
theorem Tryz.infoStr : (Tryz.prog.info? 9).map (fun i => (i.zero, i.size, i.bytes)) = some (some (.string ⟨#[]⟩), 1, 16) := by kernel_rfl
theorem mrk0_of {w : World} {z n cp sz : Nat} {e : TypeId} {ao : Option Addr} {xs mc : List Value} (h : w.ownsRow z e sz (.slice ao n cp) n xs) : n ≤ cp ∧ Mrk w ao 0 cp sz e mc := by
  rcases h.2 with ⟨he, h0⟩ | ⟨g, cap, cur, he, hg, hh, hnc, hcm, hcs, htk⟩
  · cases he
    exact ⟨by omega, Or.inl ⟨rfl, rfl, rfl⟩⟩
  · cases he
    exact ⟨hnc, Or.inr ⟨g, rfl, ⟨cur, hh, by rw [hcs]; exact Nat.le_refl _⟩, Nat.zero_le _, fun k hk => absurd hk (Nat.not_lt_zero _)⟩⟩
set_option maxRecDepth 100000 in
set_option maxHeartbeats 2000000 in
theorem sent_any (b : Nat) (ta : Option Addr) (tc : Nat) (ts : List ByteArray) (ad : Option Addr) (len cap : Nat) (xs : List Value) (bl bk : Nat) (ao ak : Option Addr) (cp ck : Nat) (ps : List Pk) (hl : len ≤ 1000000) (hps : ps.length ≤ 1000000) (htl : ts.length + ps.length ≤ 1000000000) (w : World) (hty : ∃ cur, w.heap[b]? = some (.cells cur 79 (0, 0))) (c5 : w.cell? ⟨b, 5, none⟩ = some (.slice ta ts.length tc)) (hts : w.ownsRow 0 9 1 (.slice ta ts.length tc) ts.length (txrow ts)) (c2 : w.cell? ⟨b, 2, none⟩ = some (.slice ad len cap)) (hxs : w.ownsRow 0 54 1 (.slice ad len cap) len xs) (hlp : Pks w bl (.slice ao ps.length cp) ps) (hkp : Pks w bk (.slice ak ps.length ck) ps) :
    Calls Tryz.prog 109 #[.pointer (some ⟨b, 0, none⟩), .slice ao ps.length cp, .slice ak ps.length ck] w fun e w' => e = .returned (.bool true) ∧ ∃ w1, Grw 79 w w1 b 5 9 1 ta (ts.length + ps.length) (txrow (ts ++ ps.map Pk.text)) ∧ KeptP w1 w' b ad len xs ao ps.length cp := by
  have HSm : Hid _ := lsamePackets_any bl bk ao ak cp ck ps hps w hlp hkp
  have HTy : Hid _ := hty
  have HTs : Hid _ := hts
  have HC5 : Hid _ := c5
  have HC2 : Hid _ := c2
  have HXs : Hid _ := hxs
  have HL0 : Hid _ := row_mono hlp.own (Nat.zero_le bl)
  have HK0 : Hid _ := row_mono hkp.own (Nat.zero_le bk)
  have HPn : Hid (∀ (a' : Option Addr) (n c : Nat) (zs : List Value) (t : TypeId) (sz : Nat), t ≠ 79 → t ≠ 9 → w.ownsRow 0 t sz (.slice a' n c) n zs → ∀ k, onB a' k → ¬ (k = b ∨ onB ta k)) := fun a' n c zs t sz h1 h2 ho k hk hor => by
    obtain ⟨_, e⟩ := own_block ho hk
    rcases hor with rfl | h
    · obtain ⟨_, e'⟩ := hty
      exact ty_ne e e' h1 rfl
    · obtain ⟨_, e'⟩ := own_block hts h
      exact ty_ne e e' h2 rfl
  clear hlp hkp hty hts hxs c5 c2
  go_enter Tryz.func109, Tryz.ntmps109
  go_wp2_with fail
  refine (show Calls _ _ _ _ _ from HSm.out).mono ?_
  rintro e X ⟨rfl, hbX⟩
  have HG0 : Hid (Grw 79 w X b 5 9 1 ta (ts.length + 0) (txrow (ts ++ (ps.take 0).map Pk.text))) := by
    have ha : Alike w X (fun k => k = b ∨ onB ta k) := Alike.of_below hbX _
    obtain ⟨cur, e⟩ := HTy.out
    refine ⟨⟨ta, tc, (hbX.cell (p := ⟨b, 5, none⟩) (lt_of_cell HC5.out)).trans HC5.out, ?_, fun k hk => Or.inl hk⟩, ha, fun j v _ hv => (hbX.cell (p := ⟨b, j, none⟩) (lt_of_cell hv)).trans hv, ⟨cur, (hbX.block b (lt_of_some e)).trans e⟩⟩
    simpa using row_low HTs.out hbX
  clear hbX
  obtain ⟨i0, hi, hz0, hz1, hz2⟩ := info_parts Tryz.infoStr
  go_wp2_with fail
  go_loopw [8] (fun c wr => ∃ k : Nat, k ≤ ps.length ∧ c = .int .i64 k ∧ Grw 79 w wr b 5 9 1 ta (ts.length + k) (txrow (ts ++ (ps.take k).map Pk.text))) (fun c _ => ps.length - (intOf c).toNat)
  case atStart => exact ⟨0, Nat.zero_le _, rfl, HG0.out⟩
  case round =>
    obtain ⟨k, hkn, rfl, hG⟩ := hrel
    have HG : Hid _ := hG
    by_cases hlt : k < ps.length
    · have hki : (k : Int) < (ps.length : Int) := by omega
      obtain ⟨t, ht⟩ : ∃ t, ps[k]? = some t := ⟨ps[k], List.getElem?_eq_getElem _⟩
      have hkp : Pks wr 0 (.slice ak ps.length ck) ps := ⟨row_alike2 HK0.out hG.rest (fun j hj => HPn.out _ _ _ _ _ _ (by decide) (by decide) HK0.out j hj)⟩
      obtain ⟨gk, hgk, _, d0, d1⟩ := hkp.get ht
      subst hgk
      obtain ⟨ta', tc', c5, hown, hnew⟩ := hG.how
      have HNx : Hid (txrow (ts ++ (ps.take (k + 1)).map Pk.text) = txrow (ts ++ (ps.take k).map Pk.text) ++ [.string t.text]) := by
        show _ = _
        rw [take_snoc ht, List.map_append, ← List.append_assoc, txrow_append (ts ++ _)]
        rfl
      have HNew : Hid (∀ j, onB ta' j → onB ta j ∨ w.heap.size ≤ j) := hnew
      have HTyr : Hid _ := hG.ty
      have hnb : some b ≠ (Value.slice ta' (ts.length + k) tc').ownBlock := fun he => by
        obtain ⟨cur, e⟩ := HTyr.out
        obtain ⟨_, e'⟩ := own_block hown (own_on hown he.symm)
        exact ty_ne e e' (by decide) rfl
      have fz := frozen_ty HTyr.out 5
      have hbX : b < wr.heap.size := lt_of_cell c5
      have HOw : Hid _ := hown
      have HO : Hid (∀ x : World, Below wr.heap.size wr x → x.ownsRow 0 9 1 (.slice ta' (ts.length + k) tc') (ts.length + k) (txrow (ts ++ (ps.take k).map Pk.text))) := fun x hx => row_low hown hx
      obtain ⟨tn, tx⟩ := t
      simp only at d0 d1 HNx
      have hone : ∀ u ∈ ([.string tx] : List Value), u.oneCell' = true := by
        intro u hu
        simp at hu
        subst hu
        rfl
      have htlen : ts.length + k ≤ 1000000000 := by omega
      obtain ⟨tlen, htlen'⟩ : ∃ tlen, tlen = ts.length + k := ⟨_, rfl⟩
      have HTl : Hid (tlen = ts.length + k) := htlen'
      rw [← htlen'] at c5 hnb HO HOw htlen
      generalize hxs' : txrow (ts ++ (ps.take k).map Pk.text) = xs' at *
      clear hG hown hnew ht hkp htlen'
      go_wp2_with fail
      go_region_law
        (refine step_append_lies _ rfl (.tmp 22) (.tmp 28) 77 rfl 0 9 i0 _ 1 16 Tryz.underlying77 hi hz0 hz1 hz2 rfl (by decide) (.slice ta' tlen tc') tlen xs' (by simp [Act.eval]) (HO.out _ (by first | exact (below1 _ _).drew | exact ((Below.refl _ _).drew).trans (below1 _ _) | exact below1 _ _)) ⟨wr.heap.size, 0, none⟩ 1 1 [.string tx] (by simp [Act.eval]) rfl (World.news_of_block (heap_alloc_new wr _)) hone (by decide) (by unfold maxLen; omega) (by omega) (Nat.zero_le _) _ rfl ?_; intro g' cap' v1 hown hgrow hat hlt2; have HO1 : Hid (World.ownsRow v1 0 9 1 (.slice (some ⟨g', 0, none⟩) (tlen + 1) cap') (tlen + 1) (xs' ++ [.string tx])) := hown; have HX : Hid (∃ x0 : World, ∃ H : Nat, Below wr.heap.size wr x0 ∧ x0.grownBy v1 (Value.slice ta' tlen tc').ownBlock ∧ ((Value.slice ta' tlen tc').ownBlock = some g' ∨ g' = H) ∧ wr.heap.size ≤ H) := ⟨_, _, (by first | exact (below1 _ _).drew | exact ((Below.refl _ _).drew).trans (below1 _ _) | exact below1 _ _), hgrow, hat, (by simp)⟩; have c11 : v1.cell? ⟨b, 5, none⟩ = some (.slice ta' tlen tc') := (hgrow.cell_far ⟨b, 5, none⟩ (by simp; omega) hnb).trans ((Below.cell (B := wr.heap.size) (w := wr) (by first | exact (below1 _ _).drew | exact ((Below.refl _ _).drew).trans (below1 _ _) | exact below1 _ _) (p := ⟨b, 5, none⟩) hbX).trans c5); have f11 : v1.frozen? ⟨b, 5, none⟩ = false := (hgrow.frozen_far ⟨b, 5, none⟩ (by simp; omega) hnb).trans ((Below.frozen (B := wr.heap.size) (w := wr) (by first | exact (below1 _ _).drew | exact ((Below.refl _ _).drew).trans (below1 _ _) | exact below1 _ _) (p := ⟨b, 5, none⟩) hbX).trans fz); clear hown hgrow hat hlt2)
      all_goals
        have HG2 : Hid (Grw 79 w (v1.setCell ⟨b, 5, none⟩ (.slice (some ⟨g', 0, none⟩) (tlen + 1) cap')) b 5 9 1 ta (ts.length + (k + 1)) (txrow (ts ++ (ps.take (k + 1)).map Pk.text))) := by
          obtain ⟨x0, H, hx0, hgr, hat, hH⟩ := HX.out
          have h0 := grw_in (t := 79) (i := 5) (u := .slice ta' tlen tc') HTyr.out (by decide) HOw.out hx0 hgr hat hH HO1.out c11
          have h1 := Grw.trans (len1 := 0) HG.out.rest HG.out.others HNew.out h0 (Nat.zero_le _)
          rw [HNx.out]
          have e : tlen + 1 = ts.length + (k + 1) := by have := HTl.out; omega
          rw [← e]
          exact h1
        go_wp2_with fail
        go_roundw
        case rel => exact ⟨k + 1, by omega, by go_num, HG2.out⟩
        case measure => simp [intOf]; omega
    · have hkn' : k = ps.length := by omega
      subst hkn'
      have HLr : Hid _ := mrk0_of (mc := mpack len) (row_alike2 HL0.out hG.rest (fun j hj => HPn.out _ _ _ _ _ _ (by decide) (by decide) HL0.out j hj))
      have HKe : Hid _ := keepPackets_any b ad len cap xs ao ps.length cp hl hps HLr.out.1 wr (hG.others 2 _ (by decide) HC2.out) hG.ty (row_alike2 HXs.out hG.rest (fun j hj => HPn.out _ _ _ _ _ _ (by decide) (by decide) HXs.out j hj)) HLr.out.2
      have HTk : Hid (ps.take ps.length = ps) := by show _ = _; rw [List.take_length]
      clear hG
      go_wp2_with fail
      refine (show Calls _ _ _ _ _ from HKe.out).mono ?_
      rintro e w' ⟨rfl, hk⟩
      have HKp : Hid _ := hk
      clear hk
      go_wp2_with fail
      go_ret
      refine ⟨rfl, wr, ?_, HKp.out⟩
      have h1 := HG.out
      rw [HTk.out] at h1
      exact h1
end Go.Proofs.YtabecbjfamphbaaGreatDoor

/- The law's world: its book in memory. -/
namespace Go.Proofs.YtabecbjfamphbaaGreatDoor
open Go.RowKit Go.Stop Go.Extern

def lty : Nat → TypeId
  | 0 => 34
  | 1 => 62
  | _ => 54
def ety : Nat → TypeId
  | 0 => 3
  | 1 => 89
  | _ => 109
def esz : Nat → Nat
  | 0 => 1
  | 1 => 3
  | _ => 2
def emk : Nat → Nat → List Value
  | 0 => mint
  | 1 => mword
  | _ => mpack
/-- A list was kept (the shelf c). -/
structure KeptG (c : Nat) (w w' : World) (b : Nat) (ad : Option Addr) (len : Nat) (xs : List Value) (ao : Option Addr) (n cp : Nat) : Prop where
  how : ∃ ad' cap' a1 c1 a2 c2 a3 c3, w'.cell? ⟨b, c, none⟩ = some (.slice ad' (len + 4) cap') ∧ w'.ownsRow 0 (lty c) 1 (.slice ad' (len + 4) cap') (len + 4) (xs ++ [.slice ao n cp, .slice a1 (n + 1) c1, .slice a2 (n + 2) c2, .slice a3 (n + 3) c3])
    ∧ Mrk w' ao n cp (esz c) (ety c) (emk c len) ∧ Mrk w' a1 (n + 1) c1 (esz c) (ety c) (emk c len) ∧ Mrk w' a2 (n + 2) c2 (esz c) (ety c) (emk c len) ∧ Mrk w' a3 (n + 3) c3 (esz c) (ety c) (emk c len)
    ∧ (∀ k, onB a1 k ∨ onB a2 k ∨ onB a3 k → onB ao k ∨ w.heap.size ≤ k) ∧ (∀ k, onB ad' k → onB ad k ∨ w.heap.size ≤ k)
  rest : Alike w w' (fun k => k = b ∨ onB ao k ∨ onB ad k)
  others : ∀ j v, j ≠ c → w.cell? ⟨b, j, none⟩ = some v → w'.cell? ⟨b, j, none⟩ = some v
  ty : ∃ cur, w'.heap[b]? = some (.cells cur 79 (0, 0))
theorem KeptI.g {w w' : World} {b : Nat} {ad : Option Addr} {len : Nat} {xs : List Value} {ao : Option Addr} {n cp : Nat} (h : KeptI w w' b ad len xs ao n cp) : KeptG 0 w w' b ad len xs ao n cp := ⟨h.how, h.rest, h.others, h.ty⟩
theorem KeptW.g {w w' : World} {b : Nat} {ad : Option Addr} {len : Nat} {xs : List Value} {ao : Option Addr} {n cp : Nat} (h : KeptW w w' b ad len xs ao n cp) : KeptG 1 w w' b ad len xs ao n cp := ⟨h.how, h.rest, h.others, h.ty⟩
theorem KeptP.g {w w' : World} {b : Nat} {ad : Option Addr} {len : Nat} {xs : List Value} {ao : Option Addr} {n cp : Nat} (h : KeptP w w' b ad len xs ao n cp) : KeptG 2 w w' b ad len xs ao n cp := ⟨h.how, h.rest, h.others, h.ty⟩
/-- The lists of a shelf: each its mark throughout. -/
def Shv (w : World) (c : Nat) (xs : List Value) (O : Nat → Prop) : Prop := ∀ i v, xs[i]? = some v → ∃ a n cp, v = .slice a n cp ∧ n ≤ 100000000 ∧ Mrk w a n cp (esz c) (ety c) (emk c (i / 4 * 4)) ∧ ∀ k, onB a k → O k
/-- A list in a field of the struct at wb. -/
def FRow (w : World) (wb i : Nat) (e : TypeId) (sz n : Nat) (xs : List Value) (O : Nat → Prop) : Prop := ∃ ad cap, w.cell? ⟨wb, i, none⟩ = some (.slice ad n cap) ∧ w.ownsRow 0 e sz (.slice ad n cap) n xs ∧ ∀ k, onB ad k → O k
theorem mrk_block {w : World} {a : Option Addr} {n cp sz : Nat} {e : TypeId} {mc : List Value} (h : Mrk w a n cp sz e mc) {k : Nat} (hk : onB a k) : ∃ cur, w.heap[k]? = some (.cells cur e (0, 0)) := by
  rcases h with ⟨rfl, _⟩ | ⟨g, rfl, ⟨cur, hh, _⟩, _⟩
  · obtain ⟨_, h⟩ := hk
    cases h
  · obtain ⟨_, h⟩ := hk
    cases h
    exact ⟨cur, hh⟩
theorem Shv.move {w w' : World} {c : Nat} {xs : List Value} {O O' E : Nat → Prop} (h : Shv w c xs O) (ha : Alike w w' E) (hE : ∀ k cur, w.heap[k]? = some (.cells cur (ety c) (0, 0)) → O k → ¬ E k) (hO : ∀ k, O k → O' k) : Shv w' c xs O' := fun i v hv => by
  obtain ⟨a, n, cp, rfl, hn, hM, ho⟩ := h i v hv
  refine ⟨a, n, cp, rfl, hn, hM.low ha (fun k hk he => ?_), fun k hk => hO k (ho k hk)⟩
  obtain ⟨cur, hh⟩ := mrk_block hM hk
  exact hE k cur hh (ho k hk) he
theorem FRow.move {w w' : World} {wb i : Nat} {e : TypeId} {sz n : Nat} {xs : List Value} {O O' E : Nat → Prop} (h : FRow w wb i e sz n xs O) (hc : ∀ v, w.cell? ⟨wb, i, none⟩ = some v → w'.cell? ⟨wb, i, none⟩ = some v) (ha : Alike w w' E) (hE : ∀ k cur, w.heap[k]? = some (.cells cur e (0, 0)) → O k → ¬ E k) (hO : ∀ k, O k → O' k) : FRow w' wb i e sz n xs O' := by
  obtain ⟨ad, cap, h1, h2, h3⟩ := h
  refine ⟨ad, cap, hc _ h1, row_alike2 h2 ha (fun k hk he => ?_), fun k hk => hO k (h3 k hk)⟩
  obtain ⟨cur, hh⟩ := own_block h2 hk
  exact hE k cur hh (h3 k hk) he
theorem Shv.shlf {w : World} {c : Nat} {xs : List Value} {O : Nat → Prop} {ad : Option Addr} {len cap : Nat} (h : Shv w c xs O) (ho : w.ownsRow 0 (lty c) 1 (.slice ad len cap) len xs) : Shlf w ad len (esz c) (emk c) := fun i hi => by
  have hx := ho.1
  rcases ho.2 with ⟨_, h0⟩ | ⟨r, cap', cur, he, _⟩
  · omega
  · cases he
    have hil : i < xs.length := by omega
    obtain ⟨a, n, cp, e, hn, hM, _⟩ := h i _ (List.getElem?_eq_getElem hil)
    refine ⟨r, a, n, cp, rfl, ?_, hn, fun k hk => ?_⟩
    · rw [World.ownsRow.cellAt ho i (by omega), List.getElem?_eq_getElem hil, e]
    · rcases hM with ⟨_, h0, _⟩ | ⟨g, e', _, _, hcell⟩
      · omega
      · exact ⟨g, e', fun j v hj => hcell k hk j v hj⟩
/-- The law's world, but for its nodes and nets: O are its blocks. -/
structure BkAt (w : World) (wb t u : Nat) (kr nr : List Value) (nk nn : Nat) (O : Nat → Prop) : Prop where
  ty : ∃ cur, w.heap[wb]? = some (.cells cur 79 (0, 0))
  sh : ∀ c, c < 3 → ∃ ln xs, ln ≤ 4 * t ∧ ln % 4 = 0 ∧ FRow w wb c (lty c) 1 ln xs O ∧ Shv w c xs O
  kn : FRow w wb 3 123 2 nk kr O
  nt : FRow w wb 4 128 2 nn nr O
  tx : ∃ ts : List ByteArray, FRow w wb 5 9 1 ts.length (txrow ts) O ∧ ts.length ≤ 1000 * u ∧ ∀ x ∈ ts, x.size ≤ 100
  self : O wb
  lt : ∀ k, O k → k < w.heap.size
section
variable {w w' : World} {wb t u nk nn : Nat} {kr nr : List Value} {O E : Nat → Prop}
theorem BkAt.alike (h : BkAt w wb t u kr nr nk nn O) (ha : Alike w w' E) (hE : ∀ k, O k → ¬ E k) : BkAt w' wb t u kr nr nk nn O := by
  have hc : ∀ i v, w.cell? ⟨wb, i, none⟩ = some v → w'.cell? ⟨wb, i, none⟩ = some v := fun i v hv => ha.cell hv (hE wb h.self)
  refine ⟨?_, fun c hc3 => ?_, h.kn.move (hc 3) ha (fun k _ _ hk => hE k hk) (fun _ h => h), h.nt.move (hc 4) ha (fun k _ _ hk => hE k hk) (fun _ h => h), ?_, h.self, fun k hk => Nat.lt_of_lt_of_le (h.lt k hk) ha.size⟩
  · obtain ⟨cur, e⟩ := h.ty
    exact ⟨cur, (ha.block wb (lt_of_some e) (hE wb h.self)).trans e⟩
  · obtain ⟨ln, xs, h1, h2, h3, h4⟩ := h.sh c hc3
    exact ⟨ln, xs, h1, h2, h3.move (hc c) ha (fun k _ _ hk => hE k hk) (fun _ h => h), h4.move ha (fun k _ _ hk => hE k hk) (fun _ h => h)⟩
  · obtain ⟨ts, h1, h2⟩ := h.tx
    exact ⟨ts, h1.move (hc 5) ha (fun k _ _ hk => hE k hk) (fun _ h => h), h2⟩
theorem BkAt.low (h : BkAt w wb t u kr nr nk nn O) (hb : Below w.heap.size w w') : BkAt w' wb t u kr nr nk nn O := h.alike (Alike.of_below hb (fun _ => False)) (fun _ _ h => h)
theorem BkAt.more {t' u' : Nat} (h : BkAt w wb t u kr nr nk nn O) (ht : t ≤ t') (hu : u ≤ u') : BkAt w wb t' u' kr nr nk nn O := by
  refine ⟨h.ty, fun c hc => ?_, h.kn, h.nt, ?_, h.self, h.lt⟩
  · obtain ⟨ln, xs, h1, h2⟩ := h.sh c hc
    exact ⟨ln, xs, by omega, h2⟩
  · obtain ⟨ts, h1, h2, h3⟩ := h.tx
    exact ⟨ts, h1, by omega, h3⟩
theorem lty_ne : ∀ c, c < 3 → ∀ c', c' < 3 → c ≠ c' → lty c ≠ lty c' := by decide
theorem lty_ety : ∀ c, c < 3 → ∀ c', c' < 3 → lty c ≠ ety c' := by decide
theorem lty_else : ∀ c, c < 3 → lty c ≠ 79 ∧ lty c ≠ 123 ∧ lty c ≠ 128 ∧ lty c ≠ 9 := by decide
theorem ety_else : ∀ c, c < 3 → ety c ≠ 79 ∧ ety c ≠ 123 ∧ ety c ≠ 128 ∧ ety c ≠ 9 := by decide
/-- A list came onto the shelf c. -/
theorem BkAt.kept (h : BkAt w wb t u kr nr nk nn O) {c : Nat} (hc3 : c < 3) {ad : Option Addr} {ln cap : Nat} {xs : List Value} {ao : Option Addr} {n cp : Nat} (hln : ln ≤ 4 * t) (h4 : ln % 4 = 0) (hn : n ≤ 1000000) (hown : w.ownsRow 0 (lty c) 1 (.slice ad ln cap) ln xs) (hS : Shv w c xs O) (had : ∀ k, onB ad k → O k) (hao : ∀ k, onB ao k → ¬ O k) (hk : KeptG c w w' wb ad ln xs ao n cp) :
    BkAt w' wb (t + 1) u kr nr nk nn (fun k => k < w'.heap.size ∧ (O k ∨ onB ao k ∨ w.heap.size ≤ k)) := by
  obtain ⟨⟨ad', cap', a1, c1, a2, c2, a3, c3, hcell, hown', m0, m1, m2, m3, hnew, hnad⟩, hrest, hoth, hty⟩ := hk
  obtain ⟨curw, htw⟩ := h.ty
  have hsz := hrest.size
  have hOO : ∀ k, O k → k < w'.heap.size ∧ (O k ∨ onB ao k ∨ w.heap.size ≤ k) := fun k hk => ⟨Nat.lt_of_lt_of_le (h.lt k hk) hsz, Or.inl hk⟩
  have hapart : ∀ (e : TypeId), e ≠ lty c → e ≠ 79 → ∀ k cur, w.heap[k]? = some (.cells cur e (0, 0)) → O k → ¬ (k = wb ∨ onB ao k ∨ onB ad k) := fun e h1 h2 k cur hh ho hor => by
    rcases hor with rfl | hk | hk
    · exact ty_ne hh htw h2 rfl
    · exact hao k hk ho
    · obtain ⟨_, hh'⟩ := own_block hown hk
      exact ty_ne hh hh' h1 rfl
  have hon : ∀ {a : Option Addr} {m cq : Nat} {mc : List Value}, Mrk w' a m cq (esz c) (ety c) mc → ∀ k, onB a k → k < w'.heap.size := fun hM k hk => by
    obtain ⟨_, e⟩ := mrk_block hM hk
    exact lt_of_some e
  refine ⟨hty, fun c' hc' => ?_, ?_, ?_, ?_, hOO wb h.self, fun k hk => hk.1⟩
  · by_cases hcc : c' = c
    · subst hcc
      refine ⟨ln + 4, _, by omega, by omega, ⟨ad', cap', hcell, hown', fun k hk => ?_⟩, fun i v hv => ?_⟩
      · obtain ⟨_, e⟩ := own_block hown' hk
        refine ⟨lt_of_some e, ?_⟩
        rcases hnad k hk with h1 | h1
        · exact Or.inl (had k h1)
        · exact Or.inr (Or.inr h1)
      · have hxl : xs.length = ln := by have := hown.1; omega
        rcases Nat.lt_or_ge i xs.length with hi | hi
        · rw [List.getElem?_append_left hi] at hv
          exact (hS.move hrest (fun k cur hh ho => hapart _ (fun e => lty_ety c' hc3 c' hc3 e.symm) (ety_else c' hc3).1 k cur hh ho) hOO) i v hv
        · rw [List.getElem?_append_right hi, hxl] at hv
          have hil : i - ln < 4 := (List.getElem?_eq_some_iff.1 hv).1
          have hi4 : i / 4 * 4 = ln := by omega
          rw [hi4]
          have h0 : ∀ k, onB ao k → k < w'.heap.size ∧ (O k ∨ onB ao k ∨ w.heap.size ≤ k) := fun k hk => ⟨hon m0 k hk, Or.inr (Or.inl hk)⟩
          have hj : i - ln = 0 ∨ i - ln = 1 ∨ i - ln = 2 ∨ i - ln = 3 := by omega
          rcases hj with e | e | e | e <;> rw [e] at hv <;> simp at hv <;> subst hv
          · exact ⟨_, _, _, rfl, by omega, m0, h0⟩
          · exact ⟨_, _, _, rfl, by omega, m1, fun k hk => ⟨hon m1 k hk, Or.inr (hnew k (Or.inl hk))⟩⟩
          · exact ⟨_, _, _, rfl, by omega, m2, fun k hk => ⟨hon m2 k hk, Or.inr (hnew k (Or.inr (Or.inl hk)))⟩⟩
          · exact ⟨_, _, _, rfl, by omega, m3, fun k hk => ⟨hon m3 k hk, Or.inr (hnew k (Or.inr (Or.inr hk)))⟩⟩
    · obtain ⟨ln', xs', h1, h2, h3, h5⟩ := h.sh c' hc'
      exact ⟨ln', xs', by omega, h2, h3.move (fun v => hoth c' v hcc) hrest (hapart _ (lty_ne c' hc' c hc3 hcc) (lty_else c' hc').1) hOO, h5.move hrest (hapart _ (fun e => lty_ety c hc3 c' hc' e.symm) (ety_else c' hc').1) hOO⟩
  · exact h.kn.move (fun v => hoth 3 v (by omega)) hrest (hapart _ (fun e => (lty_else c hc3).2.1 e.symm) (by decide)) hOO
  · exact h.nt.move (fun v => hoth 4 v (by omega)) hrest (hapart _ (fun e => (lty_else c hc3).2.2.1 e.symm) (by decide)) hOO
  · obtain ⟨ts, h1, h2⟩ := h.tx
    exact ⟨ts, h1.move (fun v => hoth 5 v (by omega)) hrest (hapart _ (fun e => (lty_else c hc3).2.2.2 e.symm) (by decide)) hOO, h2⟩
/-- Texts came behind the others. -/
theorem BkAt.texts (h : BkAt w wb t u kr nr nk nn O) {ta : Option Addr} {tc : Nat} {ts us : List ByteArray} (hown : w.ownsRow 0 9 1 (.slice ta ts.length tc) ts.length (txrow ts)) (hta : ∀ k, onB ta k → O k) (hts : ts.length ≤ 1000 * u) (hsz : ∀ x ∈ ts, x.size ≤ 100) (hus : us.length ≤ 1000) (hsu : ∀ x ∈ us, x.size ≤ 100) (hg : Grw 79 w w' wb 5 9 1 ta (ts.length + us.length) (txrow (ts ++ us))) :
    BkAt w' wb t (u + 1) kr nr nk nn (fun k => k < w'.heap.size ∧ (O k ∨ w.heap.size ≤ k)) := by
  obtain ⟨⟨ad', cap', hcell, hown', hnew⟩, hrest, hoth, hty⟩ := hg
  obtain ⟨curw, htw⟩ := h.ty
  have hsize := hrest.size
  have hOO : ∀ k, O k → k < w'.heap.size ∧ (O k ∨ w.heap.size ≤ k) := fun k hk => ⟨Nat.lt_of_lt_of_le (h.lt k hk) hsize, Or.inl hk⟩
  have hapart : ∀ (e : TypeId), e ≠ 9 → e ≠ 79 → ∀ k cur, w.heap[k]? = some (.cells cur e (0, 0)) → O k → ¬ (k = wb ∨ onB ta k) := fun e h1 h2 k cur hh ho hor => by
    rcases hor with rfl | hk
    · exact ty_ne hh htw h2 rfl
    · obtain ⟨_, hh'⟩ := own_block hown hk
      exact ty_ne hh hh' h1 rfl
  refine ⟨hty, fun c hc => ?_, h.kn.move (fun v => hoth 3 v (by omega)) hrest (hapart _ (by decide) (by decide)) hOO, h.nt.move (fun v => hoth 4 v (by omega)) hrest (hapart _ (by decide) (by decide)) hOO, ⟨ts ++ us, ⟨ad', cap', by rw [List.length_append]; exact hcell, by rw [List.length_append]; exact hown', fun k hk => ?_⟩, by rw [List.length_append]; omega, fun x hx => ?_⟩, hOO wb h.self, fun k hk => hk.1⟩
  · obtain ⟨ln, xs, h1, h2, h3, h4⟩ := h.sh c hc
    exact ⟨ln, xs, h1, h2, h3.move (fun v => hoth c v (by omega)) hrest (hapart _ (lty_else c hc).2.2.2 (lty_else c hc).1) hOO, h4.move hrest (hapart _ (ety_else c hc).2.2.2 (ety_else c hc).1) hOO⟩
  · obtain ⟨_, e⟩ := own_block hown' hk
    refine ⟨lt_of_some e, ?_⟩
    rcases hnew k hk with h1 | h1
    · exact Or.inl (hta k h1)
    · exact Or.inr h1
  · rcases List.mem_append.1 hx with h1 | h1
    · exact hsz x h1
    · exact hsu x h1
/-- A node came behind the others. -/
theorem BkAt.knots {nk' : Nat} {kr' : List Value} (h : BkAt w wb t u kr nr nk nn O) {ka : Option Addr} {kc : Nat} (hown : w.ownsRow 0 123 2 (.slice ka nk kc) nk kr) (hka : ∀ k, onB ka k → O k) (hg : Grw 79 w w' wb 3 123 2 ka nk' kr') :
    BkAt w' wb t u kr' nr nk' nn (fun k => k < w'.heap.size ∧ (O k ∨ ((∃ cur, w'.heap[k]? = some (.cells cur 123 (0, 0))) ∧ w.heap.size ≤ k))) := by
  obtain ⟨⟨ad', cap', hcell, hown', hnew⟩, hrest, hoth, hty⟩ := hg
  obtain ⟨curw, htw⟩ := h.ty
  have hsize := hrest.size
  have hOO : ∀ k, O k → k < w'.heap.size ∧ (O k ∨ ((∃ cur, w'.heap[k]? = some (.cells cur 123 (0, 0))) ∧ w.heap.size ≤ k)) := fun k hk => ⟨Nat.lt_of_lt_of_le (h.lt k hk) hsize, Or.inl hk⟩
  have hapart : ∀ (e : TypeId), e ≠ 123 → e ≠ 79 → ∀ k cur, w.heap[k]? = some (.cells cur e (0, 0)) → O k → ¬ (k = wb ∨ onB ka k) := fun e h1 h2 k cur hh ho hor => by
    rcases hor with rfl | hk
    · exact ty_ne hh htw h2 rfl
    · obtain ⟨_, hh'⟩ := own_block hown hk
      exact ty_ne hh hh' h1 rfl
  refine ⟨hty, fun c hc => ?_, ⟨ad', cap', hcell, hown', fun k hk => ?_⟩, h.nt.move (fun v => hoth 4 v (by omega)) hrest (hapart _ (by decide) (by decide)) hOO, ?_, hOO wb h.self, fun k hk => hk.1⟩
  · obtain ⟨ln, xs, h1, h2, h3, h4⟩ := h.sh c hc
    exact ⟨ln, xs, h1, h2, h3.move (fun v => hoth c v (by omega)) hrest (hapart _ (lty_else c hc).2.1 (lty_else c hc).1) hOO, h4.move hrest (hapart _ (ety_else c hc).2.1 (ety_else c hc).1) hOO⟩
  · obtain ⟨cur, e⟩ := own_block hown' hk
    refine ⟨lt_of_some e, ?_⟩
    rcases hnew k hk with h1 | h1
    · exact Or.inl (hka k h1)
    · exact Or.inr ⟨⟨cur, e⟩, h1⟩
  · obtain ⟨ts, h1, h2⟩ := h.tx
    exact ⟨ts, h1.move (fun v => hoth 5 v (by omega)) hrest (hapart _ (by decide) (by decide)) hOO, h2⟩
/-- All lists that were kept still read as they were written. -/
theorem BkAt.looks (h : BkAt w wb t u kr nr nk nn O) (ht : t ≤ 250000) :
    Calls Tryz.prog 38 #[.pointer (some ⟨wb, 0, none⟩)] w fun e w' => e = .returned (.bool true) ∧ Below w.heap.size w w' := by
  obtain ⟨l0, x0, a1, _, ⟨ad0, cap0, c0, o0, _⟩, s0⟩ := h.sh 0 (by decide)
  obtain ⟨l1, x1, a2, _, ⟨ad1, cap1, c1, o1, _⟩, s1⟩ := h.sh 1 (by decide)
  obtain ⟨l2, x2, a3, _, ⟨ad2, cap2, c2, o2, _⟩, s2⟩ := h.sh 2 (by decide)
  exact looks_any wb ad0 ad1 ad2 l0 l1 l2 cap0 cap1 cap2 w c0 c1 c2 (by omega) (by omega) (by omega) (s0.shlf o0) (s1.shlf o1) (s2.shlf o2)
end
end Go.Proofs.YtabecbjfamphbaaGreatDoor

/- The law's world: its nodes, the program's and the document's. -/
namespace Go.Proofs.YtabecbjfamphbaaGreatDoor
open Go.RowKit Go.Stop Go.Extern

/-- A node of the program beside the document's. -/
structure Kn where
  fb : Nat
  rb : Nat
  g : Gr
  p : Nat
  s : NS
def Kn.cells (k : Kn) : List Value := [.pointer (some ⟨k.fb, 0, none⟩), .pointer (some ⟨k.rb, 0, none⟩)]
def knrow (ks : List Kn) : List Value := ks.flatMap Kn.cells
theorem knrow_append (a b : List Kn) : knrow (a ++ b) = knrow a ++ knrow b := by simp [knrow]
theorem knrow_get : ∀ (ks : List Kn) (i : Nat) (k : Kn), ks[i]? = some k → (knrow ks)[i * 2]? = some (.pointer (some ⟨k.fb, 0, none⟩)) ∧ (knrow ks)[i * 2 + 1]? = some (.pointer (some ⟨k.rb, 0, none⟩))
  | [], i, k, h => by simp at h
  | a :: ks, 0, k, h => by
    simp at h
    subst h
    simp [knrow, Kn.cells]
  | a :: ks, i + 1, k, h => by
    have h' := knrow_get ks i k (by simpa using h)
    have e : knrow (a :: ks) = .pointer (some ⟨a.fb, 0, none⟩) :: .pointer (some ⟨a.rb, 0, none⟩) :: knrow ks := by simp [knrow, Kn.cells]
    rw [e, show (i + 1) * 2 + 1 = (i * 2 + 1) + 1 + 1 by omega, show (i + 1) * 2 = (i * 2) + 1 + 1 by omega]
    simpa using h'
theorem knrow_set : ∀ (ks : List Kn) (i : Nat) (k k' : Kn), ks[i]? = some k → k'.fb = k.fb → k'.rb = k.rb → knrow (ks.set i k') = knrow ks
  | [], i, k, k', h, _, _ => by simp at h
  | a :: ks, 0, k, k', h, h1, h2 => by
    simp at h
    subst h
    simp [knrow, Kn.cells, h1, h2]
  | a :: ks, i + 1, k, k', h, h1, h2 => by
    have h' := knrow_set ks i k k' (by simpa using h) h1 h2
    have e : ∀ l, knrow (a :: l) = .pointer (some ⟨a.fb, 0, none⟩) :: .pointer (some ⟨a.rb, 0, none⟩) :: knrow l := fun l => by simp [knrow, Kn.cells]
    rw [List.set_cons_succ, e, e, h']
structure KnotAt (w : World) (k : Kn) (m : Nat) (F : Nat → Prop) : Prop where
  g : k.g.Ok
  p : k.p < k.g.n
  s : k.s.Ok k.g k.p
  how : ∃ b F1 F2, w.cell? ⟨k.fb, 0, none⟩ = some (.pointer (some ⟨b, 0, none⟩)) ∧ NodeAt w b k.g k.p k.s F1 ∧ RefAt w k.rb k.g k.p k.s m F2 ∧ (∀ j, F1 j → ¬ F2 j ∧ j ≠ k.fb) ∧ (∀ j, F2 j → j ≠ k.fb) ∧ ∀ j, F j ↔ (j = k.fb ∨ F1 j ∨ F2 j)
  ty : ∀ j, F j → j = k.fb ∨ ∃ cur t, w.heap[j]? = some (.cells cur t (0, 0)) ∧ t ≠ 109
section
variable {w w' : World} {k : Kn} {m : Nat} {F E : Nat → Prop}
theorem KnotAt.lt (h : KnotAt w k m F) {j : Nat} (hj : F j) : j < w.heap.size := by
  rcases h.ty j hj with rfl | ⟨_, _, e, _⟩
  · obtain ⟨_, _, _, hc, _⟩ := h.how
    exact lt_of_cell hc
  · exact lt_of_some e
theorem KnotAt.alike (h : KnotAt w k m F) (ha : Alike w w' E) (hE : ∀ j, F j → ¬ E j) : KnotAt w' k m F := by
  obtain ⟨b, F1, F2, h1, h2, h3, h4, h5, h6⟩ := h.how
  refine ⟨h.g, h.p, h.s, ⟨b, F1, F2, ha.cell h1 (hE _ ((h6 _).2 (Or.inl rfl))), h2.alike ha (fun j hj => hE j ((h6 j).2 (Or.inr (Or.inl hj)))), h3.alike ha (fun j hj => hE j ((h6 j).2 (Or.inr (Or.inr hj)))), h4, h5, h6⟩, fun j hj => ?_⟩
  rcases h.ty j hj with e | ⟨cur, t, e, ht⟩
  · exact Or.inl e
  · exact Or.inr ⟨cur, t, (ha.block j (lt_of_some e) (hE j hj)).trans e, ht⟩
theorem KnotAt.low (h : KnotAt w k m F) (hb : Below w.heap.size w w') : KnotAt w' k m F := h.alike (Alike.of_below hb (fun _ => False)) (fun _ _ h => h)
theorem KnotAt.more {m' : Nat} (h : KnotAt w k m F) (hm : m ≤ m') : KnotAt w k m' F := by
  obtain ⟨b, F1, F2, h1, h2, h3, h4⟩ := h.how
  exact ⟨h.g, h.p, h.s, ⟨b, F1, F2, h1, h2, h3.more hm, h4⟩, h.ty⟩
/-- Both parts of a node, by blocks of their own. -/
theorem knotAt_of {b : Nat} {F1 F2 : Nat → Prop} (hg : k.g.Ok) (hp : k.p < k.g.n) (hs : k.s.Ok k.g k.p) (h1 : w.cell? ⟨k.fb, 0, none⟩ = some (.pointer (some ⟨b, 0, none⟩))) (h2 : NodeAt w b k.g k.p k.s F1) (h3 : RefAt w k.rb k.g k.p k.s m F2) (h4 : ∀ j, F1 j → ¬ F2 j ∧ j ≠ k.fb) (h5 : ∀ j, F2 j → j ≠ k.fb) : ∃ F', KnotAt w k m F' ∧ ∀ j, F' j → j = k.fb ∨ F1 j ∨ F2 j := by
  obtain ⟨F0, t1, t2, _, t4⟩ := h3.tight
  refine ⟨fun j => j = k.fb ∨ F1 j ∨ F0 j, ⟨hg, hp, hs, ⟨b, F1, F0, h1, h2, t2, fun j hj => ⟨fun hc => (h4 j hj).1 (t1 j hc), (h4 j hj).2⟩, fun j hj => h5 j (t1 j hj), fun _ => Iff.rfl⟩, fun j hj => ?_⟩, fun j hj => ?_⟩
  · rcases hj with e | hj | hj
    · exact Or.inl e
    · exact Or.inr (h2.noPk hj)
    · obtain ⟨cur, t, e, ht, _⟩ := t4 j hj
      exact Or.inr ⟨cur, t, e, ht⟩
  · rcases hj with e | hj | hj
    · exact Or.inl e
    · exact Or.inr (Or.inl hj)
    · exact Or.inr (Or.inr (t1 j hj))
end
/-- The blocks R are what they were, and so is all outside memory. -/
structure Kp2 (R : Nat → Prop) (w w' : World) : Prop where
  blk : ∀ j, R j → w'.heap[j]? = w.heap[j]?
  size : w.heap.size ≤ w'.heap.size
  same : w'.os = w.os ∧ w'.tape = w.tape ∧ w'.output = w.output
theorem Kp2.trans {R : Nat → Prop} {w w1 w2 : World} (h : Kp2 R w w1) (h' : Kp2 R w1 w2) : Kp2 R w w2 := ⟨fun j hj => (h'.blk j hj).trans (h.blk j hj), Nat.le_trans h.size h'.size, h'.same.1.trans h.same.1, h'.same.2.1.trans h.same.2.1, h'.same.2.2.trans h.same.2.2⟩
theorem Kp2.of {R E : Nat → Prop} {w w' : World} (ha : Alike w w' E) (h : ∀ j, R j → j < w.heap.size ∧ ¬ E j) : Kp2 R w w' := ⟨fun j hj => ha.block j (h j hj).1 (h j hj).2, ha.size, ha.same⟩
theorem Kp2.below {R : Nat → Prop} {w w' : World} {z : Nat} (h : Kp2 R w w') (hR : ∀ j, j < z → R j) : Below z w w' := ⟨h.same.1, h.same.2.1, h.same.2.2, h.size, fun k hk => h.blk k (hR k hk)⟩
/-- The row of nodes is what it was. -/
def KnS (wb : Nat) (w w' : World) : Prop := ∀ ad n cap, w.cell? ⟨wb, 3, none⟩ = some (.slice ad n cap) → w'.cell? ⟨wb, 3, none⟩ = some (.slice ad n cap) ∧ ∀ j, onB ad j → w'.heap[j]? = w.heap[j]?
structure Kp3 (R : Nat → Prop) (wb : Nat) (w w' : World) : Prop where
  kp : Kp2 R w w'
  kn : KnS wb w w'
theorem Kp3.trans {R : Nat → Prop} {wb : Nat} {w w1 w2 : World} (h : Kp3 R wb w w1) (h' : Kp3 R wb w1 w2) : Kp3 R wb w w2 := ⟨h.kp.trans h'.kp, fun ad n cap hc => by
  obtain ⟨a1, a2⟩ := h.kn ad n cap hc
  obtain ⟨b1, b2⟩ := h'.kn ad n cap a1
  exact ⟨b1, fun j hj => (b2 j hj).trans (a2 j hj)⟩⟩
theorem Kp3.less {R R' : Nat → Prop} {wb : Nat} {w w' : World} (h : Kp3 R wb w w') (hR : ∀ j, R' j → R j) : Kp3 R' wb w w' := ⟨⟨fun j hj => h.kp.blk j (hR j hj), h.kp.size, h.kp.same⟩, h.kn⟩
theorem BkAt.knS {w w' : World} {wb t u nk nn : Nat} {kr nr : List Value} {O E : Nat → Prop} (h : BkAt w wb t u kr nr nk nn O) (hc : ∀ v, w.cell? ⟨wb, 3, none⟩ = some v → w'.cell? ⟨wb, 3, none⟩ = some v) (ha : Alike w w' E) (hE : ∀ j cur, w.heap[j]? = some (.cells cur 123 (0, 0)) → O j → ¬ E j) : KnS wb w w' := fun ad n cap he => by
  obtain ⟨ad0, cap0, h1, h2, h3⟩ := h.kn
  rw [h1] at he
  cases he
  refine ⟨hc _ h1, fun j hj => ?_⟩
  obtain ⟨cur, e⟩ := own_block h2 hj
  exact ha.block j (lt_of_some e) (hE j cur e (h3 j hj))
/-- The law's world whole; the blocks R are none of its own. -/
structure LW (A : Nat → Addr) (base : Nat) (R : Nat → Prop) (w : World) (wb t u m : Nat) (ks : List Kn) (O : Nat → Prop) (F : Nat → Nat → Prop) : Prop where
  sl : Sl w A base
  bk : BkAt w wb t u (knrow ks) [] ks.length 0 O
  few : ks.length ≤ m
  kn : ∀ i k, ks[i]? = some k → KnotAt w k m (F i)
  off : ∀ i, i < ks.length → ∀ j, F i j → ¬ O j
  dis : ∀ i i', i < ks.length → i' < ks.length → i ≠ i' → ∀ j, F i j → ¬ F i' j
  rb : ∀ j, j < base → R j
  rl : ∀ j, R j → j < w.heap.size
  ro : ∀ j, O j → ¬ R j
  rf : ∀ i, i < ks.length → ∀ j, F i j → ¬ R j
section
variable {A : Nat → Addr} {base : Nat} {R : Nat → Prop} {w w' : World} {wb t u m : Nat} {ks : List Kn} {O : Nat → Prop} {F : Nat → Nat → Prop}
theorem LW.lt (h : LW A base R w wb t u m ks O F) {i : Nat} (hi : i < ks.length) {j : Nat} (hj : F i j) : j < w.heap.size := (h.kn i _ (List.getElem?_eq_getElem hi)).lt hj
theorem LW.ge (h : LW A base R w wb t u m ks O F) {j : Nat} (hj : ¬ R j) : base ≤ j := Nat.le_of_not_lt fun hc => hj (h.rb j hc)
theorem LW.bf (h : LW A base R w wb t u m ks O F) (i : Nat) (hi : i < ks.length) (j : Nat) (hj : F i j) : base ≤ j := h.ge (h.rf i hi j hj)
theorem LW.le (h : LW A base R w wb t u m ks O F) : base ≤ w.heap.size := by
  have h1 := h.ge (h.ro wb h.bk.self)
  have h2 := h.bk.lt wb h.bk.self
  omega
theorem LW.low (h : LW A base R w wb t u m ks O F) (hb : Below w.heap.size w w') : LW A base R w' wb t u m ks O F := ⟨h.sl.low hb, h.bk.low hb, h.few, fun i k hk => (h.kn i k hk).low hb, h.off, h.dis, h.rb, fun j hj => Nat.lt_of_lt_of_le (h.rl j hj) hb.size, h.ro, h.rf⟩
theorem LW.same (h : LW A base R w wb t u m ks O F) (hb : Below w.heap.size w w') : Kp3 R wb w w' := ⟨Kp2.of (Alike.of_below hb (fun _ => False)) (fun j hj => ⟨h.rl j hj, fun h => h⟩), h.bk.knS (fun _ hv => (hb.cell (p := ⟨wb, 3, none⟩) (lt_of_cell hv)).trans hv) (Alike.of_below hb (fun _ => False)) (fun _ _ _ _ h => h)⟩
theorem LW.more {t' u' m' : Nat} (h : LW A base R w wb t u m ks O F) (ht : t ≤ t') (hu : u ≤ u') (hm : m ≤ m') : LW A base R w wb t' u' m' ks O F := ⟨h.sl, h.bk.more ht hu, Nat.le_trans h.few hm, fun i k hk => (h.kn i k hk).more hm, h.off, h.dis, h.rb, h.rl, h.ro, h.rf⟩
/-- A world of the law that has nothing yet. -/
theorem LW.start (hw : Sl w A base) (hc : w.heap[wb]? = some (.cells #[.slice none 0 0, .slice none 0 0, .slice none 0 0, .slice none 0 0, .slice none 0 0, .slice none 0 0] 79 (0, 0))) (rb : ∀ j, j < base → R j) (rl : ∀ j, R j → j < w.heap.size) (hR : ¬ R wb) : LW A base R w wb 0 0 0 [] (fun j => j = wb) (fun _ _ => False) := by
  have e : ∀ i, w.cell? ⟨wb, i, none⟩ = #[Value.slice none 0 0, .slice none 0 0, .slice none 0 0, .slice none 0 0, .slice none 0 0, .slice none 0 0][i]? := fun i => cell_of_row w wb i _ _ (0, 0) hc
  have hno : ∀ (O : Nat → Prop) k, onB none k → O k := fun O k ⟨_, h⟩ => by cases h
  refine ⟨hw, ⟨⟨_, hc⟩, fun c hc3 => ⟨0, [], by omega, rfl, ⟨none, 0, ?_, World.ownsRow_nil _ _ _ _, hno _⟩, fun i v hv => by simp at hv⟩, ⟨none, 0, e 3, World.ownsRow_nil _ _ _ _, hno _⟩, ⟨none, 0, e 4, World.ownsRow_nil _ _ _ _, hno _⟩, ⟨[], ⟨none, 0, e 5, World.ownsRow_nil _ _ _ _, hno _⟩, by simp, fun x hx => by cases hx⟩, rfl, fun k hk => by rw [hk]; exact lt_of_some hc⟩, by simp, fun i k hk => by simp at hk, fun i hi => by simp at hi, fun i i' hi => by simp at hi, rb, rl, fun j hj => by rw [hj]; exact hR, fun i hi => by simp at hi⟩
  have h3 : c = 0 ∨ c = 1 ∨ c = 2 := by omega
  rcases h3 with rfl | rfl | rfl
  · exact e 0
  · exact e 1
  · exact e 2
/-- More blocks of others. -/
theorem LW.wider {R' : Nat → Prop} (h : LW A base R w wb t u m ks O F) (hb : Below w.heap.size w w') (hR : ∀ j, R j → R' j) (hR' : ∀ j, R' j → R j ∨ (w.heap.size ≤ j ∧ j < w'.heap.size)) : LW A base R' w' wb t u m ks O F := by
  have h' := h.low hb
  refine ⟨h'.sl, h'.bk, h'.few, h'.kn, h'.off, h'.dis, fun j hj => hR j (h.rb j hj), fun j hj => ?_, fun j hj hc => ?_, fun i hi j hj hc => ?_⟩
  · rcases hR' j hj with h1 | h1
    · exact h'.rl j h1
    · exact h1.2
  · rcases hR' j hc with h1 | h1
    · exact h.ro j hj h1
    · have := h.bk.lt j hj
      omega
  · rcases hR' j hc with h1 | h1
    · exact h.rf i hi j hj h1
    · have := h.lt hi hj
      omega
theorem LW.less {R' : Nat → Prop} (h : LW A base R w wb t u m ks O F) (hR : ∀ j, R' j → R j) (rb : ∀ j, j < base → R' j) : LW A base R' w wb t u m ks O F := ⟨h.sl, h.bk, h.few, h.kn, h.off, h.dis, rb, fun j hj => h.rl j (hR j hj), fun j hj hc => h.ro j hj (hR j hc), fun i hi j hj hc => h.rf i hi j hj (hR j hc)⟩
/-- One node did something. -/
theorem LW.moved (h : LW A base R w wb t u m ks O F) {i : Nat} {k k' : Kn} (hi : ks[i]? = some k) (hfb : k'.fb = k.fb) (hrb : k'.rb = k.rb) (ha : Alike w w' (F i)) {F' : Nat → Prop} (hk : KnotAt w' k' (m + 1) F') (hF : ∀ j, F' j → F i j ∨ w.heap.size ≤ j) : LW A base R w' wb t u (m + 1) (ks.set i k') O (fun i' => if i' = i then F' else F i') ∧ Kp3 R wb w w' := by
  have hil : i < ks.length := (List.getElem?_eq_some_iff.1 hi).1
  have hle := h.le
  have hFn : ∀ i', i' < ks.length → ∀ j, (if i' = i then F' else F i') j → F i' j ∨ w.heap.size ≤ j := fun i' _ j hj => by
    split at hj
    · next e => subst e; exact hF j hj
    · exact Or.inl hj
  refine ⟨⟨h.sl.alike ha (fun j hj hc => by have := h.bf i hil j hc; omega), ?_, by rw [List.length_set]; exact Nat.le_succ_of_le h.few, fun i' k'' hk'' => ?_, fun i' hi' j hj hc => ?_, fun i1 i2 h1 h2 hne j hj hc => ?_, h.rb, fun j hj => Nat.lt_of_lt_of_le (h.rl j hj) ha.size, h.ro, fun i' hi' j hj hc => ?_⟩, ⟨Kp2.of ha (fun j hj => ⟨h.rl j hj, fun hc => h.rf i hil j hc hj⟩), h.bk.knS (fun _ hv => ha.cell hv (fun hc => h.off i hil wb hc h.bk.self)) ha (fun j _ _ hj hc => h.off i hil j hc hj)⟩⟩
  · rw [knrow_set ks i k k' hi hfb hrb, List.length_set]
    exact h.bk.alike ha (fun j hj hc => h.off i hil j hc hj)
  · by_cases e : i' = i
    · subst e
      rw [List.getElem?_set_self hil] at hk''
      cases hk''
      simpa using hk
    · rw [List.getElem?_set_ne (fun h => e h.symm)] at hk''
      rw [if_neg e]
      have hil' : i' < ks.length := (List.getElem?_eq_some_iff.1 hk'').1
      exact ((h.kn i' k'' hk'').alike ha (fun j hj hc => h.dis i' i hil' hil e j hj hc)).more (by omega)
  · rw [List.length_set] at hi'
    rcases hFn i' hi' j hj with h1 | h1
    · exact h.off i' hi' j h1 hc
    · have := h.bk.lt j hc
      omega
  · rw [List.length_set] at h1 h2
    by_cases e1 : i1 = i
    · have e2 : i2 ≠ i := fun e => hne (e1.trans e.symm)
      rw [if_neg e2] at hc
      rcases hFn i1 h1 j hj with h3 | h3
      · exact h.dis i1 i2 h1 h2 hne j h3 hc
      · have := h.lt h2 hc
        omega
    · rw [if_neg e1] at hj
      rcases hFn i2 h2 j hc with h3 | h3
      · exact h.dis i1 i2 h1 h2 hne j hj h3
      · have := h.lt h1 hj
        omega
  · rw [List.length_set] at hi'
    rcases hFn i' hi' j hj with h1 | h1
    · exact h.rf i' hi' j h1 hc
    · have := h.rl j hc
      omega
/-- A list came onto a shelf. -/
theorem LW.kept (h : LW A base R w wb t u m ks O F) {c : Nat} (hc3 : c < 3) {ad : Option Addr} {ln cap : Nat} {xs : List Value} {ao : Option Addr} {n cp : Nat} (hln : ln ≤ 4 * t) (h4 : ln % 4 = 0) (hn : n ≤ 1000000) (hown : w.ownsRow 0 (lty c) 1 (.slice ad ln cap) ln xs) (hS : Shv w c xs O) (had : ∀ k, onB ad k → O k) (hao : ∀ k, onB ao k → ¬ R k ∧ ¬ O k ∧ ∀ i, i < ks.length → ¬ F i k) (hk : KeptG c w w' wb ad ln xs ao n cp) : (∃ O', LW A base R w' wb (t + 1) u m ks O' F) ∧ Kp3 R wb w w' := by
  have hle := h.le
  have hwb := h.bk.self
  have hE : ∀ i, i < ks.length → ∀ j, F i j → ¬ (j = wb ∨ onB ao j ∨ onB ad j) := fun i hi j hj hc => by
    rcases hc with rfl | hc | hc
    · exact h.off i hi _ hj hwb
    · exact (hao j hc).2.2 i hi hj
    · exact h.off i hi j hj (had j hc)
  have hER : ∀ j, R j → ¬ (j = wb ∨ onB ao j ∨ onB ad j) := fun j hj hc => by
    rcases hc with rfl | hc | hc
    · exact h.ro _ hwb hj
    · exact (hao j hc).1 hj
    · exact h.ro j (had j hc) hj
  refine ⟨⟨_, h.sl.alike hk.rest (fun j hj => hER j (h.rb j hj)), h.bk.kept hc3 hln h4 hn hown hS had (fun k hk => (hao k hk).2.1) hk, h.few, fun i k hi => (h.kn i k hi).alike hk.rest (hE i (List.getElem?_eq_some_iff.1 hi).1), fun i hi j hj hc => ?_, h.dis, h.rb, fun j hj => Nat.lt_of_lt_of_le (h.rl j hj) hk.rest.size, fun j hj hc => ?_, h.rf⟩, ⟨Kp2.of hk.rest (fun j hj => ⟨h.rl j hj, hER j hj⟩), h.bk.knS (fun v => hk.others 3 v (by omega)) hk.rest (fun j cur e ho hc => ?_)⟩⟩
  rotate_left 2
  · rcases hc with rfl | hc | hc
    · obtain ⟨_, e'⟩ := h.bk.ty
      exact ty_ne e e' (by decide) rfl
    · exact (hao j hc).2.1 ho
    · obtain ⟨_, e'⟩ := own_block hown hc
      exact ty_ne e' e (lty_else c hc3).2.1 rfl
  · rcases hc.2 with h1 | h1 | h1
    · exact h.off i hi j hj h1
    · exact (hao j h1).2.2 i hi hj
    · have := h.lt hi hj
      omega
  · rcases hj.2 with h1 | h1 | h1
    · exact h.ro j h1 hc
    · exact (hao j h1).1 hc
    · have := h.rl j hc
      omega
/-- Packets came out: their texts, and the list. -/
theorem LW.sent (h : LW A base R w wb t u m ks O F) {w1 : World} {ta ad : Option Addr} {tc ln cap : Nat} {ts us : List ByteArray} {xs : List Value} {ao : Option Addr} {n cp : Nat} (htown : w.ownsRow 0 9 1 (.slice ta ts.length tc) ts.length (txrow ts)) (hta : ∀ k, onB ta k → O k) (hts : ts.length ≤ 1000 * u) (hsz : ∀ x ∈ ts, x.size ≤ 100) (hus : us.length ≤ 1000) (hsu : ∀ x ∈ us, x.size ≤ 100) (hg : Grw 79 w w1 wb 5 9 1 ta (ts.length + us.length) (txrow (ts ++ us)))
    (hln : ln ≤ 4 * t) (h4 : ln % 4 = 0) (hn : n ≤ 1000000) (hown : w.ownsRow 0 54 1 (.slice ad ln cap) ln xs) (hS : Shv w 2 xs O) (had : ∀ k, onB ad k → O k) (hao : ∀ k, onB ao k → k < w.heap.size ∧ ¬ R k ∧ ¬ O k ∧ ∀ i, i < ks.length → ¬ F i k) (hk : KeptP w1 w' wb ad ln xs ao n cp) : (∃ O', LW A base R w' wb (t + 1) (u + 1) m ks O' F) ∧ Kp3 R wb w w' := by
  have hle := h.le
  have hwb := h.bk.self
  have hsize := hg.rest.size
  obtain ⟨curw, htw⟩ := h.bk.ty
  have hOO : ∀ k, O k → k < w1.heap.size ∧ (O k ∨ w.heap.size ≤ k) := fun k hk => ⟨Nat.lt_of_lt_of_le (h.bk.lt k hk) hsize, Or.inl hk⟩
  have hapart : ∀ (e : TypeId), e ≠ 9 → e ≠ 79 → ∀ k cur, w.heap[k]? = some (.cells cur e (0, 0)) → ¬ (k = wb ∨ onB ta k) := fun e h1 h2 k cur hh hor => by
    rcases hor with rfl | hk
    · exact ty_ne hh htw h2 rfl
    · obtain ⟨_, hh'⟩ := own_block htown hk
      exact ty_ne hh hh' h1 rfl
  have hER : ∀ j, R j → ¬ (j = wb ∨ onB ta j) := fun j hj hc => by
    rcases hc with rfl | hc
    · exact h.ro _ hwb hj
    · exact h.ro j (hta j hc) hj
  have h1 : LW A base R w1 wb t (u + 1) m ks (fun k => k < w1.heap.size ∧ (O k ∨ w.heap.size ≤ k)) F := by
    refine ⟨h.sl.alike hg.rest (fun j hj => hER j (h.rb j hj)), h.bk.texts htown hta hts hsz hus hsu hg, h.few, fun i k hi => (h.kn i k hi).alike hg.rest (fun j hj hc => ?_), fun i hi j hj hc => ?_, h.dis, h.rb, fun j hj => Nat.lt_of_lt_of_le (h.rl j hj) hsize, fun j hj hc => ?_, h.rf⟩
    · have hil := (List.getElem?_eq_some_iff.1 hi).1
      rcases hc with rfl | hc
      · exact h.off i hil _ hj hwb
      · exact h.off i hil j hj (hta j hc)
    · rcases hc.2 with h1 | h1
      · exact h.off i hi j hj h1
      · have := h.lt hi hj
        omega
    · rcases hj.2 with h1 | h1
      · exact h.ro j h1 hc
      · have := h.rl j hc
        omega
  have h2 := h1.kept (c := 2) (by decide) hln h4 hn (row_alike2 hown hg.rest (fun k hk => ?_)) (hS.move hg.rest (fun k cur hh _ => hapart _ (by decide) (by decide) k cur hh) hOO) (fun k hk => hOO k (had k hk)) (fun k hk => ⟨(hao k hk).2.1, fun hc => ?_, (hao k hk).2.2.2⟩) hk.g
  · exact ⟨h2.1, Kp3.trans ⟨Kp2.of hg.rest (fun j hj => ⟨h.rl j hj, hER j hj⟩), h.bk.knS (fun v => hg.others 3 v (by omega)) hg.rest (fun j cur e _ => hapart _ (by decide) (by decide) j cur e)⟩ h2.2⟩
  · obtain ⟨cur, hh⟩ := own_block hown hk
    exact hapart _ (by decide) (by decide) k cur hh
  · rcases hc.2 with h2 | h2
    · exact (hao k hk).2.2.1 h2
    · have := (hao k hk).1
      omega
/-- A node came behind the others. -/
theorem LW.add (h : LW A base R w wb t u m ks O F) {w2 : World} (hb : Below w.heap.size w w2) {k : Kn} {F' : Nat → Prop} (hk : KnotAt w2 k (m + 1) F') (hF : ∀ j, F' j → w.heap.size ≤ j) {ka : Option Addr} {kc : Nat} (hown : w2.ownsRow 0 123 2 (.slice ka ks.length kc) ks.length (knrow ks)) (hka : ∀ j, onB ka j → O j) (hg : Grw 79 w2 w' wb 3 123 2 ka (ks.length + 1) (knrow (ks ++ [k]))) :
    (∃ O', LW A base R w' wb t u (m + 1) (ks ++ [k]) O' (fun i => if i = ks.length then F' else F i)) ∧ Kp2 R w w' := by
  have h2 := h.low hb
  have hle := h2.le
  have hwb := h.bk.self
  have hs1 := hb.size
  have hlen : (ks ++ [k]).length = ks.length + 1 := by simp
  have hEf : ∀ j, O j → ¬ F' j := fun j hj hc => by
    have h3 := hF j hc
    have h4 := h.bk.lt j hj
    omega
  have hin : ∀ j, (j = wb ∨ onB ka j) → O j := fun j hj => by
    rcases hj with rfl | hj
    · exact hwb
    · exact hka j hj
  have hbk := h2.bk.knots hown hka hg
  rw [← hlen] at hbk
  have hER : ∀ j, R j → ¬ (j = wb ∨ onB ka j) := fun j hj hc => h.ro j (hin j hc) hj
  refine ⟨⟨_, h2.sl.alike hg.rest (fun j hj => hER j (h.rb j hj)), hbk, by have := h.few; omega, fun i k' hi => ?_, fun i hi j hj hc => ?_, fun i1 i2 h1 h2' hne j hj hc => ?_, h.rb, fun j hj => Nat.lt_of_lt_of_le (h2.rl j hj) hg.rest.size, fun j hj hc => ?_, fun i hi j hj hc => ?_⟩, (h.same hb).kp.trans (Kp2.of hg.rest (fun j hj => ⟨h2.rl j hj, hER j hj⟩))⟩
  · by_cases e : i = ks.length
    · subst e
      have hkk : k = k' := by simpa using hi
      subst hkk
      simpa using hk.alike hg.rest (fun j hj hc => hEf j (hin j hc) hj)
    · rw [if_neg e]
      have hil : i < ks.length := by
        have := (List.getElem?_eq_some_iff.1 hi).1
        omega
      rw [List.getElem?_append_left hil] at hi
      exact ((h2.kn i k' hi).alike hg.rest (fun j hj hc => h2.off i hil j hj (hin j hc))).more (by omega)
  · rw [hlen] at hi
    by_cases e : i = ks.length
    · rw [if_pos e] at hj
      rcases hc.2 with h3 | ⟨_, h3⟩
      · exact hEf j h3 hj
      · have := hk.lt hj
        omega
    · rw [if_neg e] at hj
      rcases hc.2 with h3 | ⟨_, h3⟩
      · exact h.off i (by omega) j hj h3
      · have := h2.lt (by omega) hj
        omega
  · rw [hlen] at h1 h2'
    by_cases e1 : i1 = ks.length
    · rw [if_pos e1] at hj
      rw [if_neg (fun e => hne (e1.trans e.symm))] at hc
      have h3 := h.lt (by omega) hc
      have h4 := hF j hj
      omega
    · rw [if_neg e1] at hj
      by_cases e2 : i2 = ks.length
      · rw [if_pos e2] at hc
        have h3 := h.lt (by omega) hj
        have h4 := hF j hc
        omega
      · rw [if_neg e2] at hc
        exact h.dis i1 i2 (by omega) (by omega) hne j hj hc
  · rcases hj.2 with h3 | ⟨_, h3⟩
    · exact h.ro j h3 hc
    · have := h2.rl j hc
      omega
  · rw [hlen] at hi
    by_cases e : i = ks.length
    · rw [if_pos e] at hj
      have := hF j hj
      have := h.rl j hc
      omega
    · rw [if_neg e] at hj
      exact h.rf i (by omega) j hj hc
end
end Go.Proofs.YtabecbjfamphbaaGreatDoor

/- A net into which anything may come, as plain data. -/
namespace Go.Proofs.YtabecbjfamphbaaGreatDoor
open Go.RowKit Go.Stop Go.Extern

/-- A packet that is a frame of the group. -/
def PkOk (g : Gr) (t : Pk) : Prop := (∃ q : Nat, t.to = q ∧ q < g.n) ∧ t.text.size ≤ 100 ∧ rAll g.n g.W g.B g.L t.text = none
theorem pkOk_enc {g : Gr} (hg : g.Ok) {y : Nat × Msg} (h1 : y.1 < g.n) (h2 : y.2.Ok g) : PkOk g (encP g y) := by
  obtain ⟨r1, r2, _⟩ := text_read hg h2
  exact ⟨⟨y.1, rfl, h1⟩, r2, r1⟩
theorem pass_ok {g : Gr} (hg : g.Ok) {p : Nat} (hp : p < g.n) {f : Fm} (hf : f.Ok g) (fr : Nat) : ∀ t ∈ (passM g p f fr).map (encP g), PkOk g t := fun t ht => by
  obtain ⟨y, hy, rfl⟩ := List.mem_map.1 ht
  obtain ⟨e1, e2, _⟩ := mem_passM hy
  exact pkOk_enc hg e2 (by rw [e1]; exact ⟨hp, hf⟩)
theorem tick_ok {g : Gr} (hg : g.Ok) {p : Nat} (hp : p < g.n) {s : NS} (hs : s.Ok g p) : ∀ t ∈ s.tick g p, PkOk g t := fun t ht => by
  rw [tick_enc] at ht
  obtain ⟨y, hy, rfl⟩ := List.mem_map.1 ht
  unfold tickM at hy
  obtain ⟨q, hq, hy⟩ := List.mem_flatMap.1 hy
  have hqn := List.mem_range.1 hq
  split at hy
  · cases hy
  · rcases List.mem_append.1 hy with h1 | h1
    · obtain ⟨f, hf, rfl⟩ := List.mem_map.1 h1
      exact pkOk_enc hg hqn ⟨hp, hs.st f (List.mem_filter.1 hf).1⟩
    · rw [List.mem_singleton] at h1
      subst h1
      exact pkOk_enc hg hqn ⟨hp, hs.clk.shp.elen p hp, fun o ho => hs.clk.bd p o hp ho⟩
/-- What comes of a text that is heard. -/
structure HearOk (g : Gr) (p : Nat) (s : NS) (t : ByteArray) (r : HR) : Prop where
  ok : r.s.Ok g p
  five : r.k = 5 ↔ rAll g.n g.W g.B g.L t ≠ none
  range : r.k = 0 ∨ (5 ≤ r.k ∧ r.k ≤ 8)
  not : r.k ≠ 0 → r.s = s ∧ r.ps = []
  ps : ∀ t ∈ r.ps, PkOk g t
  few : r.ps.length ≤ g.n
theorem hear_ok {g : Gr} (hg : g.Ok) {p : Nat} (hp : p < g.n) {s : NS} (hs : s.Ok g p) (t : ByteArray) : HearOk g p s t (s.hear g p t) := by
  have h0 := hs.hear hp t
  have hnot : ∀ {k : Nat}, k ≠ 5 → ¬ (k = 5) := fun h => h
  refine ⟨h0, ?_, ?_, ?_, ?_, ?_⟩ <;> unfold NS.hear <;> cases e : rAll g.n g.W g.B g.L t with
  | some v => simp
  | none =>
    simp only
    have hK : s.newK g p (dataOf g.n t) = 0 ∨ s.newK g p (dataOf g.n t) = 7 ∨ s.newK g p (dataOf g.n t) = 8 := by
      unfold NS.newK
      split
      · simp
      · split
        · simp
        · split <;> simp
    have hps : byt t 2 = 1 → (∀ u ∈ passL (textM g p (dataOf g.n t)) p (byt t 5) (byt t 4) g.n, PkOk g u) ∧ (passL (textM g p (dataOf g.n t)) p (byt t 5) (byt t 4) g.n).length ≤ g.n := fun h2 => by
      obtain ⟨h5, h6⟩ := data_ok e h2
      have he := passL_enc g p (dataOf g.n t) (byt t 4)
      rw [show (dataOf g.n t).org = ((byt t 5 : Nat) : Int) from rfl] at he
      rw [he]
      exact ⟨pass_ok hg hp h5 _, by rw [List.length_map]; exact passM_length⟩
    generalize s.newK g p (dataOf g.n t) = K at *
    by_cases h4 : byt t 4 = p
    · simp [h4]
    · by_cases h2 : byt t 2 = 1
      · have hps2 := hps h2
        by_cases h5 : byt t 5 = p
        · simp [h4, h2, h5]
        · by_cases hk0 : K = 0
          · simp [h4, h2, h5, hk0]
            try exact hps2.1
            try exact hps2.2
          · simp only [if_neg h4, if_pos h2, if_neg h5, if_neg hk0]
            first | (simp; done) | omega | (simp; omega)
      · simp [h4, h2]
end Go.Proofs.YtabecbjfamphbaaGreatDoor

/- The law's world: both nodes did the same; lists that came out are kept. -/
namespace Go.Proofs.YtabecbjfamphbaaGreatDoor
open Go.RowKit Go.Stop Go.Extern

theorem say_pk {g : Gr} (hg : g.Ok) {p : Nat} (hp : p < g.n) {s : NS} (hs : s.Ok g p) (body : ByteArray) : ∀ t ∈ (s.say g p body).ps, PkOk g t := by
  unfold NS.say
  split
  · rename_i hK
    obtain ⟨h1, h2, h3⟩ := sayK_zero hK
    rw [sayL_enc g p _ rfl]
    exact pass_ok hg hp (NS.word_ok hs hg hp h1 h2 h3) p
  · intro t ht
    cases ht
theorem own_ge {w : World} {z : Nat} {e : TypeId} {sz : Nat} {ad : Option Addr} {n cap : Nat} {xs : List Value} (h : w.ownsRow z e sz (.slice ad n cap) n xs) {j : Nat} (hj : onB ad j) : z ≤ j := by
  rcases h.2 with ⟨e', _⟩ | ⟨g', cap', cur', e', hg', _⟩
  · cases e'
    obtain ⟨_, e''⟩ := hj
    cases e''
  · cases e'
    obtain ⟨_, e''⟩ := hj
    cases e''
    exact hg'
section
variable {A : Nat → Addr} {base : Nat} {R : Nat → Prop} {w w' : World} {wb t u m : Nat} {ks : List Kn} {O : Nat → Prop} {F : Nat → Nat → Prop}
/-- Both nodes did the same. -/
theorem LW.both (h : LW A base R w wb t u m ks O F) {i : Nat} {k : Kn} (hi : ks[i]? = some k) {b : Nat} {F1 F2 : Nat → Prop} (h1 : w.cell? ⟨k.fb, 0, none⟩ = some (.pointer (some ⟨b, 0, none⟩))) (h2 : NodeAt w b k.g k.p k.s F1) (h4 : ∀ j, F1 j → ¬ F2 j ∧ j ≠ k.fb) (h5 : ∀ j, F2 j → j ≠ k.fb) (h6 : ∀ j, F i j ↔ (j = k.fb ∨ F1 j ∨ F2 j))
    {w1 w2 : World} {s' : NS} {v v2 : Value} {ps : List Pk} (hs' : s'.Ok k.g k.p) (hd : Did w w1 b k.g k.p F1 s' v ps) (hr : RDid w1 w2 k.rb k.g k.p F2 s' (m + 1) v2 ps) :
    Kp3 R wb w w2 ∧ (∃ F', LW A base R w2 wb t u (m + 1) (ks.set i { k with s := s' }) O F' ∧ ∀ j, w.heap.size ≤ j → (∃ cur, w2.heap[j]? = some (.cells cur 109 (0, 0))) → ∀ i', i' < ks.length → ¬ F' i' j) ∧ Pks w2 w.heap.size v ps ∧ Pks w2 w1.heap.size v2 ps := by
  have hk := h.kn i k hi
  have hil : i < ks.length := (List.getElem?_eq_some_iff.1 hi).1
  have hs1 := hd.rest.size
  have hs2 := hr.rest.size
  have hfbl : k.fb < w.heap.size := lt_of_cell h1
  have hF1l : ∀ j, F1 j → j < w.heap.size := fun j hj => h2.lt hj
  have hF2l : ∀ j, F2 j → j < w.heap.size := fun j hj => hk.lt ((h6 j).2 (Or.inr (Or.inr hj)))
  obtain ⟨F1', n1, n2⟩ := hd.node
  obtain ⟨F2', r1, r2⟩ := hr.node
  have hF12 : ∀ j, F1' j → ¬ F2 j := fun j hj hc => by
    rcases n2 j hj with h7 | h7
    · exact (h4 j h7).1 hc
    · have := hF2l j hc
      omega
  have n3 := n1.alike hr.rest hF12
  have hcell : w2.cell? ⟨k.fb, 0, none⟩ = some (.pointer (some ⟨b, 0, none⟩)) := hr.rest.cell (hd.rest.cell h1 (fun hc => (h4 _ hc).2 rfl)) (fun hc => h5 _ hc rfl)
  obtain ⟨F', k1, k2⟩ := knotAt_of (w := w2) (k := { k with s := s' }) (m := m + 1) hk.g hk.p hs' hcell n3 r1 (fun j hj => ⟨fun hc => by
      have h8 := n1.lt hj
      rcases r2 j hc with h7 | h7
      · exact hF12 j hj h7
      · omega, fun e => by
      rcases n2 j hj with h7 | h7
      · exact (h4 j h7).2 e
      · have e' : j = k.fb := e
        omega⟩) (fun j hj e => by
      have e' : j = k.fb := e
      rcases r2 j hj with h7 | h7
      · exact h5 j h7 e
      · omega)
  have hF'n : ∀ j, F' j → F i j ∨ w.heap.size ≤ j := fun j hj => by
    rcases k2 j hj with e | h7 | h7
    · exact Or.inl ((h6 j).2 (Or.inl e))
    · rcases n2 j h7 with h8 | h8
      · exact Or.inl ((h6 j).2 (Or.inr (Or.inl h8)))
      · exact Or.inr h8
    · rcases r2 j h7 with h8 | h8
      · exact Or.inl ((h6 j).2 (Or.inr (Or.inr h8)))
      · exact Or.inr (by omega)
  have hal : Alike w w2 (F i) := ((Alike.refl w _).trans hd.rest (fun j _ hj => (h6 j).2 (Or.inr (Or.inl hj)))).trans hr.rest (fun j _ hj => (h6 j).2 (Or.inr (Or.inr hj)))
  obtain ⟨l1, l2⟩ := h.moved (k' := { k with s := s' }) hi rfl rfl hal k1 hF'n
  refine ⟨l2, ⟨_, l1, fun j hj ⟨cur, e⟩ i' hi' hc => ?_⟩, hd.pks.alike hr.rest (fun j hj _ hc => ?_), hr.pks⟩
  · split at hc
    · rcases k1.ty j hc with e' | ⟨cur', t', e', ht⟩
      · have e'' : j = k.fb := e'
        omega
      · rw [e] at e'
        cases e'
        exact ht rfl
    · have := h.lt hi' hc
      omega
  · have := hF2l j hc
    omega
/-- sent: packets of a node. -/
theorem LW.sends (h : LW A base R w wb t u m ks O F) (ht : t ≤ 240000) (hu : u ≤ 240000) {z bk : Nat} {v v2 : Value} {ps : List Pk} (hps : ps.length ≤ 1000) (hpk : ∀ x ∈ ps, x.text.size ≤ 100) (hl : Pks w z v ps) (hk : Pks w bk v2 ps) (hz : (∀ j, R j → j < z) ∧ ∀ j, O j → j < z) (hF : ∀ j, z ≤ j → (∃ cur, w.heap[j]? = some (.cells cur 109 (0, 0))) → ∀ i', i' < ks.length → ¬ F i' j) :
    Calls Tryz.prog 109 #[.pointer (some ⟨wb, 0, none⟩), v, v2] w fun e w' => e = .returned (.bool true) ∧ (∃ O', LW A base R w' wb (t + 1) (u + 1) m ks O' F) ∧ Kp3 R wb w w' := by
  obtain ⟨ts, ⟨ta, tc, c5, hto, hta⟩, htl, hts⟩ := h.bk.tx
  obtain ⟨ln, xs, hln, h4, ⟨ad, cap, c2, hxo, had⟩, hS⟩ := h.bk.sh 2 (by decide)
  obtain ⟨ao, cp, rfl⟩ := rowShaped hl.own
  obtain ⟨ak, ck, rfl⟩ := rowShaped hk.own
  refine (sent_any wb ta tc ts ad ln cap xs z bk ao ak cp ck ps (by omega) (by omega) (by omega) w h.bk.ty c5 hto c2 hxo hl hk).mono ?_
  rintro e w' ⟨rfl, w1, hg, hkp⟩
  refine ⟨rfl, h.sent (us := ps.map Pk.text) hto hta htl hts (by simpa using hps) (fun x hx => ?_) (by simpa using hg) hln h4 (by omega) hxo hS had (fun j hj => ?_) hkp⟩
  · obtain ⟨y, hy, rfl⟩ := List.mem_map.1 hx
    exact hpk y hy
  · obtain ⟨cur, e⟩ := own_block hl.own hj
    have hzj : z ≤ j := own_ge hl.own hj
    exact ⟨lt_of_some e, fun hc => by have := hz.1 j hc; omega, fun hc => by have := hz.2 j hc; omega, hF j hzj ⟨cur, e⟩⟩
theorem LW.keepsW (h : LW A base R w wb t u m ks O F) (ht : t ≤ 240000) {z : Nat} {v : Value} {ws : List Wd} (hws : ws.length ≤ 1000000) (hl : Wrd w z v ws) (hz : (∀ j, R j → j < z) ∧ (∀ j, O j → j < z) ∧ ∀ i', i' < ks.length → ∀ j, F i' j → j < z) :
    Calls Tryz.prog 114 #[.pointer (some ⟨wb, 0, none⟩), v] w fun e w' => e = .returned (.tuple #[]) ∧ (∃ O', LW A base R w' wb (t + 1) u m ks O' F) ∧ Kp3 R wb w w' := by
  obtain ⟨ln, xs, hln, h4, ⟨ad, cap, c2, hxo, had⟩, hS⟩ := h.bk.sh 1 (by decide)
  obtain ⟨ao, cp, rfl⟩ := rowShaped hl.own
  have hM := mrk0_of (mc := mword ln) hl.own
  refine (keepWords_any wb ad ln cap xs ao ws.length cp (by omega) hws hM.1 w c2 h.bk.ty hxo hM.2).mono ?_
  rintro e w' ⟨rfl, hk⟩
  refine ⟨rfl, h.kept (c := 1) (by decide) hln h4 hws hxo hS had (fun j hj => ?_) hk.g⟩
  have h1 := own_ge hl.own hj
  exact ⟨fun hc => by have := hz.1 j hc; omega, fun hc => by have := hz.2.1 j hc; omega, fun i' hi' hc => by have := hz.2.2 i' hi' j hc; omega⟩
theorem LW.keepsI (h : LW A base R w wb t u m ks O F) (ht : t ≤ 240000) {z n : Nat} {v : Value} {vs : List Value} (hws : n ≤ 1000000) (hl : w.ownsRow z 3 1 v n vs) (hz : (∀ j, R j → j < z) ∧ (∀ j, O j → j < z) ∧ ∀ i', i' < ks.length → ∀ j, F i' j → j < z) :
    Calls Tryz.prog 118 #[.pointer (some ⟨wb, 0, none⟩), v] w fun e w' => e = .returned (.tuple #[]) ∧ (∃ O', LW A base R w' wb (t + 1) u m ks O' F) ∧ Kp3 R wb w w' := by
  obtain ⟨ln, xs, hln, h4, ⟨ad, cap, c2, hxo, had⟩, hS⟩ := h.bk.sh 0 (by decide)
  obtain ⟨ao, cp, rfl⟩ := rowShaped hl
  have hM := mrk0_of (mc := mint ln) hl
  refine (keepInts2_any wb ad ln cap xs ao n cp (by omega) hws hM.1 w c2 h.bk.ty hxo hM.2).mono ?_
  rintro e w' ⟨rfl, hk⟩
  refine ⟨rfl, h.kept (c := 0) (by decide) hln h4 hws hxo hS had (fun j hj => ?_) hk.g⟩
  have h1 := own_ge hl hj
  exact ⟨fun hc => by have := hz.1 j hc; omega, fun hc => by have := hz.2.1 j hc; omega, fun i' hi' hc => by have := hz.2.2 i' hi' j hc; omega⟩
end
end Go.Proofs.YtabecbjfamphbaaGreatDoor

/- The law's sameInts, of two lists that are the same. -/
namespace Go.Proofs.YtabecbjfamphbaaGreatDoor
open Go.RowKit Go.Stop Go.Extern

set_option maxRecDepth 100000 in
set_option maxHeartbeats 2000000 in
theorem sameInts_true (ad ad' : Option Addr) (n cap cap' : Nat) (vs : List Int) (w : World) (ha : Ints w ad n vs) (hb : Ints w ad' n vs) (hn : n ≤ 1000) :
    Calls Tryz.prog 117 #[.slice ad n cap, .slice ad' n cap'] w fun e w' => e = .returned (.bool true) ∧ Below w.heap.size w w' := by
  have HA : Hid (Ints w ad n vs) := ha
  have HB : Hid (Ints w ad' n vs) := hb
  clear ha hb
  go_enter Tryz.func117, Tryz.ntmps117
  go_wp2_with fail
  go_loopw [5] (fun c wr => ∃ k : Nat, k ≤ n ∧ c = .int .i64 k ∧ Below w.heap.size w wr) (fun c _ => n - (intOf c).toNat)
  case atStart => exact ⟨0, Nat.zero_le _, rfl, Below.refl _ _⟩
  case round =>
    obtain ⟨k, hkn, rfl, hbel⟩ := hrel
    have HBel : Hid (Below w.heap.size w wr) := hbel
    by_cases hlt : k < n
    · obtain ⟨b, off, he, _, hc⟩ := (HA.out.below hbel).cell k hlt
      obtain ⟨b', off', he', _, hc'⟩ := (HB.out.below hbel).cell k hlt
      subst he he'
      clear hbel
      generalize vs.getD k 0 = y at *
      have hne : ((y : Int) != y) = false := by simp
      have hlti : (k : Int) < (n : Int) := by omega
      go_wp2_with fail
      go_quiet (fail)
      go_wp2_with fail
      go_roundw
      case rel => exact ⟨k + 1, by omega, by go_num, below_drewN HBel.out _⟩
      case measure => simp [intOf]; omega
    · have : k = n := by omega
      subst this
      clear hbel
      go_wp2_with fail
      go_ret
      exact ⟨rfl, HBel.out⟩
end Go.Proofs.YtabecbjfamphbaaGreatDoor
