/-
  The law's keepInts.
-/
import Derived.Test.YtabecbjfamphbaaDoorBook
import Derived.ArgAppend
namespace Go.Proofs.YtabecbjfamphbaaDoor
open Go.RowKit Go.Stop Go.Extern

/-- A list that came out: nil, or a row of its own. -/
def LRow (w : World) (ao : Option Addr) (zs : List Int) : Prop := (ao = none ∧ zs = []) ∨ ∃ g, ao = some ⟨g, 0, none⟩ ∧ RowI w g zs

theorem LRow.holds {w W : World} {ao : Option Addr} {n : Nat} {m : Int} {E : Nat → Prop} (h : LRow w ao (List.replicate n m)) (ha : Alike w W E) (hE : ∀ g, ao = some ⟨g, 0, none⟩ → ¬ E g) :
    ∀ bb, ao = some bb → ∀ j u, (List.replicate n (Value.int .i64 m))[j]? = some u → W.cell? (bb.add j) = some u := by
  intro bb hbb j u hj
  rcases h with ⟨h0, _⟩ | ⟨g, rfl, hr⟩
  · rw [h0] at hbb; cases hbb
  · cases hbb
    obtain ⟨hjn, rfl⟩ : j < n ∧ u = Value.int .i64 m := by
      rw [List.getElem?_replicate] at hj
      split at hj
      · exact ⟨by assumption, (Option.some.inj hj).symm⟩
      · cases hj
    have hc := hr.cell (j := j) (by simpa using hjn)
    rw [show (List.replicate n m).getD j 0 = m by simp [List.getD_eq_getElem?_getD, hjn]] at hc
    rw [Addr.add_lit, Nat.zero_add]
    exact ha.cell hc (hE g rfl)
theorem Tryd.infoInts : (Tryd.prog.info? 24).map (fun i => (i.zero, i.size, i.bytes)) = some (some (.slice none 0 0), 1, 24) := by kernel_rfl
theorem OwnS.alike {w w' : World} {E : Nat → Prop} {base n : Nat} {v : Value} {xs : List Value} (h : w.ownsRow base 24 1 v n xs) (ha : Alike w w' E) (hE : ∀ k, v.ownBlock = some k → ¬ E k) : w'.ownsRow base 24 1 v n xs := by
  refine ⟨h.1, ?_⟩
  rcases h.2 with h | ⟨g, cap, cur, rfl, hg, hh, hr⟩
  · exact Or.inl h
  · exact Or.inr ⟨g, cap, cur, rfl, hg, (ha.block g (lt_of_some hh) (hE g rfl)).trans hh, hr⟩
theorem rowShape {w : World} {base n : Nat} {e : TypeId} {v : Value} {xs : List Value} (h : w.ownsRow base e 1 v n xs) : ∃ a c, v = .slice a n c := by
  rcases h.2 with ⟨rfl, rfl⟩ | ⟨g, cap, cur, rfl, _⟩
  · exact ⟨none, 0, rfl⟩
  · exact ⟨_, _, rfl⟩
theorem mk_of_owns {w : World} {base n : Nat} {v : Value} {xs : List Value} {m : Int} (h : w.ownsRow base 3 1 v n xs) (hx : ∀ x ∈ xs, x = .int .i64 m) (hn : n ≤ 1000) : Mk w v m ∧ ∀ k, v.ownBlock = some k → base ≤ k := by
  obtain ⟨hl, h2⟩ := h
  rcases h2 with ⟨rfl, rfl⟩ | ⟨g, cap, cur, rfl, hg, hh, hnc, hcm, hcs, htk⟩
  · exact ⟨⟨none, 0, 0, rfl, hn, Or.inl rfl⟩, fun k hk => by cases hk⟩
  · refine ⟨⟨_, n, cap, rfl, hn, Or.inr ⟨g, cur, rfl, hh, fun i hi => ?_⟩⟩, fun k hk => by cases hk; exact hg⟩
    have h3 : i < xs.length := by omega
    have h4 : xs[i]? = cur[i]? := by
      rw [← htk, List.getElem?_take, if_pos (by omega)]
      simp
    rw [← h4, List.getElem?_eq_getElem h3, hx _ (List.getElem_mem h3)]
theorem LRow.none {w : World} {n : Nat} {m : Int} {ao : Option Addr} (h : LRow w ao (List.replicate n m)) : ao = none → n = 0 ∧ n = 0 := by
  intro h0
  rcases h with ⟨_, h1⟩ | ⟨g, h1, _⟩
  · have := congrArg List.length h1; simp at this; exact ⟨this, this⟩
  · rw [h0] at h1; cases h1

theorem LRow.mk {w : World} {ao : Option Addr} {n : Nat} {m : Int} (h : LRow w ao (List.replicate n m)) (hn : n ≤ 1000) : Mk w (.slice ao n n) m := by
  rcases h with ⟨h0, h1⟩ | ⟨g, rfl, hr⟩
  · have : n = 0 := by have := congrArg List.length h1; simpa using this
    exact ⟨ao, n, n, rfl, hn, Or.inl this⟩
  · refine ⟨_, n, n, rfl, hn, Or.inr ⟨g, _, rfl, hr, fun i hi => ?_⟩⟩
    simp [hi]
/-- What keepInts leaves. -/
structure KeptBy (w w' : World) (b base : Nat) (av : Option Addr) (cv : Nat) (xs : List Value) (ao : Option Addr) (n : Nat) : Prop where
  how : ∃ a4 c4 g1 g2 g3, w'.cell? ⟨b, 0, none⟩ = some (.slice a4 (xs.length + 4) c4) ∧ OwnS w' base (.slice a4 (xs.length + 4) c4) (xs ++ [.slice ao n n, g1, g2, g3])
    ∧ Mk w' (.slice ao n n) (-1000 - (xs.length : Int)) ∧ Mk w' g1 (-1000 - (xs.length : Int)) ∧ Mk w' g2 (-1000 - (xs.length : Int)) ∧ Mk w' g3 (-1000 - (xs.length : Int))
  rest : Alike w w' (fun j => j = b ∨ (∃ g, ao = some ⟨g, 0, none⟩ ∧ j = g) ∨ (Value.slice av xs.length cv).ownBlock = some j)
  c1 : w'.cell? ⟨b, 1, none⟩ = some (.slice none 0 0)
  c2 : w'.cell? ⟨b, 2, none⟩ = some (.slice none 0 0)
  fr : w'.frozen? ⟨b, 0, none⟩ = false

set_option maxRecDepth 100000 in
set_option maxHeartbeats 2000000 in
theorem keepInts_any (b base : Nat) (av : Option Addr) (cv : Nat) (xs : List Value) (ao : Option Addr) (n : Nat) (vs : List Int) (w : World)
    (hb : w.cell? ⟨b, 0, none⟩ = some (.slice av xs.length cv)) (hfz : w.frozen? ⟨b, 0, none⟩ = false) (hc1 : w.cell? ⟨b, 1, none⟩ = some (.slice none 0 0)) (hc2 : w.cell? ⟨b, 2, none⟩ = some (.slice none 0 0)) (hown : OwnS w base (.slice av xs.length cv) xs) (hbase : b < base) (hbw : base ≤ w.heap.size)
    (hl : LRow w ao vs) (hlb : ∀ g, ao = some ⟨g, 0, none⟩ → base ≤ g ∧ (Value.slice av xs.length cv).ownBlock ≠ some g) (hxs : xs.length ≤ 100) (hvs : vs.length = n) (hn : n ≤ 8) :
    Calls Tryd.prog 26 #[.pointer (some ⟨b, 0, none⟩), .slice ao n n] w fun e w' => e = .returned (.tuple #[]) ∧ KeptBy w w' b base av cv xs ao n := by
  obtain ⟨i0, hi, hz0, hz1, hz2⟩ := info_parts Tryd.infoInt
  have HOwn : Hid _ := hown
  have HC1 : Hid _ := hc1
  have HC2 : Hid _ := hc2
  clear hc1 hc2
  have HL : Hid (LRow w ao vs) := hl
  have HLB : Hid _ := hlb
  have HVS : Hid (vs.length = n) := hvs
  clear hown hl hlb hvs
  have HM : Hid (∀ w, Calls Tryd.prog 39 #[.int .i64 (xs.length : Int)] w fun e w' => e = .returned (.int .i64 (-1000 - (xs.length : Int))) ∧ w' = w) := fun w => markInt_any (xs.length : Int) w (by omega) (by omega)
  obtain ⟨m, hm⟩ : ∃ m : Int, m = -1000 - (xs.length : Int) := ⟨_, rfl⟩
  rw [← hm] at HM
  have HMm : Hid (m = -1000 - (xs.length : Int)) := hm
  clear hm
  go_enter Tryd.func26, Tryd.ntmps26
  go_wp2_with fail
  refine (HM.out _).mono ?_
  rintro e w' ⟨rfl, rfl⟩
  go_wp2_with fail
  go_loopw [5] (fun c wr => ∃ k : Nat, k ≤ n ∧ c = .int .i64 k ∧ LRow wr ao (List.replicate k m ++ vs.drop k) ∧ Alike w' wr (fun j => ∃ g, ao = some ⟨g, 0, none⟩ ∧ j = g) ∧ wr.frozen? ⟨b, 0, none⟩ = false) (fun c _ => n - (intOf c).toNat)
  case atStart => exact ⟨0, Nat.zero_le _, rfl, by simpa using HL.out, Alike.refl _ _, hfz⟩
  case round =>
    obtain ⟨k, hkn, rfl, hrow, hal, hfr⟩ := hrel
    have HRow : Hid _ := hrow
    have HAl : Hid _ := hal
    clear hrow hal
    by_cases hlt : k < n
    · rcases HRow.out with ⟨_, hnil⟩ | ⟨g, rfl, hri⟩
      · have h2 := congrArg List.length hnil
        have hv := HVS.out
        rw [List.length_append, List.length_replicate, List.length_drop, List.length_nil] at h2
        omega
      · have hlen : (List.replicate k m ++ vs.drop k).length = n := by have := HVS.out; simp; omega
        have hc := hri.cell (j := k) (by omega)
        have hf := hri.free k
        have HN : Hid (RowI (wr.setCell ⟨g, k, none⟩ (.int .i64 m)) g (List.replicate (k + 1) m ++ vs.drop (k + 1))) := by
          have h3 := hri.set k m
          have h4 : (List.replicate k m ++ vs.drop k).set k m = List.replicate (k + 1) m ++ vs.drop (k + 1) := by
            have hv := HVS.out
            rw [List.set_append_right _ _ (by simp), List.length_replicate, Nat.sub_self, List.drop_eq_getElem_cons (by omega), List.set_cons_zero, List.replicate_succ', List.append_assoc]
            rfl
          rw [h4] at h3
          exact h3
        clear hri
        generalize (List.replicate k m ++ vs.drop k).getD k 0 = y at hc
        go_wp2_with fail
        go_roundw
        case rel => exact ⟨k + 1, by omega, by go_num, Or.inr ⟨g, rfl, HN.out⟩, HAl.out.trans (Alike.setCell _ _ _) (fun j _ hj => ⟨g, rfl, hj⟩), (frozen_set _ _ _ _).trans hfr⟩
        case measure => simp [intOf]; omega
    · have hkn' : k = n := by omega
      subst hkn'
      have hrow := HRow.out
      rw [List.drop_of_length_le (by rw [HVS.out]; exact Nat.le_refl _), List.append_nil] at hrow
      have HR : Hid (LRow wr ao (List.replicate k m)) := hrow
      clear hrow HRow
      have hbr : wr.cell? ⟨b, 0, none⟩ = some (.slice av xs.length cv) := HAl.out.cell hb (fun ⟨g, hg, he⟩ => by have := (HLB.out g hg).1; omega)
      go_wp2_with (at_builtin; refine wpList_append_grows _ rfl (.tmp 25) (.tmp 27) 24 rfl 3 i0 (.int .i64 0) 1 8 Tryd.underlying24 hi hz0 hz1 hz2 rfl (by decide) ao k k (List.replicate k (Value.int .i64 m)) rfl HR.out.none (by simp) (HR.out.holds (E := fun _ => False) (Alike.alloc _ _ _) (fun _ _ h => h)) ⟨wr.heap.size, 0, none⟩ 1 1 [.int .i64 m] rfl rfl ?c1 ?c2 (by omega) (by unfold maxLen; omega) (by omega) ?_)
      case c1 =>
        intro q u hq
        match q, hq with
        | 0, hq => simp at hq; subst hq; simp [Addr.add]
      case c2 => intro u hu; simp at hu; subst hu; rfl
      intro g1 w1 hown1 hgrow1
      have HG1 : Hid _ := hown1
      have HA1 : Hid (Alike wr w1 (fun _ => False)) := (Alike.alloc _ _ _).trans (Alike.of_grown hgrow1) (fun k _ h => by cases h)
      clear hown1 hgrow1
      obtain ⟨a1, c1, hg1⟩ := rowShape HG1.out
      subst hg1
      have HR1 : Hid (∀ bb, ao = some bb → ∀ j u, (List.replicate k (Value.int .i64 m))[j]? = some u → (w1.alloc (.cells #[.int .i64 m, .int .i64 m] 3)).cell? (bb.add j) = some u) := HR.out.holds (E := fun _ => False) (HA1.out.trans (Alike.alloc _ _ (fun _ => False)) (fun _ _ h => h)) (fun _ _ h => h)
      go_wp2_with (at_builtin; refine wpList_append_grows _ rfl (.tmp 29) (.tmp 32) 24 rfl 3 i0 (.int .i64 0) 1 8 Tryd.underlying24 hi hz0 hz1 hz2 rfl (by decide) ao k k (List.replicate k (Value.int .i64 m)) rfl HR.out.none (by simp) HR1.out ⟨w1.heap.size, 0, none⟩ 2 2 [.int .i64 m, .int .i64 m] rfl rfl ?c1 ?c2 (by omega) (by unfold maxLen; omega) (by omega) ?_)
      case c1 =>
        intro q u hq
        match q, hq with
        | 0, hq => simp at hq; subst hq; simp [Addr.add]
        | 1, hq => simp at hq; subst hq; simp [Addr.add]
      case c2 => intro u hu; simp at hu; subst hu; rfl
      intro g2 w2 hown2 hgrow2
      have HG2 : Hid _ := hown2
      have HA2 : Hid (Alike w1 w2 (fun _ => False)) := (Alike.alloc _ _ _).trans (Alike.of_grown hgrow2) (fun k _ h => by cases h)
      clear hown2 hgrow2
      obtain ⟨a2, c2, hg2⟩ := rowShape HG2.out
      subst hg2
      have HR2 : Hid (∀ bb, ao = some bb → ∀ j u, (List.replicate k (Value.int .i64 m))[j]? = some u → (w2.alloc (.cells #[.int .i64 m, .int .i64 m, .int .i64 m] 3)).cell? (bb.add j) = some u) := HR.out.holds (E := fun _ => False) ((HA1.out.trans HA2.out (fun _ _ h => h)).trans (Alike.alloc _ _ (fun _ => False)) (fun _ _ h => h)) (fun _ _ h => h)
      go_wp2_with (at_builtin; refine wpList_append_grows _ rfl (.tmp 34) (.tmp 38) 24 rfl 3 i0 (.int .i64 0) 1 8 Tryd.underlying24 hi hz0 hz1 hz2 rfl (by decide) ao k k (List.replicate k (Value.int .i64 m)) rfl HR.out.none (by simp) HR2.out ⟨w2.heap.size, 0, none⟩ 3 3 [.int .i64 m, .int .i64 m, .int .i64 m] rfl rfl ?c1 ?c2 (by omega) (by unfold maxLen; omega) (by omega) ?_)
      case c1 =>
        intro q u hq
        match q, hq with
        | 0, hq => simp at hq; subst hq; simp [Addr.add]
        | 1, hq => simp at hq; subst hq; simp [Addr.add]
        | 2, hq => simp at hq; subst hq; simp [Addr.add]
      case c2 => intro u hu; simp at hu; subst hu; rfl
      intro g3 w3 hown3 hgrow3
      have HG3 : Hid _ := hown3
      have HA3 : Hid (Alike w2 w3 (fun _ => False)) := (Alike.alloc _ _ _).trans (Alike.of_grown hgrow3) (fun k _ h => by cases h)
      clear hown3 hgrow3
      obtain ⟨a3, c3, hg3⟩ := rowShape HG3.out
      subst hg3
      have HA03 : Hid (Alike wr w3 (fun _ => False)) := (HA1.out.trans HA2.out (fun _ _ h => h)).trans HA3.out (fun _ _ h => h)
      have hb3 : w3.cell? ⟨b, 0, none⟩ = some (.slice av xs.length cv) := HA03.out.cell hbr (fun h => h)
      have hf3 : w3.frozen? ⟨b, 0, none⟩ = false := HA03.out.frozen (lt_of_cell hbr) hfr (fun h => h)
      have HO3 : Hid (w3.ownsRow base 24 1 (.slice av xs.length cv) xs.length xs) := OwnS.alike (OwnS.alike HOwn.out HAl.out (fun j hj ⟨g, hg, he⟩ => (HLB.out g hg).2 (he ▸ hj))) HA03.out (fun _ _ h => h)
      have hbw3 : base ≤ w3.heap.size := Nat.le_trans hbw (Nat.le_trans HAl.out.size HA03.out.size)
      obtain ⟨i1, hj, hy0, hy1, hy2⟩ := info_parts Tryd.infoInts
      go_wp2_with (at_builtin; refine wpList_append_own _ rfl (.tmp 44) (.tmp 49) 31 rfl base 24 i1 (.slice none 0 0) 1 24 Tryd.underlying31 hj hy0 hy1 hy2 rfl (by decide) _ _ _ rfl (World.ownsRow.alloc HO3.out _) ⟨w3.heap.size, 0, none⟩ 4 4 [.slice ao k k, .slice a1 (k + 1) c1, .slice a2 (k + 2) c2, .slice a3 (k + 3) c3] rfl rfl ?c1 ?c2 (by unfold maxLen; omega) (by omega) (by simp; omega) ?_)
      case c1 =>
        intro q u hq
        match q, hq with
        | 0, hq => simp at hq; subst hq; simp [Addr.add]
        | 1, hq => simp at hq; subst hq; simp [Addr.add]
        | 2, hq => simp at hq; subst hq; simp [Addr.add]
        | 3, hq => simp at hq; subst hq; simp [Addr.add]
      case c2 =>
        intro u hu
        simp at hu
        rcases hu with rfl | rfl | rfl | rfl <;> rfl
      intro v4 w4 hown4 hgrow4 _
      obtain ⟨a4, c4, hg4⟩ := rowShape hown4
      subst hg4
      have HG4 : Hid (OwnS w4 base (.slice a4 (xs.length + 4) c4) (xs ++ [.slice ao k k, .slice a1 (k + 1) c1, .slice a2 (k + 2) c2, .slice a3 (k + 3) c3])) := by unfold OwnS; rw [List.length_append]; exact hown4
      have HA4 : Hid (Alike w3 w4 (fun j => (Value.slice av xs.length cv).ownBlock = some j)) := (Alike.alloc _ _ _).trans (Alike.of_grown hgrow4) (fun j _ h => h)
      have HNB : Hid ((Value.slice av xs.length cv).ownBlock ≠ some b) := fun h => by have := (World.ownsRow.lt HO3.out b h).1; omega
      have hb4 : w4.cell? ⟨b, 0, none⟩ = some (.slice av xs.length cv) := HA4.out.cell hb3 HNB.out
      have hf4 : w4.frozen? ⟨b, 0, none⟩ = false := HA4.out.frozen (lt_of_cell hb3) hf3 HNB.out
      clear hown4 hgrow4
      go_wp2_with fail
      refine bodyPost_end (v := .tuple #[]) (by simp [results, Tryd.results26, go_sem]) rfl ?_
      have hbg : ∀ g, ao = some ⟨g, 0, none⟩ → b ≠ g := fun g hg => by have := (HLB.out g hg).1; omega
      have hfin : Alike w3 (w4.setCell ⟨b, 0, none⟩ (.slice a4 (xs.length + 4) c4)) (fun j => j = b ∨ (Value.slice av xs.length cv).ownBlock = some j) :=
        (HA4.out.trans (E := fun j => (Value.slice av xs.length cv).ownBlock = some j) (Alike.refl _ (fun _ => False)) (fun _ _ h => h.elim)) |> fun h => ⟨Nat.le_trans h.size (Alike.setCell w4 ⟨b, 0, none⟩ (.slice a4 (xs.length + 4) c4)).size, fun k hk hn => ((Alike.setCell w4 ⟨b, 0, none⟩ (.slice a4 (xs.length + 4) c4)).block k (Nat.lt_of_lt_of_le hk h.size) (fun e => hn (Or.inl e))).trans (h.block k hk (fun e => hn (Or.inr e))), h.same⟩
      have hold : ∀ j, (j = b ∨ (Value.slice av xs.length cv).ownBlock = some j) → j < wr.heap.size := fun j hj => by
        rcases hj with rfl | hj
        · exact lt_of_cell hbr
        · exact Nat.lt_of_lt_of_le (World.ownsRow.lt HOwn.out j hj).2 HAl.out.size
      have hnew : ∀ {v : Value} {lo : Nat}, wr.heap.size ≤ lo → (∀ j, v.ownBlock = some j → lo ≤ j) → ∀ j, v.ownBlock = some j → ¬ (j = b ∨ (Value.slice av xs.length cv).ownBlock = some j) := fun hlo h j hj he => by have := hold j he; have := h j hj; omega
      have rep : ∀ (c : Nat), ∀ x ∈ List.replicate k (Value.int .i64 m) ++ List.replicate c (Value.int .i64 m), x = Value.int .i64 m := fun c x hx => by
        rcases List.mem_append.1 hx with h | h <;> exact (List.mem_replicate.1 h).2
      have m1 := mk_of_owns HG1.out (rep 1) (by omega)
      have m2 := mk_of_owns HG2.out (rep 2) (by omega)
      have m3 := mk_of_owns HG3.out (rep 3) (by omega)
      have s1 := HA1.out.size
      have s2 := HA2.out.size
      have hm := HMm.out
      refine ⟨rfl, ⟨⟨a4, c4, _, _, _, by go_simp, ownsRow_setCell_below HG4.out hbase _, ?_, ?_, ?_, ?_⟩, ?_, ?_, ?_, (frozen_set _ _ _ _).trans hf4⟩⟩
      · rw [← hm]
        refine ((HR.out.mk (by omega)).alike HA03.out (fun _ _ _ _ h => h)).alike hfin (fun j _ _ hj he => ?_)
        rcases HR.out with ⟨h0, _⟩ | ⟨g, hg, _⟩
        · rw [h0] at hj; cases hj
        · rw [hg] at hj; cases hj
          rcases he with rfl | he
          · exact hbg _ hg rfl
          · exact (HLB.out _ hg).2 he
      · rw [← hm]
        exact (m1.1.alike (HA2.out.trans HA3.out (fun _ _ h => h)) (fun _ _ _ _ h => h)).alike hfin (fun j _ _ hj => hnew (by simp) m1.2 j hj)
      · rw [← hm]
        exact (m2.1.alike HA3.out (fun _ _ _ _ h => h)).alike hfin (fun j _ _ hj he => by have h5 := m2.2 j hj; have h6 := hold j he; omega)
      · rw [← hm]
        exact m3.1.alike hfin (fun j _ _ hj he => by have h5 := m3.2 j hj; have h6 := hold j he; omega)
      · refine ⟨Nat.le_trans HAl.out.size (Nat.le_trans HA03.out.size hfin.size), fun j hj hn => ?_, hfin.same.1.trans (HA03.out.same.1.trans HAl.out.same.1), hfin.same.2.1.trans (HA03.out.same.2.1.trans HAl.out.same.2.1), hfin.same.2.2.trans (HA03.out.same.2.2.trans HAl.out.same.2.2)⟩
        rw [hfin.block j (Nat.lt_of_lt_of_le hj (Nat.le_trans HAl.out.size HA03.out.size)) (fun h => hn (h.elim Or.inl (fun h => Or.inr (Or.inr h)))), HA03.out.block j (Nat.lt_of_lt_of_le hj HAl.out.size) (fun h => h)]
        exact HAl.out.block j hj (fun h => hn (Or.inr (Or.inl h)))
      · have h4 : w4.cell? ⟨b, 1, none⟩ = some (.slice none 0 0) := HA4.out.cell (HA03.out.cell (HAl.out.cell HC1.out (fun ⟨g, hg, he⟩ => hbg g hg he)) (fun h => h)) HNB.out
        go_simp
      · have h4 : w4.cell? ⟨b, 2, none⟩ = some (.slice none 0 0) := HA4.out.cell (HA03.out.cell (HAl.out.cell HC2.out (fun ⟨g, hg, he⟩ => hbg g hg he)) (fun h => h)) HNB.out
        go_simp
end Go.Proofs.YtabecbjfamphbaaDoor
