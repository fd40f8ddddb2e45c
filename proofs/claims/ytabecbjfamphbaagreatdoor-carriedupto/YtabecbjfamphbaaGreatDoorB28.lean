/-
  Texts that the proofs of this seat share, joined: Ti.
-/
import Derived.Test.YtabecbjfamphbaaGreatDoorB27
import Derived.Deep.RegionHeld3
/- The node's Tick. -/
namespace Go.Proofs.YtabecbjfamphbaaGreatDoor
open Go.RowKit Go.Stop Go.Extern

/-- The text of a State frame from p. -/
def stateM (g : Gr) (p : Nat) (v : List Int) : ByteArray := txt (encR g.n g.W g.B g.L 2 p 0 0 0 v ⟨#[]⟩).1
/-- Does a word go to q? -/
def sends (vs : List (List Int)) (q : Nat) (f : Fm) : Bool := decide (f.org ≠ (q : Int) ∧ vw vs q f.org.toNat < f.seq)
/-- The packets to q, of so many words of the store. -/
def tickW (g : Gr) (p : Nat) (vs : List (List Int)) (q : Nat) (fs : List Fm) : List Pk := (fs.filter (sends vs q)).map (fun f => ⟨(q : Int), textM g p f⟩)
/-- The packets to the first k nodes. -/
def tickTo (g : Gr) (p : Nat) (s : NS) : Nat → List Pk
  | 0 => []
  | k + 1 => if k = p then tickTo g p s k else tickTo g p s k ++ tickW g p s.vs k s.st ++ [⟨(k : Int), stateM g p (s.vs.getD p [])⟩]
def NS.tick (g : Gr) (p : Nat) (s : NS) : List Pk := tickTo g p s g.n

/-- .. and of j words those that go to k. -/
def tickJ (g : Gr) (p : Nat) (s : NS) (fs : List Fr) (k j : Nat) : List Pk := tickTo g p s k ++ tickW g p s.vs k ((fs.take j).map Fr.fm)
theorem tickJ_zero (g : Gr) (p : Nat) (s : NS) (fs : List Fr) (k : Nat) : tickJ g p s fs k 0 = tickTo g p s k := by simp [tickJ, tickW]
theorem tickW_one (g : Gr) (p : Nat) (vs : List (List Int)) (q : Nat) (l : List Fm) (f : Fm) : tickW g p vs q (l ++ [f]) = tickW g p vs q l ++ if sends vs q f then [⟨(q : Int), textM g p f⟩] else [] := by
  unfold tickW
  rw [List.filter_append, List.map_append]
  congr 1
  cases h : sends vs q f <;> simp [h]
theorem tickJ_succ {g : Gr} {p : Nat} {s : NS} {fs : List Fr} {k j : Nat} {f : Fr} (h : fs[j]? = some f) : tickJ g p s fs k (j + 1) = tickJ g p s fs k j ++ if sends s.vs k f.fm then [⟨(k : Int), textM g p f.fm⟩] else [] := by
  unfold tickJ
  rw [List.take_add_one, h, List.map_append]
  show _ ++ tickW g p s.vs k (_ ++ [f.fm]) = _
  rw [tickW_one, List.append_assoc]
theorem tickW_length (g : Gr) (p : Nat) (vs : List (List Int)) (q : Nat) (l : List Fm) : (tickW g p vs q l).length ≤ l.length := by
  unfold tickW
  rw [List.length_map]
  exact List.length_filter_le _ _
theorem tickTo_length (g : Gr) (p : Nat) (s : NS) (h : s.st.length ≤ 64) (k : Nat) : (tickTo g p s k).length ≤ 65 * k := by
  induction k with
  | zero => exact Nat.le_refl _
  | succ k ih =>
    unfold tickTo
    split
    · omega
    · rw [List.length_append, List.length_append]
      have := tickW_length g p s.vs k s.st
      simp
      omega
theorem tickJ_length (g : Gr) (p : Nat) (s : NS) (fs : List Fr) (h : s.st.length ≤ 64) (h' : fs.length ≤ 64) (k j : Nat) : (tickJ g p s fs k j).length ≤ 65 * k + 64 := by
  unfold tickJ
  rw [List.length_append]
  have h1 := tickTo_length g p s h k
  have h2 := tickW_length g p s.vs k ((fs.take j).map Fr.fm)
  rw [List.length_map, List.length_take] at h2
  omega

theorem tickJ_all {g : Gr} {p : Nat} {s : NS} {fs : List Fr} (h : fs.map Fr.fm = s.st) (k : Nat) : tickJ g p s fs k fs.length = tickTo g p s k ++ tickW g p s.vs k s.st := by
  unfold tickJ
  rw [List.take_length, h]

set_option maxRecDepth 100000 in
set_option maxHeartbeats 2000000 in
theorem nodeTick_any (A : Nat → Addr) (base b : Nat) (g : Gr) (p : Nat) (s : NS) (F : Nat → Prop) (hg : g.Ok) (hp : p < g.n) (hs : s.Ok g p) (w : World) (hw : Sl w A base) (h : NodeAt w b g p s F) :
    Calls Tryz.prog 94 #[.pointer (some ⟨b, 0, none⟩)] w fun e w' => (∃ v, e = .returned v ∧ Pks w' w.heap.size v (s.tick g p)) ∧ Below w.heap.size w w' := by
  obtain ⟨G, fs, hN, hst, hkf, hFt⟩ := h.how
  have hsh : fs.length ≤ 64 := by rw [← List.length_map (f := Fr.fm), hst]; exact hs.short hg
  have hn8 := hg.n.2
  have HN : Hid _ := hN
  have HW : Hid _ := hw
  have HS : Hid _ := hs
  have HST : Hid _ := hst
  have HKF : Hid _ := hkf
  obtain ⟨c0, c1, c2, c3, c4, c5, _⟩ := hN.nb
  clear hN hw hs hFt hst hkf h
  go_enter Tryz.func94, Tryz.ntmps94
  go_wp2_with fail
  have HB0 : Hid (∀ m, Below w.heap.size w (w.drewN m)) := fun m => below_drewN (Below.refl _ _) m
  have HCl : Hid (∀ x, Below w.heap.size w x → Calls Tryz.prog 102 #[.pointer (some ⟨b, 0, none⟩)] x fun e w' => e = .returned (.slice (some ⟨G.rows.getD p 0, 0, none⟩) g.n g.n) ∧ ∃ m, w' = x.drewN m) := fun x hx => clock_any b g.n g.W g.B g.L p G.gv G.rows s.vs x (HN.out.low hx).nb (HN.out.low hx).nv hp
  have HTx : Hid (∀ x, Below w.heap.size w x → Calls Tryz.prog 153 #[.pointer (some ⟨b, 0, none⟩), .agg #[.int .i64 2, .int .i64 (p : Int), .int .i64 0, .int .i64 0, .int .i64 0, .slice (some ⟨G.rows.getD p 0, 0, none⟩) g.n g.n, .string ⟨#[]⟩]] x fun e w' => e = .returned (.string (stateM g p (s.vs.getD p []))) ∧ Below x.heap.size x w') := fun x hx => text_any (A 1) (A 5) b g.n g.W g.B g.L p G.gv ⟨2, p, 0, 0, 0, some ⟨G.rows.getD p 0, 0, none⟩, g.n, s.vs.getD p [], ⟨#[]⟩⟩ x (HW.out.low hx).sent (HN.out.low hx).nb (show Ints x _ _ _ from ⟨(HN.out.low hx).nv.elen p hp, fun i hi => ⟨_, 0, rfl, ((HN.out.low hx).nv.each p hp).lt, by rw [Nat.zero_add]; exact (HN.out.low hx).nv.cell hp hi⟩⟩) hn8 (by show (0 : Nat) ≤ _; unfold maxLen; omega)
  have hbz : b < w.heap.size := lt_of_cell c4
  obtain ⟨sx, hsx⟩ : ∃ sx, sx = stateM g p (s.vs.getD p []) := ⟨_, rfl⟩
  rw [← hsx] at HTx
  have HSX : Hid _ := hsx
  clear hsx
  generalize G.rows.getD p 0 = gp at *
  go_region_held3 (fun x => x.cell? ⟨b, 4, none⟩ = some (.int .i64 (p : Int))) (first | (exact c4) | (exact (HB1.out.cell (p := ⟨b, 4, none⟩) hbz).trans c4) | go_keep) (first | (go_at_call 102; refine (HCl.out _ (HB0.out 1)).mono ?_; rintro e w' ⟨rfl, m, rfl⟩) | (go_at_call 153; refine (HTx.out _ (HB0.out _)).mono ?_; rintro e w1 ⟨rfl, hb1⟩; have HB1 : Hid (Below w.heap.size w w1) := bthen (HB0.out _) hb1; clear hb1))
  obtain ⟨d0, d1, d2, d3, d4, d5, _⟩ := (HN.out.low HB1.out).nb
  clear c0 c1 c2 c3 c4 c5
  rename_i hHeld
  clear hHeld
  have HSH : Hid (s.st.length ≤ 64) := HS.out.short hg
  have HTE : Hid (s.tick g p = tickTo g p s g.n) := rfl
  obtain ⟨i1, hj, hy0, hy1, hy2⟩ := info_parts Tryz.packetInfo
  go_wp2_with fail
  clear d0 d1 d2 d3 d4 d5
  go_loopw [4, 22] (fun pv c wr => ∃ k : Nat, k ≤ g.n ∧ c = .int .i64 k ∧ Pks wr w.heap.size pv (tickTo g p s k) ∧ Below w.heap.size w wr) (fun _ c _ => g.n - (intOf c).toNat)
  case atStart => exact ⟨0, Nat.zero_le _, rfl, Pks.nil _ _, HB1.out⟩
  case round =>
    obtain ⟨k, hkn, rfl, hps, hbel⟩ := hrel
    have HPS : Hid _ := hps
    have HBel : Hid _ := hbel
    clear hps hbel
    obtain ⟨av, cv, hshape⟩ := rowShaped HPS.out.own
    subst hshape
    by_cases hlt : k < g.n
    · have hki : (k : Int) < (g.n : Int) := by omega
      have HNr : Hid _ := HN.out.low HBel.out
      have d4 := HNr.out.nb.c4
      have d6 := HNr.out.c6
      by_cases hkp : k = p
      · subst hkp
        have HTk : Hid (tickTo g k s (k + 1) = tickTo g k s k) := if_pos rfl
        go_wp2_with fail
        go_roundw
        case rel => exact ⟨k + 1, by omega, by go_num, by rw [HTk.out]; exact HPS.out, HBel.out⟩
        case measure => simp [intOf]; omega
      · have hne : ((k : Int) == (p : Int)) = false := by simp; omega
        have HTk : Hid (tickTo g p s (k + 1) = tickTo g p s k ++ tickW g p s.vs k s.st ++ [⟨(k : Int), sx⟩]) := by
          show tickTo g p s (k + 1) = _
          rw [HSX.out]
          exact if_neg hkp
        have HLn : Hid _ := fun j => tickJ_length g p s fs HSH.out hsh k j
        have HT0 : Hid (Pks wr w.heap.size (.slice av (tickTo g p s k).length cv) (tickJ g p s fs k 0)) := by rw [tickJ_zero]; exact HPS.out
        go_wp2_with fail
        clear d4 d6
        go_loopw [4, 36] (fun pv c wq => ∃ j : Nat, j ≤ fs.length ∧ c = .int .i64 j ∧ Pks wq w.heap.size pv (tickJ g p s fs k j) ∧ Below w.heap.size w wq) (fun _ c _ => fs.length - (intOf c).toNat)
        case atStart => exact ⟨0, Nat.zero_le _, rfl, HT0.out, HBel.out⟩
        case round =>
          obtain ⟨j, hjn, rfl, hps2, hbel2⟩ := hrel
          have HPS2 : Hid _ := hps2
          have HBel2 : Hid _ := hbel2
          clear hps2 hbel2
          obtain ⟨av2, cv2, hshape2⟩ := rowShaped HPS2.out.own
          subst hshape2
          by_cases hlt2 : j < fs.length
          · have HNq : Hid _ := HN.out.low HBel2.out
            obtain ⟨gb, cur, hga, _⟩ := HNq.out.fr.block (by omega)
            obtain ⟨f, hf⟩ : ∃ f, fs[j]? = some f := ⟨fs[j], List.getElem?_eq_getElem _⟩
            have hfm := List.mem_of_getElem? hf
            obtain ⟨o, hof, hon⟩ := (HS.out.st f.fm (by rw [← HST.out]; exact List.mem_map_of_mem hfm)).org
            obtain ⟨kd, fm, org, seq, lo, ad, cp, vec, body⟩ := f
            have hof' : org = (o : Int) := hof
            subst hof'
            have hfr := HNq.out.fr
            rw [hga] at hfr ⊢
            obtain ⟨s0, s1, s2, s3, s4, s5, s6⟩ := hfr.seven hlt2 hf
            simp only at s0 s1 s2 s3 s4 s5 s6
            clear hfr hga hof
            have hji : (j : Int) < (fs.length : Int) := by omega
            have hoi : (o : Int) < (g.n : Int) := by omega
            have HFM : Hid _ := hfm
            have HAL : Hid _ := below1 wr (.cells #[.int .i64 kd, .int .i64 fm, .int .i64 (o : Int), .int .i64 seq, .int .i64 lo, .slice ad g.n cp, .string body] 45)
            have HS7 : Hid _ := seven_alloc wr (.int .i64 kd) (.int .i64 fm) (.int .i64 (o : Int)) (.int .i64 seq) (.int .i64 lo) (.slice ad g.n cp) (.string body) 45
            have HTs : Hid _ := tickJ_succ (g := g) (p := p) (s := s) (k := k) hf
            have HSe : Hid (sends s.vs k (Fr.fm ⟨kd, fm, (o : Int), seq, lo, ad, cp, vec, body⟩) = decide ((o : Int) ≠ (k : Int) ∧ vw s.vs k o < seq)) := rfl
            have HTx2 : Hid (∀ x, Below w.heap.size w x → Calls Tryz.prog 153 #[.pointer (some ⟨b, 0, none⟩), .agg #[.int .i64 kd, .int .i64 fm, .int .i64 (o : Int), .int .i64 seq, .int .i64 lo, .slice ad g.n cp, .string body]] x fun e w' => e = .returned (.string (textM g p (Fr.fm ⟨kd, fm, (o : Int), seq, lo, ad, cp, vec, body⟩))) ∧ Below x.heap.size x w') := fun x hx => by
              rw [← textOf_eq (f := ⟨kd, fm, (o : Int), seq, lo, ad, cp, vec, body⟩) (HKF.out _ HFM.out).1 (HKF.out _ HFM.out).2]
              exact text_any (A 1) (A 5) b g.n g.W g.B g.L p G.gv ⟨kd, fm, (o : Int), seq, lo, ad, cp, vec, body⟩ x (HW.out.low hx).sent (HN.out.low hx).nb ((HN.out.low hx).vec _ HFM.out).1.ints hn8 (by
                have h1 := (HS.out.st _ (by rw [← HST.out]; exact List.mem_map_of_mem HFM.out)).body
                have h2 := hg.B
                have h3 : (body.size : Int) ≤ g.B := h1
                show body.size ≤ _
                unfold maxLen
                omega)
            generalize textM g p (Fr.fm ⟨kd, fm, (o : Int), seq, lo, ad, cp, vec, body⟩) = tx at *
            generalize sends s.vs k (Fr.fm ⟨kd, fm, (o : Int), seq, lo, ad, cp, vec, body⟩) = se at *
            clear hf hfm
            go_wp2_with fail
            clear s0 s1 s2 s3 s4 s5 s6
            obtain ⟨s0, s1, s2, s3, s4, s5, s6, sz⟩ := HS7.out
            generalize hX : wr.alloc (.cells #[.int .i64 kd, .int .i64 fm, .int .i64 (o : Int), .int .i64 seq, .int .i64 lo, .slice ad g.n cp, .string body] 45) = X at *
            have HBX : Hid (Below w.heap.size w X) := bthen HBel2.out HAL.out
            have HNX : Hid _ := HN.out.low HBX.out
            have HPX : Hid (Pks X w.heap.size (.slice av2 (tickJ g p s fs k j).length cv2) (tickJ g p s fs k j)) := HPS2.out.alike (Alike.of_below HAL.out (fun _ => False)) (fun _ _ _ h => h)
            have e5 := HNX.out.nb.c5
            have er := HNX.out.nv.row k hlt
            have ec := HNX.out.nv.cell hlt hon
            generalize G.rows.getD k 0 = gk at *
            generalize vw s.vs k o = y at *
            clear hX
            by_cases y1 : (o : Int) = (k : Int)
            · have b1 : ((o : Int) != (k : Int)) = false := by simp [y1]
              have HSf : Hid (se = false) := HSe.out.trans (decide_eq_false (fun h => h.1 y1))
              clear HSe
              go_region
              go_wp2_with fail
              go_roundw
              case rel => exact ⟨j + 1, by omega, by go_num, by rw [HTs.out, HSf.out]; exact (List.append_nil (tickJ g p s fs k j)).symm ▸ HPX.out.alike (Alike.of_below (below_drewN (Below.refl _ _) _) (fun _ => False)) (fun _ _ _ h => h), below_drewN HBX.out _⟩
              case measure => simp [intOf]; omega
            · have b1 : ((o : Int) != (k : Int)) = true := by simp [y1]
              by_cases y3 : y < seq
              · have HSt : Hid (se = true) := HSe.out.trans (decide_eq_true ⟨y1, y3⟩)
                have b3 : decide (y < seq) = true := decide_eq_true y3
                clear HSe
                go_quiet (fail)
                go_wp2_with fail
                refine (HTx2.out _ (below_drewN HBX.out _)).mono ?_
                rintro e w5 ⟨rfl, hb5⟩
                have HB5 : Hid (Below w.heap.size w w5) := bthen (below_drewN HBX.out _) hb5
                have HP5 : Hid (Pks w5 w.heap.size (.slice av2 (tickJ g p s fs k j).length cv2) (tickJ g p s fs k j)) := (HPX.out.alike (Alike.of_below (below_drewN (Below.refl _ _) _) (fun _ => False)) (fun _ _ _ h => h)).alike (Alike.of_below hb5 (fun _ => False)) (fun _ _ _ h => h)
                have hz5 := HB5.out.size
                clear hb5 s0 s1 s2 s3 s4 s5 s6 sz e5 er ec
                go_wp2_with (at_builtin; refine wpList_append_own _ rfl (.tmp 60) (.tmp 66) 54 rfl w.heap.size 109 i1 _ 2 24 Tryz.underlying54 hj hy0 hy1 hy2 rfl (by decide) _ _ _ rfl (World.ownsRow.alloc HP5.out.own _) ⟨w5.heap.size, 0, none⟩ 1 1 [.int .i64 k, .string tx] rfl rfl ?c1 ?c2 (by have := HLn.out j; unfold maxLen; omega) (by have := HLn.out j; omega) (by simp; omega) ?_)
                case c1 =>
                  intro q u hq
                  match q, hq with
                  | 0, hq => simp at hq; subst hq; simp [Addr.add]
                  | 1, hq => simp at hq; subst hq; simp [Addr.add]
                case c2 =>
                  intro u hu
                  simp at hu
                  rcases hu with rfl | rfl <;> rfl
                intro v4 w4 hown4 hgrow4 _
                have HG4 : Hid (Pks w4 w.heap.size v4 (tickJ g p s fs k (j + 1))) := by
                  refine ⟨?_⟩
                  rw [HTs.out, HSt.out, if_pos rfl, prow_append, List.length_append]
                  exact hown4
                have HB4 : Hid (Below w.heap.size w w4) := (HB5.out.alloc hz5 _).grown hgrow4 (by simp; omega) HP5.out.block
                obtain ⟨a4, c4', hg4⟩ := rowShaped hown4
                subst hg4
                clear hown4 hgrow4
                go_wp2_with fail
                go_roundw
                case rel => exact ⟨j + 1, by omega, by go_num, HG4.out, HB4.out⟩
                case measure => simp [intOf]; omega
              · have HSf : Hid (se = false) := HSe.out.trans (decide_eq_false (fun h => y3 h.2))
                have b3 : decide (y < seq) = false := decide_eq_false y3
                clear HSe
                go_quiet (fail)
                go_wp2_with fail
                go_roundw
                case rel => exact ⟨j + 1, by omega, by go_num, by rw [HTs.out, HSf.out]; exact (List.append_nil (tickJ g p s fs k j)).symm ▸ HPX.out.alike (Alike.of_below (below_drewN (Below.refl _ _) _) (fun _ => False)) (fun _ _ _ h => h), below_drewN HBX.out _⟩
                case measure => simp [intOf]; omega
          · have hjn' : j = fs.length := by omega
            subst hjn'
            have hzr := HBel2.out.size
            go_wp2_with (at_builtin; refine wpList_append_own _ rfl (.tmp 69) (.tmp 73) 54 rfl w.heap.size 109 i1 _ 2 24 Tryz.underlying54 hj hy0 hy1 hy2 rfl (by decide) _ _ _ rfl (World.ownsRow.alloc HPS2.out.own _) ⟨wr.heap.size, 0, none⟩ 1 1 [.int .i64 k, .string sx] rfl rfl ?c1 ?c2 (by have := HLn.out fs.length; unfold maxLen; omega) (by have := HLn.out fs.length; omega) (by simp; omega) ?_)
            case c1 =>
              intro q u hq
              match q, hq with
              | 0, hq => simp at hq; subst hq; simp [Addr.add]
              | 1, hq => simp at hq; subst hq; simp [Addr.add]
            case c2 =>
              intro u hu
              simp at hu
              rcases hu with rfl | rfl <;> rfl
            intro v4 w4 hown4 hgrow4 _
            have HG4 : Hid (Pks w4 w.heap.size v4 (tickTo g p s (k + 1))) := by
              refine ⟨?_⟩
              rw [HTk.out, ← tickJ_all HST.out, prow_append, List.length_append]
              exact hown4
            have HB4 : Hid (Below w.heap.size w w4) := (HBel2.out.alloc hzr _).grown hgrow4 (by simp; omega) HPS2.out.block
            obtain ⟨a4, c4', hg4⟩ := rowShaped hown4
            subst hg4
            clear hown4 hgrow4
            go_wp2_with fail
            go_roundw
            case rel => exact ⟨k + 1, by omega, by go_num, HG4.out, HB4.out⟩
            case measure => simp [intOf]; omega
    · have hkn' : k = g.n := by omega
      subst hkn'
      go_wp2_with fail
      go_ret
      exact ⟨⟨_, rfl, by rw [HTE.out]; exact HPS.out⟩, HBel.out⟩
end Go.Proofs.YtabecbjfamphbaaGreatDoor
