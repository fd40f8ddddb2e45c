/-
  Texts that the proofs of this seat share, joined: Bin, Ins0.
-/
import Derived.Test.YtabecbjfamphbaaGreatDoorB04
import Derived.Lib.QuietBelow
import Derived.Shelf.Spec.SlicesInsertGrow
/- slices.BinarySearchFunc over the store. -/
namespace Go.Proofs.YtabecbjfamphbaaGreatDoor
open Go.RowKit Go.Stop Go.Extern Go.Sort

/-- Where a word stands against another. -/
def ordF (a b : Fr) : Int := ordI a.org a.seq b.org b.seq
/-- The place of a word in a store, that of the first one that is not ahead of it. -/
structure Place (fs : List Fr) (f : Fr) (m : Nat) : Prop where
  le : m ≤ fs.length
  lo : ∀ i a, fs[i]? = some a → i < m → ordF a f < 0
  hi : ∀ i a, fs[i]? = some a → m ≤ i → 0 ≤ ordF a f
def foundAt (fs : List Fr) (f : Fr) (m : Nat) : Bool := match fs[m]? with
  | some a => decide (ordF a f = 0)
  | none => false

set_option maxRecDepth 100000 in
set_option maxHeartbeats 1000000 in
theorem search_any (n : Nat) (ad : Option Addr) (len cap : Nat) (fs : List Fr) (f : Fr) (m : Nat) (w : World) (hr : Frs w n ad len cap fs) (hl : len ≤ 1000) (hm : Place fs f m) :
    Calls Tryz.prog 189 #[.slice ad len cap, Fr.agg n f, .func (.func 190) #[] #[]] w
      fun e w' => e = .returned (.tuple #[.int .i64 (m : Int), .bool (foundAt fs f m)]) ∧ Below w.heap.size w w' := by
  have HR : Hid _ := hr
  have HM : Hid _ := hm
  have hml := hm.le
  have hfl := hr.flen
  have HO : Hid (∀ a w, Calls Tryz.prog 190 #[Fr.agg n a, Fr.agg n f] w fun e w' => e = .returned (.int .i64 (ordF a f)) ∧ Below w.heap.size w w') := fun a w => byOrd_any _ _ _ _ _ _ _ _ _ _ _ _ _ _ w
  have hbox := seven_alloc w (.int .i64 f.kind) (.int .i64 f.frm) (.int .i64 f.org) (.int .i64 f.seq) (.int .i64 f.low) (.slice f.ad n f.cap) (.string f.body) 45
  have HBx : Hid _ := hbox
  clear hr hm hbox
  unfold Fr.agg at HO ⊢
  go_enter Tryz.func189, Tryz.ntmps189
  go_wp2_with fail
  go_loopw [9, 10] (fun c d wr => ∃ i j : Nat, i ≤ m ∧ m ≤ j ∧ j ≤ len ∧ c = .int .i64 i ∧ d = .int .i64 j ∧ Below w.heap.size w wr ∧ Seven w.heap.size wr (.int .i64 f.kind) (.int .i64 f.frm) (.int .i64 f.org) (.int .i64 f.seq) (.int .i64 f.low) (.slice f.ad n f.cap) (.string f.body)) (fun c d _ => (intOf d).toNat - (intOf c).toNat)
  case atStart => exact ⟨0, len, Nat.zero_le _, by omega, Nat.le_refl _, rfl, rfl, below1 _ _, HBx.out⟩
  case round =>
    obtain ⟨i, j, him, hmj, hjl, rfl, rfl, hbel, hsev⟩ := hrel
    have HBel : Hid _ := hbel
    have HSv : Hid _ := hsev
    obtain ⟨x0, x1, x2, x3, x4, x5, x6, xz⟩ := hsev
    clear hbel
    by_cases hlt : i < j
    · have hij : (i : Int) < (j : Int) := by omega
      obtain ⟨h, hh, h1, h2⟩ : ∃ h : Nat, ((i : Int) + (j : Int)) / 2 = (h : Int) ∧ i ≤ h ∧ h < j := ⟨(i + j) / 2, by omega, by omega, by omega⟩
      obtain ⟨g, cur, rfl, _⟩ := HR.out.block (by omega)
      obtain ⟨a, ha⟩ : ∃ a, fs[h]? = some a := ⟨fs[h]'(by omega), List.getElem?_eq_getElem _⟩
      obtain ⟨s0, s1, s2, s3, s4, s5, s6⟩ := (HR.out.low HBel.out).seven (show h < len by omega) ha
      have hhl : (h : Int) < (len : Int) := by omega
      have HOc : Hid (∀ d os, Calls Tryz.prog 190 #[.agg #[.int .i64 a.kind, .int .i64 a.frm, .int .i64 a.org, .int .i64 a.seq, .int .i64 a.low, .slice a.ad n a.cap, .string a.body], .agg #[.int .i64 f.kind, .int .i64 f.frm, .int .i64 f.org, .int .i64 f.seq, .int .i64 f.low, .slice f.ad n f.cap, .string f.body]] (grow (redrawn wr d) os) fun e w'' => e = .returned (.int .i64 (ordF a f)) ∧ ∃ p : Regrown, w'' = grow (redrawn wr p.d) p.os) := fun d os => Calls.regrown_of (HO.out a _)
      have hlo := HM.out.lo h a ha
      have hhi := HM.out.hi h a ha
      generalize hod : ordF a f = od at *
      go_wp2_with fail
      have y0 := cell_regrown s0
      have y1 := cell_regrown s1
      have y2 := cell_regrown s2
      have y3 := cell_regrown s3
      have y4 := cell_regrown s4
      have y5 := cell_regrown s5
      have y6 := cell_regrown s6
      have z0 := cell_regrown x0
      have z1 := cell_regrown x1
      have z2 := cell_regrown x2
      have z3 := cell_regrown x3
      have z4 := cell_regrown x4
      have z5 := cell_regrown x5
      have z6 := cell_regrown x6
      clear s0 s1 s2 s3 s4 s5 s6 x0 x1 x2 x3 x4 x5 x6
      refine wp_region_quiet_below (by kernel_rfl) (by kernel_rfl) ?_
      repeat (quiet_step (first | exact HOc.out _ _))
      refine wpQuiet_nil ?_
      intro _ hw'
      obtain ⟨⟨dq, osq⟩, hw''⟩ := hw'
      subst hw''
      have hb2 := below_regrown wr dq osq
      have HB2 : Hid (Below w.heap.size w (grow (redrawn wr dq) osq)) := bthen HBel.out hb2
      have HS2 : Hid _ := HSv.out.below hb2 HSv.out.z
      generalize grow (redrawn wr dq) osq = w2 at *
      clear y0 y1 y2 y3 y4 y5 y6 z0 z1 z2 z3 z4 z5 z6 hb2
      all_goals
        by_cases hneg : od < 0
        · go_wp2_with fail
          go_roundw
          case rel => exact ⟨h + 1, j, by omega, hmj, hjl, by go_num, rfl, HB2.out, HS2.out⟩
          case measure => simp [intOf]; omega
        · go_wp2_with fail
          go_roundw
          case rel => exact ⟨i, h, him, by omega, by omega, rfl, rfl, HB2.out, HS2.out⟩
          case measure => simp [intOf]; omega
    · have hi' : m = i := by omega
      have hj' : j = i := by omega
      subst hi'
      subst hj'
      have hij : ¬ (j : Int) < (j : Int) := by omega
      by_cases hjl' : j < len
      · obtain ⟨g, cur, rfl, _⟩ := HR.out.block (by omega)
        obtain ⟨a, ha⟩ : ∃ a, fs[j]? = some a := ⟨fs[j]'(by omega), List.getElem?_eq_getElem _⟩
        obtain ⟨s0, s1, s2, s3, s4, s5, s6⟩ := (HR.out.low HBel.out).seven hjl' ha
        have hhl : (j : Int) < (len : Int) := by omega
        have HOc : Hid (∀ d os, Calls Tryz.prog 190 #[.agg #[.int .i64 a.kind, .int .i64 a.frm, .int .i64 a.org, .int .i64 a.seq, .int .i64 a.low, .slice a.ad n a.cap, .string a.body], .agg #[.int .i64 f.kind, .int .i64 f.frm, .int .i64 f.org, .int .i64 f.seq, .int .i64 f.low, .slice f.ad n f.cap, .string f.body]] (grow (redrawn wr d) os) fun e w'' => e = .returned (.int .i64 (ordF a f)) ∧ ∃ p : Regrown, w'' = grow (redrawn wr p.d) p.os) := fun d os => Calls.regrown_of (HO.out a _)
        have HFo : Hid (foundAt fs f j = decide (ordF a f = 0)) := by show foundAt fs f j = _; unfold foundAt; rw [ha]
        generalize ordF a f = od at *
        go_wp2_with fail
        have y0 := cell_regrown s0
        have y1 := cell_regrown s1
        have y2 := cell_regrown s2
        have y3 := cell_regrown s3
        have y4 := cell_regrown s4
        have y5 := cell_regrown s5
        have y6 := cell_regrown s6
        have z0 := cell_regrown x0
        have z1 := cell_regrown x1
        have z2 := cell_regrown x2
        have z3 := cell_regrown x3
        have z4 := cell_regrown x4
        have z5 := cell_regrown x5
        have z6 := cell_regrown x6
        clear s0 s1 s2 s3 s4 s5 s6 x0 x1 x2 x3 x4 x5 x6
        refine wp_region_quiet_below (by kernel_rfl) (by kernel_rfl) ?_
        repeat (quiet_step (first | exact HOc.out _ _))
        refine wpQuiet_nil ?_
        intro _ hw'
        obtain ⟨⟨dq, osq⟩, hw''⟩ := hw'
        subst hw''
        have hb2 := below_regrown wr dq osq
        have HB2 : Hid (Below w.heap.size w (grow (redrawn wr dq) osq)) := bthen HBel.out hb2
        have HS2 : Hid _ := HSv.out.below hb2 HSv.out.z
        generalize grow (redrawn wr dq) osq = w2 at *
        clear y0 y1 y2 y3 y4 y5 y6 z0 z1 z2 z3 z4 z5 z6 hb2
        have hdo : decide (od = 0) = (od == 0) := by cases h : od == 0 <;> simp at h <;> simp [h]
        rw [hdo] at HFo
        go_wp2_with fail
        go_ret2
        exact ⟨by rw [HFo.out]; rfl, HB2.out⟩
      · have hjj : len = j := by omega
        subst hjj
        have HFo : Hid (foundAt fs f len = false) := by show foundAt fs f len = _; unfold foundAt; rw [List.getElem?_eq_none (by omega)]
        clear hjl' hmj him hjl hml hlt x0 x1 x2 x3 x4 x5 x6 xz
        go_wp2_with fail
        go_region
        go_wp2_with fail
        go_ret2
        exact ⟨by rw [HFo.out]; rfl, HBel.out.drew⟩
end Go.Proofs.YtabecbjfamphbaaGreatDoor

/- copy over rows of frames. -/
namespace Go.Proofs.YtabecbjfamphbaaGreatDoor
open Go.RowKit Go.Stop Go.Extern

theorem Tryz.frameInfo : (Tryz.prog.info? 45).map (fun i => (i.zero, i.size, i.bytes)) = some (some (.agg #[.int .i64 0, .int .i64 0, .int .i64 0, .int .i64 0, .int .i64 0, .slice none 0 0, .string ⟨#[]⟩]), 7, 80) := by kernel_rfl
theorem cells_one (n : Nat) (f : Fr) : ∀ v ∈ Fr.cells n f, v.oneCell' = true := by
  intro v hv
  simp [Fr.cells] at hv
  rcases hv with rfl | rfl | rfl | rfl | rfl | rfl | rfl <;> rfl
theorem frow_one (n : Nat) (fs : List Fr) : ∀ v ∈ frow n fs, v.oneCell' = true := by
  intro v hv
  unfold frow at hv
  obtain ⟨f, _, hv⟩ := List.mem_flatMap.1 hv
  exact cells_one n f v hv
/-- copy(d, s) of frames: all is read ahead of what is written. -/
theorem copy7 (w : World) (ty : TypeId) (g o dLen dCap : Nat) (a : Addr) (sLen sCap : Nat) (cur : Array Value) (t : TypeId) (cs : List Value)
    (hg : w.heap[g]? = some (.cells cur t (0, 0))) (hn : cs.length = Nat.min sLen dLen * 7)
    (hsrc : ∀ j v, cs[j]? = some v → w.cell? (a.add j) = some v) (hfit : o + cs.length ≤ cur.size) (h1 : ∀ v ∈ cs, v.oneCell' = true) :
    (Builtin.copy_ #[147, 147] ty #[.slice (some ⟨g, o, none⟩) dLen dCap, .slice (some a) sLen sCap]).run Tryz.prog w =
      .ok (goInt (Nat.min sLen dLen)) (w.setRow g (cur.toList.take o ++ cs ++ cur.toList.drop (o + cs.length)).toArray) := by
  have hl := run_loadCells_list (P := Tryz.prog) w a cs hsrc
  have hst := run_storeCells_at Tryz.prog g o t cs 0 cur w hg (by simpa using hfit) h1
  obtain ⟨q, hq, hqz⟩ := Option.map_eq_some_iff.1 Tryz.frameInfo
  simp only [Prod.mk.injEq] at hqz
  obtain ⟨_, hq7, _⟩ := hqz
  rw [hn] at hl
  simp [Builtin.copy_, run_underlying Tryz.underlying147, Builtin.lenOf, Builtin.firstCells, sizeOf, typeInfo, hq, hq7, hl, hst]
end Go.Proofs.YtabecbjfamphbaaGreatDoor
