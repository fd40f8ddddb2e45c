/-
  Texts that the proofs of this seat share, joined: Del2, Del3, Ord.
-/
import Derived.Test.YtabecbjfamphbaaGreatDoorB03
import Derived.Laws.CopyRow
import Derived.Deep.QuietTactic
import Derived.Deep.RegionHeld3
/- slices.DeleteFunc over the store. -/
namespace Go.Proofs.YtabecbjfamphbaaGreatDoor
open Go.RowKit Go.Stop Go.Extern

theorem frow_set (n : Nat) (f : Fr) : ∀ (fs : List Fr) (i : Nat), i < fs.length → frow n (fs.set i f) = (((((((frow n fs).set (i * 7) (.int .i64 f.kind)).set (i * 7 + 1) (.int .i64 f.frm)).set (i * 7 + 2) (.int .i64 f.org)).set (i * 7 + 3) (.int .i64 f.seq)).set (i * 7 + 4) (.int .i64 f.low)).set (i * 7 + 5) (.slice f.ad n f.cap)).set (i * 7 + 6) (.string f.body)
  | [], i, h => absurd h (Nat.not_lt_zero _)
  | a :: fs, 0, _ => rfl
  | a :: fs, i + 1, h => by
    have ih := frow_set n f fs i (by simpa using h)
    have hl : (Fr.cells n a).length = 7 := rfl
    show Fr.cells n a ++ frow n (fs.set i f) = _
    rw [ih]
    show _ = ((((((((Fr.cells n a ++ frow n fs).set _ _).set _ _).set _ _).set _ _).set _ _).set _ _).set _ _)
    rw [List.set_append_right _ _ (by omega), List.set_append_right _ _ (by omega), List.set_append_right _ _ (by omega), List.set_append_right _ _ (by omega), List.set_append_right _ _ (by omega), List.set_append_right _ _ (by omega), List.set_append_right _ _ (by omega)]
    rw [hl, show (i + 1) * 7 - 7 = i * 7 by omega, show (i + 1) * 7 + 1 - 7 = i * 7 + 1 by omega, show (i + 1) * 7 + 2 - 7 = i * 7 + 2 by omega, show (i + 1) * 7 + 3 - 7 = i * 7 + 3 by omega, show (i + 1) * 7 + 4 - 7 = i * 7 + 4 by omega, show (i + 1) * 7 + 5 - 7 = i * 7 + 5 by omega, show (i + 1) * 7 + 6 - 7 = i * 7 + 6 by omega]
theorem frow_take (n : Nat) (fs : List Fr) (i : Nat) : frow n (fs.take i) = (frow n fs).take (i * 7) := by
  rcases Nat.lt_or_ge fs.length i with h | h
  · rw [List.take_of_length_le (by omega), List.take_of_length_le (by rw [frow_length]; omega)]
  · conv => rhs; rw [← List.take_append_drop i fs, frow_append]
    rw [List.take_left' (by rw [frow_length, List.length_take]; omega)]
/-- One frame of the row another. -/
theorem Frs.put {w : World} {n g len cap : Nat} {fs : List Fr} (h : Frs w n (some ⟨g, 0, none⟩) len cap fs) {i : Nat} (hi : i < len) (f : Fr) :
    Frs (((((((w.setCell ⟨g, i * 7, none⟩ (.int .i64 f.kind)).setCell ⟨g, i * 7 + 1, none⟩ (.int .i64 f.frm)).setCell ⟨g, i * 7 + 2, none⟩ (.int .i64 f.org)).setCell ⟨g, i * 7 + 3, none⟩ (.int .i64 f.seq)).setCell ⟨g, i * 7 + 4, none⟩ (.int .i64 f.low)).setCell ⟨g, i * 7 + 5, none⟩ (.slice f.ad n f.cap)).setCell ⟨g, i * 7 + 6, none⟩ (.string f.body)) n (some ⟨g, 0, none⟩) len cap (fs.set i f) := by
  refine ⟨by rw [List.length_set]; exact h.flen, ?_⟩
  rw [frow_set n f fs i (by rw [h.flen]; exact hi)]
  have h0 := (World.ownsRow.stored h.own (i * 7) (.int .i64 f.kind)).1
  have h1 := (World.ownsRow.stored h0 (i * 7 + 1) (.int .i64 f.frm)).1
  have h2 := (World.ownsRow.stored h1 (i * 7 + 2) (.int .i64 f.org)).1
  have h3 := (World.ownsRow.stored h2 (i * 7 + 3) (.int .i64 f.seq)).1
  have h4 := (World.ownsRow.stored h3 (i * 7 + 4) (.int .i64 f.low)).1
  have h5 := (World.ownsRow.stored h4 (i * 7 + 5) (.slice f.ad n f.cap)).1
  exact (World.ownsRow.stored h5 (i * 7 + 6) (.string f.body)).1
theorem Frs.free {w : World} {n g len cap : Nat} {fs : List Fr} (h : Frs w n (some ⟨g, 0, none⟩) len cap fs) (j : Nat) : w.frozen? ⟨g, j, none⟩ = false := World.ownsRow.frozenAt h.own j
theorem Frs.alike {w w' : World} {n : Nat} {ad : Option Addr} {len cap : Nat} {fs : List Fr} {E : Nat → Prop} (h : Frs w n ad len cap fs) (ha : Alike w w' E) (hE : ∀ g off, ad = some ⟨g, off, none⟩ → ¬ E g) : Frs w' n ad len cap fs := by
  refine ⟨h.flen, h.own.1, ?_⟩
  rcases h.own.2 with h | ⟨g, cap', cur, he, hg, hh, hr⟩
  · exact Or.inl h
  · cases he
    exact Or.inr ⟨g, cap, cur, rfl, hg, (ha.block g (lt_of_some hh) (hE g 0 rfl)).trans hh, hr⟩
theorem alike1 (w : World) (g a : Nat) (v : Value) : Alike w (w.setCell ⟨g, a, none⟩ v) (fun k => k = g) := Alike.setCell w ⟨g, a, none⟩ v
theorem alike2 {w w' : World} {g : Nat} (h : Alike w w' (fun k => k = g)) (a : Nat) (v : Value) : Alike w (w'.setCell ⟨g, a, none⟩ v) (fun k => k = g) := h.trans (alike1 w' g a v) (fun _ _ h => h)
theorem alike_set7 (w : World) (g a0 a1 a2 a3 a4 a5 a6 : Nat) (v0 v1 v2 v3 v4 v5 v6 : Value) : Alike w (((((((w.setCell ⟨g, a0, none⟩ v0).setCell ⟨g, a1, none⟩ v1).setCell ⟨g, a2, none⟩ v2).setCell ⟨g, a3, none⟩ v3).setCell ⟨g, a4, none⟩ v4).setCell ⟨g, a5, none⟩ v5).setCell ⟨g, a6, none⟩ v6) (fun k => k = g) :=
  alike2 (alike2 (alike2 (alike2 (alike2 (alike2 (alike1 w g a0 v0) a1 v1) a2 v2) a3 v3) a4 v4) a5 v5) a6 v6
theorem Tryz.infoFrame : (Tryz.prog.info? 45).map (fun i => (i.zero, i.size)) = some (some (.agg #[.int .i64 0, .int .i64 0, .int .i64 0, .int .i64 0, .int .i64 0, .slice none 0 0, .string ⟨#[]⟩]), 7) := by kernel_rfl
/-- clear over the row's end: what stands ahead stays. -/
theorem clear_run (w : World) (n g len cap : Nat) (fs : List Fr) (i : Nat) (h : Frs w n (some ⟨g, 0, none⟩) len cap fs) (hi : i < len) (ty : TypeId) (c : Nat) :
    ∃ w', (Builtin.clear_ #[147] ty #[.slice (some ⟨g, i * 7, none⟩) (len - i) c]).run Tryz.prog w = .ok (.tuple #[]) w' ∧ Frs w' n (some ⟨g, 0, none⟩) i cap (fs.take i) ∧ Alike w w' (fun k => k = g) := by
  obtain ⟨hl, h2⟩ := h.own
  rcases h2 with ⟨he, _⟩ | ⟨g', cap', cur, he, hg, hh, hnc, hcm, hcs, htk⟩
  · cases he
  · cases he
    obtain ⟨q, hq, hqz⟩ := Option.map_eq_some_iff.1 Tryz.infoFrame
    simp only [Prod.mk.injEq] at hqz
    obtain ⟨hq0, hq7⟩ := hqz
    have hzc : ((Builtin.zeroCells (Value.agg #[.int .i64 0, .int .i64 0, .int .i64 0, .int .i64 0, .int .i64 0, .slice none 0 0, .string ⟨#[]⟩]).cells (len - i)).toList).length = 7 * (len - i) := by
      simp [Builtin.zeroCells, Value.cells]; omega
    have hone : ∀ v ∈ (Builtin.zeroCells (Value.agg #[.int .i64 0, .int .i64 0, .int .i64 0, .int .i64 0, .int .i64 0, .slice none 0 0, .string ⟨#[]⟩]).cells (len - i)).toList, v.oneCell' = true := by
      intro v hv
      simp only [Builtin.zeroCells, Value.cells, Array.toList_map, List.mem_map] at hv
      obtain ⟨k, _, rfl⟩ := hv
      have hk : k % 7 = 0 ∨ k % 7 = 1 ∨ k % 7 = 2 ∨ k % 7 = 3 ∨ k % 7 = 4 ∨ k % 7 = 5 ∨ k % 7 = 6 := by omega
      show ((#[Value.int .i64 0, .int .i64 0, .int .i64 0, .int .i64 0, .int .i64 0, .slice none 0 0, .string ⟨#[]⟩] : Array Value)[k % 7]!).oneCell' = true
      rcases hk with e | e | e | e | e | e | e <;> rw [e] <;> rfl
    have hst := run_storeCells_at Tryz.prog g (i * 7) 45 _ 0 cur w hh (by rw [hzc, hcs]; omega) hone
    rw [hzc, Nat.add_zero] at hst
    refine ⟨w.setRow g (cur.toList.take (i * 7) ++ (Builtin.zeroCells (Value.agg #[.int .i64 0, .int .i64 0, .int .i64 0, .int .i64 0, .int .i64 0, .slice none 0 0, .string ⟨#[]⟩]).cells (len - i)).toList ++ cur.toList.drop (i * 7 + 7 * (len - i))).toArray, ?_, ?_, ?_⟩
    · generalize hzz : (Builtin.zeroCells (Value.agg #[.int .i64 0, .int .i64 0, .int .i64 0, .int .i64 0, .int .i64 0, .slice none 0 0, .string ⟨#[]⟩]).cells (len - i)).toList = zs at *
      obtain ⟨m, hm⟩ : ∃ m, len - i = m + 1 := ⟨len - i - 1, by omega⟩
      rw [hm] at hst hzz ⊢
      simp [Builtin.clear_, run_underlying Tryz.underlying147, zeroValue, typeInfo, hq, hq0, hzz, hst]
    · generalize (Builtin.zeroCells (Value.agg #[.int .i64 0, .int .i64 0, .int .i64 0, .int .i64 0, .int .i64 0, .slice none 0 0, .string ⟨#[]⟩]).cells (len - i)).toList = zs at *
      have hfl := h.flen
      have hcl : cur.toList.length = cap * 7 := by rw [Array.length_toList]; exact hcs
      refine ⟨by rw [List.length_take]; omega, by rw [frow_length, List.length_take]; omega, Or.inr ⟨g, cap, _, rfl, hg, setRow_heap _ _ _ _ _ _ hh, by omega, hcm, ?_, ?_⟩⟩
      · simp [hzc, hcs]; omega
      · rw [show ∀ l : List Value, l.toArray.toList = l from fun l => by simp, List.append_assoc, List.take_left' (by rw [List.length_take]; omega), frow_take n fs i, ← htk, List.take_take]
        rw [Nat.min_eq_left (by omega)]
    · exact ⟨by simp, fun k _ hk => setRow_other _ _ _ _ hk, rfl, rfl, rfl⟩
end Go.Proofs.YtabecbjfamphbaaGreatDoor

/- slices.DeleteFunc over the store: the walk. -/
namespace Go.Proofs.YtabecbjfamphbaaGreatDoor
open Go.RowKit Go.Stop Go.Extern

/-- The block that a slice lies in. -/
def onB (ad : Option Addr) (k : Nat) : Prop := ∃ off, ad = some ⟨k, off, none⟩
theorem Frs.le_cap {w : World} {n : Nat} {ad : Option Addr} {len cap : Nat} {fs : List Fr} (h : Frs w n ad len cap fs) : len ≤ cap := by
  rcases h.own.2 with ⟨he, h0⟩ | ⟨g, cap', cur, he, hg, hh, hnc, _⟩
  · omega
  · cases he; exact hnc
/-- What is kept. -/
def keptF (D : Fr → Bool) (fs : List Fr) : List Fr := fs.filter fun f => !D f
theorem keptF_none {D : Fr → Bool} {fs : List Fr} (h : fs.findIdx? D = none) : keptF D fs = fs := by
  unfold keptF
  rw [List.findIdx?_eq_none_iff] at h
  exact List.filter_eq_self.2 (fun f hf => by simp [h f hf])
theorem keptF_step {D : Fr → Bool} {fs : List Fr} {j : Nat} {f : Fr} (hf : fs[j]? = some f) : keptF D (fs.take (j + 1)) = if D f then keptF D (fs.take j) else keptF D (fs.take j) ++ [f] := by
  obtain ⟨hj, he⟩ := List.getElem?_eq_some_iff.1 hf
  unfold keptF
  rw [List.take_succ_eq_append_getElem hj, List.filter_append, he]
  cases h : D f <;> simp [h]
theorem keptF_first {D : Fr → Bool} {fs : List Fr} {i : Nat} (h : fs.findIdx? D = some i) : i < fs.length ∧ keptF D (fs.take (i + 1)) = fs.take i := by
  rw [List.findIdx?_eq_some_iff_getElem] at h
  obtain ⟨hi, hD, hno⟩ := h
  refine ⟨hi, ?_⟩
  rw [keptF_step (List.getElem?_eq_getElem hi), if_pos hD]
  unfold keptF
  refine List.filter_eq_self.2 (fun f hf => ?_)
  obtain ⟨j, hj⟩ := List.mem_iff_getElem?.1 hf
  rw [List.getElem?_take] at hj
  split at hj
  · rename_i hji
    rw [List.getElem?_eq_getElem (by omega)] at hj
    have := hno j hji
    rw [Option.some.inj hj] at this
    simpa using this
  · cases hj

set_option maxRecDepth 100000 in
set_option maxHeartbeats 4000000 in
theorem deleteFunc_any (n : Nat) (ad : Option Addr) (len cap : Nat) (fs : List Fr) (D : Fr → Bool) (pb : Nat) (w : World) (hr : Frs w n ad len cap fs) (hl : len ≤ 1000)
    (hD : ∀ x f, Alike w x (onB ad) → f ∈ fs → Calls Tryz.prog 193 #[Fr.agg n f, .pointer (some ⟨pb, 0, none⟩)] x fun e w' => e = .returned (.bool (D f)) ∧ Below x.heap.size x w') :
    Calls Tryz.prog 192 #[.slice ad len cap, .func (.func 193) #[] #[.pointer (some ⟨pb, 0, none⟩)]] w
      fun e w' => (∃ len', e = .returned (.slice ad len' cap) ∧ Frs w' n ad len' cap (keptF D fs)) ∧ Alike w w' (onB ad) := by
  have HR : Hid _ := hr
  have HD : Hid (∀ x f, Alike w x (onB ad) → f ∈ fs → Calls Tryz.prog 193 #[Fr.agg n f, .pointer (some ⟨pb, 0, none⟩)] x fun e w' => e = .returned (.bool (D f)) ∧ Below x.heap.size x w') := hD
  have HI : Hid _ := indexFunc_any n ad len cap fs D pb w hr hl (fun x f hx hf => hD x f (Alike.of_below hx _) hf)
  clear hr hD
  go_enter Tryz.func192, Tryz.ntmps192
  go_wp2_with fail
  refine (show Calls _ _ _ _ _ from HI.out).mono ?_
  rintro e w1 ⟨rfl, hb1⟩
  have HB1 : Hid _ := hb1
  clear hb1 HI
  cases hfi : fs.findIdx? D with
  | none =>
    simp only [idxI]
    go_wp2_with fail
    go_ret
    refine ⟨⟨len, rfl, ?_⟩, Alike.of_below HB1.out _⟩
    rw [keptF_none hfi]
    exact HR.out.low HB1.out
  | some i0 =>
    simp only [idxI]
    obtain ⟨hi0, hk0⟩ := keptF_first hfi
    have hfl := HR.out.flen
    obtain ⟨g, cur, rfl, _⟩ := HR.out.block (by omega)
    have hne : ((i0 : Int) == -1) = false := by simp
    have HR1 : Hid _ := HR.out.low HB1.out
    have hlc : len ≤ cap := HR.out.le_cap
    go_wp2_with fail
    go_loopw [5, 6] (fun c d wr => ∃ (i j : Nat) (fs' : List Fr), i < j ∧ j ≤ len ∧ c = .int .i64 i ∧ d = .int .i64 j ∧ fs'.take i = keptF D (fs.take j) ∧ fs'.drop j = fs.drop j ∧ Frs wr n (some ⟨g, 0, none⟩) len cap fs' ∧ Alike w wr (onB (some ⟨g, 0, none⟩))) (fun _ d _ => len - (intOf d).toNat)
    case atStart => exact ⟨i0, i0 + 1, fs, by omega, by omega, rfl, by go_num, hk0.symm, rfl, HR1.out, Alike.of_below HB1.out _⟩
    case round =>
      obtain ⟨i, j, fs', hij, hjl, rfl, rfl, htk, hdr, hfr, hal⟩ := hrel
      have HFr : Hid _ := hfr
      have HAl : Hid _ := hal
      have HTk : Hid _ := htk
      have HDr : Hid _ := hdr
      clear hfr hal htk hdr
      have hfl' := HFr.out.flen
      by_cases hlt : j < len
      · obtain ⟨f, hf⟩ : ∃ f, fs[j]? = some f := ⟨fs[j]'(by omega), List.getElem?_eq_getElem _⟩
        have hf' : fs'[j]? = some f := by
          have h1 : (fs'.drop j)[0]? = (fs.drop j)[0]? := by rw [HDr.out]
          rw [List.getElem?_drop, List.getElem?_drop, Nat.add_zero] at h1
          rw [h1]; exact hf
        obtain ⟨s0, s1, s2, s3, s4, s5, s6⟩ := HFr.out.seven hlt hf'
        have hji : (j : Int) < (len : Int) := by omega
        have HDc : Hid _ := HD.out (wr.alloc (.cells #[.int .i64 f.kind, .int .i64 f.frm, .int .i64 f.org, .int .i64 f.seq, .int .i64 f.low, .slice f.ad n f.cap, .string f.body] 45)) f (HAl.out.trans (Alike.alloc _ _ (fun _ => False)) (fun _ _ h => h.elim)) (List.mem_of_getElem? hf)
        have hbox := seven_alloc wr (.int .i64 f.kind) (.int .i64 f.frm) (.int .i64 f.org) (.int .i64 f.seq) (.int .i64 f.low) (.slice f.ad n f.cap) (.string f.body) 45
        go_wp2_with fail
        refine (show Calls _ _ _ _ _ from HDc.out).mono ?_
        rintro e w2 ⟨rfl, hb2⟩
        have hbx := hbox.below hb2 hbox.z
        obtain ⟨x0, x1, x2, x3, x4, x5, x6, xz⟩ := hbx
        have HF2 : Hid (Frs w2 n (some ⟨g, 0, none⟩) len cap fs') := (HFr.out.low (below1 _ _)).low hb2
        have HA2 : Hid (Alike w w2 (onB (some ⟨g, 0, none⟩))) := (HAl.out.trans (Alike.alloc _ _ (fun _ => False)) (fun _ _ h => h.elim)).trans (E' := fun _ => False) (Alike.of_below hb2 _) (fun _ _ h => h.elim)
        clear hb2 hbox s0 s1 s2 s3 s4 s5 s6
        have hstep := keptF_step (D := D) hf
        cases hDf : D f with
        | true =>
          rw [hDf, if_pos rfl] at hstep
          go_wp2_with fail
          go_roundw
          case rel => exact ⟨i, j + 1, fs', by omega, by omega, rfl, by go_num, by rw [hstep]; exact HTk.out, by rw [← List.drop_drop, ← List.drop_drop, HDr.out], HF2.out, HA2.out⟩
          case measure => simp [intOf]; omega
        | false =>
          rw [hDf, if_neg (by decide)] at hstep
          obtain ⟨s0, s1, s2, s3, s4, s5, s6⟩ := HF2.out.seven (i := i) (by omega) (f := fs'[i]'(by omega)) (List.getElem?_eq_getElem _)
          have ff := HF2.out.free
          have hii : (i : Int) < (len : Int) := by omega
          generalize fs'[i]'(by omega) = fo at *
          go_wp2_with fail
          go_roundw
          case rel =>
            refine ⟨i + 1, j + 1, fs'.set i f, by omega, by omega, by go_num, by go_num, ?_, ?_, HF2.out.put (by omega) f, HA2.out.trans (alike_set7 _ _ _ _ _ _ _ _ _ _ _ _ _ _ _ _) (fun k _ hk => ⟨0, congrArg (fun j => some (⟨j, 0, none⟩ : Addr)) (Eq.symm hk)⟩)⟩
            · rw [hstep, ← HTk.out, List.take_succ_eq_append_getElem (by rw [List.length_set]; omega), List.take_set_of_le (by omega), List.getElem_set_self]
            · rw [List.drop_set_of_lt (by omega), ← List.drop_drop, ← List.drop_drop, HDr.out]
          case measure => simp [intOf]; omega
      · have hjl' : j = len := by omega
        subst hjl'
        have hji : ¬ (j : Int) < (j : Int) := by omega
        have hic : (i : Int) ≤ (j : Int) := by omega
        have hicap : i < cap := by omega
        have hicn : ¬ i = cap := by omega
        obtain ⟨wc, hclr, hfc, hac⟩ := clear_run wr n g j cap fs' i HFr.out hij 0 (cap - i)
        have HFc : Hid _ := hfc
        have HAc : Hid _ := hac
        clear hfc hac
        go_wp2_with fail
        go_ret
        refine ⟨⟨i, rfl, ?_⟩, HAl.out.trans HAc.out (fun k _ hk => ⟨0, congrArg (fun j => some (⟨j, 0, none⟩ : Addr)) (Eq.symm hk)⟩)⟩
        have h1 : keptF D fs = fs'.take i := by rw [HTk.out, List.take_of_length_le (by omega)]
        rw [h1]
        exact HFc.out
end Go.Proofs.YtabecbjfamphbaaGreatDoor

/- The order of the store: by origins, then by numbers. -/
namespace Go.Proofs.YtabecbjfamphbaaGreatDoor
open Go.RowKit Go.Stop Go.Extern

def cmpI (a b : Int) : Int := if a < b then -1 else if b < a then 1 else 0
/-- Two words by their origins, then by their numbers. -/
def ordI (o s o' s' : Int) : Int := if cmpI o o' = 0 then cmpI s s' else cmpI o o'
set_option maxHeartbeats 1000000 in
theorem isNaN_any (a : Int) (w : World) : Calls Tryz.prog 235 #[.int .i64 a] w fun e w' => e = .returned (.bool false) ∧ w' = w := by
  have hne : ((a : Int) != a) = false := by simp
  go_enter Tryz.func235, Tryz.ntmps235
  go_wp2_with fail
  go_ret
  exact ⟨rfl, rfl⟩
set_option maxHeartbeats 1000000 in
theorem compare_any (a b : Int) (w : World) : Calls Tryz.prog 220 #[.int .i64 a, .int .i64 b] w fun e w' => e = .returned (.int .i64 (cmpI a b)) ∧ w' = w := by
  unfold cmpI
  by_cases h1 : a < b
  · rw [if_pos h1]
    go_enter Tryz.func220, Tryz.ntmps220
    go_wp2_with (go_at_call 235; refine (isNaN_any _ _).mono ?_; rintro e w' ⟨rfl, rfl⟩)
    go_ret
    exact ⟨rfl, rfl⟩
  · rw [if_neg h1]
    by_cases h2 : b < a
    · rw [if_pos h2]
      go_enter Tryz.func220, Tryz.ntmps220
      go_wp2_with (go_at_call 235; refine (isNaN_any _ _).mono ?_; rintro e w' ⟨rfl, rfl⟩)
      go_ret
      exact ⟨rfl, rfl⟩
    · rw [if_neg h2]
      go_enter Tryz.func220, Tryz.ntmps220
      go_wp2_with (go_at_call 235; refine (isNaN_any _ _).mono ?_; rintro e w' ⟨rfl, rfl⟩)
      go_ret
      exact ⟨rfl, rfl⟩
set_option maxHeartbeats 1000000 in
theorem or2_any (g : Nat) (x y : Int) (w : World) (h0 : w.cell? ⟨g, 0, none⟩ = some (.int .i64 x)) (h1 : w.cell? ⟨g, 1, none⟩ = some (.int .i64 y)) :
    Calls Tryz.prog 219 #[.slice (some ⟨g, 0, none⟩) 2 2] w fun e w' => e = .returned (.int .i64 (if x = 0 then y else x)) ∧ w' = w := by
  by_cases hx : x = 0
  · subst hx
    rw [if_pos rfl]
    by_cases hy : y = 0
    · subst hy
      go_enter Tryz.func219, Tryz.ntmps219
      go_wp2_with fail
      refine wp_loop_rounds 3 ?_
      rw [rounds_succ]
      go_wp2_with fail
      rw [rounds_succ]
      go_wp2_with fail
      rw [rounds_succ]
      go_wp2_with fail
      go_ret
      exact ⟨rfl, rfl⟩
    · go_enter Tryz.func219, Tryz.ntmps219
      go_wp2_with fail
      refine wp_loop_rounds 2 ?_
      rw [rounds_succ]
      go_wp2_with fail
      rw [rounds_succ]
      go_wp2_with fail
      go_ret
      exact ⟨rfl, rfl⟩
  · rw [if_neg hx]
    go_enter Tryz.func219, Tryz.ntmps219
    go_wp2_with fail
    refine wp_loop_rounds 1 ?_
    rw [rounds_succ]
    go_wp2_with fail
    go_ret
    exact ⟨rfl, rfl⟩

set_option maxRecDepth 100000 in
set_option maxHeartbeats 4000000 in
theorem byOrd_any (k f o s l k' f' o' s' l' : Int) (v v' : Value) (d d' : ByteArray) (w : World) :
    Calls Tryz.prog 190 #[.agg #[.int .i64 k, .int .i64 f, .int .i64 o, .int .i64 s, .int .i64 l, v, .string d], .agg #[.int .i64 k', .int .i64 f', .int .i64 o', .int .i64 s', .int .i64 l', v', .string d']] w
      fun e w' => e = .returned (.int .i64 (ordI o s o' s')) ∧ Below w.heap.size w w' := by
  go_enter Tryz.func190, Tryz.ntmps190
  have HC : Hid (∀ a b w, Calls Tryz.prog 220 #[.int .i64 a, .int .i64 b] w fun e w' => e = .returned (.int .i64 (cmpI a b)) ∧ w' = w) := fun a b w => compare_any a b w
  have hz : ((w.alloc (.cells #[.int .i64 k, .int .i64 f, .int .i64 o, .int .i64 s, .int .i64 l, v, .string d] 45)).alloc (.cells #[.int .i64 k', .int .i64 f', .int .i64 o', .int .i64 s', .int .i64 l', v', .string d'] 45)).heap.size = w.heap.size + 1 + 1 := by simp
  have hA := seven_alloc w (.int .i64 k) (.int .i64 f) (.int .i64 o) (.int .i64 s) (.int .i64 l) v (.string d) 45
  have hA' := hA.below (below1 _ (.cells #[.int .i64 k', .int .i64 f', .int .i64 o', .int .i64 s', .int .i64 l', v', .string d'] 45)) hA.z
  have hB := seven_alloc (w.alloc (.cells #[.int .i64 k, .int .i64 f, .int .i64 o, .int .i64 s, .int .i64 l, v, .string d] 45)) (.int .i64 k') (.int .i64 f') (.int .i64 o') (.int .i64 s') (.int .i64 l') v' (.string d') 45
  rw [show (w.alloc (.cells #[.int .i64 k, .int .i64 f, .int .i64 o, .int .i64 s, .int .i64 l, v, .string d] 45)).heap.size = w.heap.size + 1 by simp] at hB
  have HB0 : Hid _ := below2 w (.cells #[.int .i64 k, .int .i64 f, .int .i64 o, .int .i64 s, .int .i64 l, v, .string d] 45) (.cells #[.int .i64 k', .int .i64 f', .int .i64 o', .int .i64 s', .int .i64 l', v', .string d'] 45)
  go_wp2_with fail
  generalize (w.alloc (.cells #[.int .i64 k, .int .i64 f, .int .i64 o, .int .i64 s, .int .i64 l, v, .string d] 45)).alloc (.cells #[.int .i64 k', .int .i64 f', .int .i64 o', .int .i64 s', .int .i64 l', v', .string d'] 45) = X at *
  have HO : Hid (Calls Tryz.prog 219 #[.slice (some ⟨w.heap.size + 1 + 1, 0, none⟩) 2 2] (X.alloc (.cells #[.int .i64 (cmpI o o'), .int .i64 (cmpI s s')] 3)).drew fun e w' => e = .returned (.int .i64 (ordI o s o' s')) ∧ w' = (X.alloc (.cells #[.int .i64 (cmpI o o'), .int .i64 (cmpI s s')] 3)).drew) := by
    rw [← hz]
    have e : ∀ i, (X.alloc (.cells #[.int .i64 (cmpI o o'), .int .i64 (cmpI s s')] 3)).drew.cell? ⟨X.heap.size, i, none⟩ = #[Value.int .i64 (cmpI o o'), .int .i64 (cmpI s s')][i]? := fun i => cell_of_row _ _ i _ 3 (0, 0) (heap_alloc_new _ _)
    exact or2_any X.heap.size (cmpI o o') (cmpI s s') _ (e 0) (e 1)
  obtain ⟨_, _, a2, a3, _, _, _, az⟩ := hA'
  obtain ⟨_, _, b2, b3, _, _, _, bz⟩ := hB
  have HK : Hid (∀ x, Below X.heap.size X x → x.cell? ⟨w.heap.size, 2, none⟩ = some (.int .i64 o) ∧ x.cell? ⟨w.heap.size, 3, none⟩ = some (.int .i64 s) ∧ x.cell? ⟨w.heap.size + 1, 2, none⟩ = some (.int .i64 o') ∧ x.cell? ⟨w.heap.size + 1, 3, none⟩ = some (.int .i64 s')) := fun x hx => ⟨(hx.cell (p := ⟨w.heap.size, 2, none⟩) az).trans a2, (hx.cell (p := ⟨w.heap.size, 3, none⟩) az).trans a3, (hx.cell (p := ⟨w.heap.size + 1, 2, none⟩) bz).trans b2, (hx.cell (p := ⟨w.heap.size + 1, 3, none⟩) bz).trans b3⟩
  go_region_held3 (fun x => x.cell? ⟨w.heap.size, 2, none⟩ = some (.int .i64 o) ∧ x.cell? ⟨w.heap.size, 3, none⟩ = some (.int .i64 s) ∧ x.cell? ⟨w.heap.size + 1, 2, none⟩ = some (.int .i64 o') ∧ x.cell? ⟨w.heap.size + 1, 3, none⟩ = some (.int .i64 s'))
    (first | (exact HK.out _ (Below.refl _ _)) | (exact HK.out _ (Below.refl _ _).drew) | (exact HK.out _ (below1 _ _).drew) | (exact HK.out _ (below1 _ _)) | go_keep)
    (first
      | (go_at_call 220; refine (HC.out _ _ _).mono ?_; rintro e w' ⟨rfl, rfl⟩)
      | (go_at_call 219; refine HO.out.mono ?_; rintro e w' ⟨rfl, rfl⟩))
  all_goals
    go_wp2_with fail
    go_ret
    exact ⟨rfl, bthen HB0.out (below1 _ _).drew⟩
end Go.Proofs.YtabecbjfamphbaaGreatDoor
