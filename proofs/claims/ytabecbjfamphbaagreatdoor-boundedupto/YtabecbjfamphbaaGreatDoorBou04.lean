/-
  Texts that the proofs of this seat share, joined: Of, Od, Kx, Kw, Ra, Sa.
-/
import Derived.Test.YtabecbjfamphbaaGreatDoorB40
import Derived.Test.YtabecbjfamphbaaGreatDoorBou03
import Derived.LaidHandle
import Derived.Test.YtabecbjfamphbaaGreatDoorB37
/- What the listed variables of a law that decodes give the walks: the eight sentinels and the library's type of error. -/
namespace Go.Proofs.YtabecbjfamphbaaGreatDoor
open Go.RowKit Go.Stop Go.Extern
set_option maxRecDepth 100000

theorem slT_of {W : World} (h : laidMetH Tryz.prog Rows.boundedRow.laid W) : (∃ A, Sl W A W.heap.size) ∧ ErrT W := by
  obtain ⟨h1, h2⟩ := laidMetH_iff.1 h
  constructor
  · have e : (Rows.boundedRow.laid.filter fun x => x.2.handleName?.isNone) = Rows.causalRow.laid := by kernel_rfl
    rw [e] at h1
    obtain ⟨A, hA⟩ := sents_of h1
    exact ⟨A, hA, fun k h1 h2 => ⟨lt_of_cell (hA.c k h1 h2), by
      obtain ⟨ca, ta, e⟩ := hA.b k h1 h2
      exact lt_of_some e⟩⟩
  · have h3 := h2 ("errors.errorType", Rows.laid_errors_errorType) (by
      have e : (Rows.boundedRow.laid.filter fun x => x.2.handleName?.isSome) = [("errors.errorType", Rows.laid_errors_errorType)] := by kernel_rfl
      rw [e]
      exact List.mem_singleton.2 rfl)
    have e0 : (Rows.laid_errors_errorType : DataW Unit).funcsIn? = none := by kernel_rfl
    simp only [e0] at h3
    obtain ⟨name, u, ty, hn, hu, hlt, hrow, hv⟩ := h3
    have en : (Rows.laid_errors_errorType : DataW Unit).handleName? = some [101, 114, 114, 111, 114] := by kernel_rfl
    rw [en] at hn
    cases hn
    have eu : (Tryz.prog.cutTypes.find? (·.1 == "internal/reflectlite.rtype")).map (·.2) = some 252 := by kernel_rfl
    rw [eu] at hu
    cases hu
    have hall : ((List.range Tryz.prog.types.size).all fun t => !Tryz.prog.rowNamed t [101, 114, 114, 111, 114] || t == 98) = true := by kernel_rfl
    have hty : ty = 98 := by
      have := List.all_eq_true.1 hall ty (List.mem_range.2 hlt)
      rw [hrow] at this
      simpa using this
    subst hty
    have hc := var_cell (g := 8) (by kernel_rfl) hv
    have e : typeHandle Tryz.prog 98 = .pointer (some ⟨9, 98, none⟩) := by kernel_rfl
    rw [e] at hc
    exact hc
end Go.Proofs.YtabecbjfamphbaaGreatDoor

/- A script that was handed in, opened: its steps' frames too. -/
namespace Go.Proofs.YtabecbjfamphbaaGreatDoor
open Go.RowKit Go.Stop Go.Extern Go.ChangeShapes Go.WideShapes Go.ChangeAt Go.WideMaps Go.WideElems Go.Deep
set_option maxRecDepth 100000

/-- A step's frame. -/
structure Stp.FOk (w : World) (o : Stp) : Prop where
  f0 : I64 o.f0
  f1 : I64 o.f1
  f2 : I64 o.f2
  f3 : I64 o.f3
  f4 : I64 o.f4
  vec : ∃ vs, Ints w o.fa o.fl vs ∧ ∀ v ∈ vs, I64 v
  s : o.s.size ≤ maxLen
  b : o.fb.size ≤ maxLen
theorem Stp.FOk.below {w y : World} {o : Stp} (h : o.FOk w) (hb : Below w.heap.size w y) : o.FOk y := ⟨h.f0, h.f1, h.f2, h.f3, h.f4, by
  obtain ⟨vs, h1, h2⟩ := h.vec
  exact ⟨vs, h1.below hb, h2⟩, h.s, h.b⟩
section
variable {H : Type} {enc : TypeId × Value → H} {w : World}
theorem stepF_of {n : Nat} {cs : List Value} {x : DataW H × List MemPlace} (h : DataW.trod enc Tryz.prog w 0 (fun _ => true) true n 47 cs = some x) :
    ∃ o : Stp, o.Ok ∧ o.FOk w ∧ cs = [.int .i64 o.K, .int .i64 o.a, .int .i64 o.b, .int .i64 o.v, .string o.s, .int .i64 o.f0, .int .i64 o.f1, .int .i64 o.f2, .int .i64 o.f3, .int .i64 o.f4, .slice o.fa o.fl o.fc, .string o.fb] := by
  obtain ⟨xs, m, _, _, hcl, hxl, hf⟩ := DataW.trod_struct Tryz.underlying47 h
  rw [Tryz.stepCells] at hcl
  match cs, hcl with
  | [c0, c1, c2, c3, c4, c5, c6, c7, c8, c9, c10, c11], _ =>
    have h0 : DataW.trod enc Tryz.prog w 0 (fun _ => true) true m 3 (([c0, c1, c2, c3, c4, c5, c6, c7, c8, c9, c10, c11].drop 0).take (Tryz.prog.cellsOf 3)) = xs[0]? := hf 0 _ rfl
    have h1 : DataW.trod enc Tryz.prog w 0 (fun _ => true) true m 3 (([c0, c1, c2, c3, c4, c5, c6, c7, c8, c9, c10, c11].drop 1).take (Tryz.prog.cellsOf 3)) = xs[1]? := hf 1 _ rfl
    have h2 : DataW.trod enc Tryz.prog w 0 (fun _ => true) true m 3 (([c0, c1, c2, c3, c4, c5, c6, c7, c8, c9, c10, c11].drop 2).take (Tryz.prog.cellsOf 3)) = xs[2]? := hf 2 _ rfl
    have h3 : DataW.trod enc Tryz.prog w 0 (fun _ => true) true m 3 (([c0, c1, c2, c3, c4, c5, c6, c7, c8, c9, c10, c11].drop 3).take (Tryz.prog.cellsOf 3)) = xs[3]? := hf 3 _ rfl
    have h4 : DataW.trod enc Tryz.prog w 0 (fun _ => true) true m 9 (([c0, c1, c2, c3, c4, c5, c6, c7, c8, c9, c10, c11].drop 4).take (Tryz.prog.cellsOf 9)) = xs[4]? := hf 4 _ rfl
    have h5 : DataW.trod enc Tryz.prog w 0 (fun _ => true) true m 45 (([c0, c1, c2, c3, c4, c5, c6, c7, c8, c9, c10, c11].drop 5).take (Tryz.prog.cellsOf 45)) = xs[5]? := hf 5 _ rfl
    have hxl' : xs.length = 6 := hxl
    obtain ⟨x0, e0⟩ := some_at hxl' (i := 0) (by omega)
    obtain ⟨x1, e1⟩ := some_at hxl' (i := 1) (by omega)
    obtain ⟨x2, e2⟩ := some_at hxl' (i := 2) (by omega)
    obtain ⟨x3, e3⟩ := some_at hxl' (i := 3) (by omega)
    obtain ⟨x4, e4⟩ := some_at hxl' (i := 4) (by omega)
    obtain ⟨x5, e5⟩ := some_at hxl' (i := 5) (by omega)
    rw [e0] at h0
    rw [e1] at h1
    rw [e2] at h2
    rw [e3] at h3
    rw [e4] at h4
    rw [e5] at h5
    rw [Tryz.intCells] at h0 h1 h2 h3
    rw [Tryz.strCells] at h4
    rw [Tryz.frameCells] at h5
    obtain ⟨K, r0, _, z0⟩ := DataW.trod_int Tryz.underlying3 h0
    obtain ⟨a, r1, _, z1⟩ := DataW.trod_int Tryz.underlying3 h1
    obtain ⟨b, r2, _, z2⟩ := DataW.trod_int Tryz.underlying3 h2
    obtain ⟨v, r3, _, z3⟩ := DataW.trod_int Tryz.underlying3 h3
    obtain ⟨s, r4, _, hsz⟩ := DataW.trod_string Tryz.underlying9 h4
    obtain ⟨ys, m', _, _, _, hyl, hg⟩ := DataW.trod_struct Tryz.underlying45 h5
    have g0 : DataW.trod enc Tryz.prog w 0 (fun _ => true) true m' 3 (([c5, c6, c7, c8, c9, c10, c11].drop 0).take (Tryz.prog.cellsOf 3)) = ys[0]? := hg 0 _ rfl
    have g1 : DataW.trod enc Tryz.prog w 0 (fun _ => true) true m' 3 (([c5, c6, c7, c8, c9, c10, c11].drop 1).take (Tryz.prog.cellsOf 3)) = ys[1]? := hg 1 _ rfl
    have g2 : DataW.trod enc Tryz.prog w 0 (fun _ => true) true m' 3 (([c5, c6, c7, c8, c9, c10, c11].drop 2).take (Tryz.prog.cellsOf 3)) = ys[2]? := hg 2 _ rfl
    have g3 : DataW.trod enc Tryz.prog w 0 (fun _ => true) true m' 3 (([c5, c6, c7, c8, c9, c10, c11].drop 3).take (Tryz.prog.cellsOf 3)) = ys[3]? := hg 3 _ rfl
    have g4 : DataW.trod enc Tryz.prog w 0 (fun _ => true) true m' 3 (([c5, c6, c7, c8, c9, c10, c11].drop 4).take (Tryz.prog.cellsOf 3)) = ys[4]? := hg 4 _ rfl
    have g5 : DataW.trod enc Tryz.prog w 0 (fun _ => true) true m' 34 (([c5, c6, c7, c8, c9, c10, c11].drop 5).take (Tryz.prog.cellsOf 34)) = ys[5]? := hg 5 _ rfl
    have g6 : DataW.trod enc Tryz.prog w 0 (fun _ => true) true m' 9 (([c5, c6, c7, c8, c9, c10, c11].drop 6).take (Tryz.prog.cellsOf 9)) = ys[6]? := hg 6 _ rfl
    have hyl' : ys.length = 7 := hyl
    obtain ⟨y0, k0⟩ := some_at hyl' (i := 0) (by omega)
    obtain ⟨y1, k1⟩ := some_at hyl' (i := 1) (by omega)
    obtain ⟨y2, k2⟩ := some_at hyl' (i := 2) (by omega)
    obtain ⟨y3, k3⟩ := some_at hyl' (i := 3) (by omega)
    obtain ⟨y4, k4⟩ := some_at hyl' (i := 4) (by omega)
    obtain ⟨y5, k5⟩ := some_at hyl' (i := 5) (by omega)
    obtain ⟨y6, k6⟩ := some_at hyl' (i := 6) (by omega)
    rw [k0] at g0
    rw [k1] at g1
    rw [k2] at g2
    rw [k3] at g3
    rw [k4] at g4
    rw [k5] at g5
    rw [k6] at g6
    rw [Tryz.intCells] at g0 g1 g2 g3 g4
    rw [Tryz.intsCells] at g5
    rw [Tryz.strCells] at g6
    obtain ⟨f0, s0, _, w0⟩ := DataW.trod_int Tryz.underlying3 g0
    obtain ⟨f1, s1, _, w1⟩ := DataW.trod_int Tryz.underlying3 g1
    obtain ⟨f2, s2, _, w2⟩ := DataW.trod_int Tryz.underlying3 g2
    obtain ⟨f3, s3, _, w3⟩ := DataW.trod_int Tryz.underlying3 g3
    obtain ⟨f4, s4, _, w4⟩ := DataW.trod_int Tryz.underlying3 g4
    obtain ⟨fb, s6, _, hbz⟩ := DataW.trod_string Tryz.underlying9 g6
    obtain ⟨fa, fl, fc, fvs, rfl, hfv, hfi⟩ := ints_in (v := c10) g5
    simp at r0 r1 r2 r3 r4 s0 s1 s2 s3 s4 s6
    subst r0 r1 r2 r3 r4 s0 s1 s2 s3 s4 s6
    exact ⟨⟨K, a, b, v, s, f0, f1, f2, f3, f4, fa, fl, fc, fb⟩, ⟨i64_wf z0, i64_wf z1, i64_wf z2, i64_wf z3⟩, ⟨i64_wf w0, i64_wf w1, i64_wf w2, i64_wf w3, i64_wf w4, ⟨fvs, hfv, hfi⟩, hsz, hbz⟩, rfl⟩
theorem scrF_of {fuel : Nat} {cs : List Value} {x : DataW H × List MemPlace} (h : DataW.trod enc Tryz.prog w 0 (fun _ => true) true fuel 27 cs = some x) :
    ∃ (ad : Option Addr) (cap : Nat) (ops : List Stp), cs = [.slice ad ops.length cap] ∧ Scr w w.heap.size ad ops ∧ ∀ o ∈ ops, o.FOk w := by
  rcases open_slice Tryz.underlying27 h with ⟨rfl, _⟩ | ⟨a, len, cap, m, n, D, Pl, rfl, _, hl, _, hm, _, hx⟩
  · exact ⟨none, 0, [], rfl, ⟨fun o ho => (by cases ho), fun i o hi => (by simp at hi)⟩, fun o ho => (by cases ho)⟩
  · have hlm : len ≤ m := by
      rw [hm]
      split <;> omega
    have hs : ∀ i, i < len → ∃ o : Stp, (o.Ok ∧ o.FOk w) ∧ ∃ cs', cs' = [.int .i64 o.K, .int .i64 o.a, .int .i64 o.b, .int .i64 o.v, .string o.s, .int .i64 o.f0, .int .i64 o.f1, .int .i64 o.f2, .int .i64 o.f3, .int .i64 o.f4, .slice o.fa o.fl o.fc, .string o.fb] ∧ ∀ j, j < 12 → w.cell? ((a.add (i * 12)).add j) = cs'[j]? := fun i hi => by
      obtain ⟨cs', hc, ht⟩ := hx i (by omega)
      obtain ⟨o, ho, hfo, hcs⟩ := stepF_of ht
      rw [Tryz.stepCells] at hc
      exact ⟨o, ⟨ho, hfo⟩, cs', hcs, (World.cells?_some hc).2.2⟩
    obtain ⟨f, hf⟩ := choose_lt hs
    have hlen : ((List.range len).map f).length = len := by simp
    refine ⟨some a, cap, (List.range len).map f, by rw [hlen], ⟨fun o ho => ?_, fun i o hi => ?_⟩, fun o ho => ?_⟩
    · obtain ⟨i, hi, rfl⟩ := List.mem_map.1 ho
      exact (hf i (List.mem_range.1 hi)).1.1
    · have hil : i < len := by
        have := (List.getElem?_eq_some_iff.1 hi).1
        simpa using this
      have ho : o = f i := by
        rw [List.getElem?_map, List.getElem?_range hil] at hi
        simpa using hi.symm
      subst ho
      obtain ⟨_, cs', hcs, hcell⟩ := hf i hil
      subst hcs
      obtain ⟨b, off, spot⟩ := a
      have hspot : spot = none := by
        obtain ⟨_, cs0, hcs0, hcell0⟩ := hf 0 (by omega)
        subst hcs0
        simpa [Addr.add] using World.cell?_spot (hcell0 0 (by omega))
      subst hspot
      have hc : ∀ j, j < 12 → w.cell? ⟨b, off + i * 12 + j, none⟩ = ([.int .i64 (f i).K, .int .i64 (f i).a, .int .i64 (f i).b, .int .i64 (f i).v, .string (f i).s, .int .i64 (f i).f0, .int .i64 (f i).f1, .int .i64 (f i).f2, .int .i64 (f i).f3, .int .i64 (f i).f4, .slice (f i).fa (f i).fl (f i).fc, .string (f i).fb] : List Value)[j]? := fun j hj => by
        have := hcell j hj
        rw [Go.WideShapes.add_plain, Go.WideShapes.add_plain] at this
        exact this
      refine ⟨b, off, rfl, lt_of_cell (hc 0 (by omega)), hc 0 (by omega), hc 1 (by omega), hc 2 (by omega), hc 3 (by omega), hc 4 (by omega), hc 5 (by omega), hc 6 (by omega), hc 7 (by omega), hc 8 (by omega), hc 9 (by omega), hc 10 (by omega), hc 11 (by omega)⟩
    · obtain ⟨i, hi, rfl⟩ := List.mem_map.1 ho
      exact (hf i (List.mem_range.1 hi)).1.2
end
/-- A script that was handed in, its frames too. -/
theorem scriptF_of {H : Type} {enc : TypeId × Value → H} {W : World} {v : Value} {d : DataW H} {p : List MemPlace} {r : Reach} {b0 : Nat} (hv : Value.okWide Tryz.prog W r b0 27 v) (h : DataW.Trod enc Tryz.prog W 0 (fun _ => true) true 27 v d p) :
    ∃ (ad : Option Addr) (cap : Nat) (ops : List Stp), v = .slice ad ops.length cap ∧ Scr W W.heap.size ad ops ∧ (∀ o ∈ ops, o.FOk W) ∧ 7 * ops.length ≤ Rows.uptoBulk d := by
  obtain ⟨ad0, cap0, ops0, e0, _, hb⟩ := script_of hv h
  subst e0
  obtain ⟨fuel, hf⟩ := h
  obtain ⟨ad', cap', ops, hc, hs, hF⟩ := scrF_of hf
  have hc' : [Value.slice ad0 ops0.length cap0] = [.slice ad' ops.length cap'] := hc
  simp at hc'
  obtain ⟨rfl, e, rfl⟩ := hc'
  rw [e] at hb ⊢
  exact ⟨ad0, cap0, ops, rfl, hs, hF, hb⟩
end Go.Proofs.YtabecbjfamphbaaGreatDoor

/- hearsaykeep: stands. -/
namespace Go.Proofs.YtabecbjfamphbaaGreatDoor
open Go.RowKit Go.Stop Go.Extern

set_option maxRecDepth 100000 in
set_option maxHeartbeats 1000000 in
theorem stands_any (base : Nat) (ad : Option Addr) (cap : Nat) (ws : List Wd) (o q : Int) (b : ByteArray) (pa : Option Addr) (pl pc : Nat) (hl : ws.length ≤ 1000000) (w : World) (h : Wrd w base (.slice ad ws.length cap) ws) :
    Calls Tryz.prog 47 #[.slice ad ws.length cap, .agg #[.int .i64 o, .int .i64 q, .string b, .slice pa pl pc]] w fun e w' => (∃ r, e = .returned (.bool r) ∧ (r = true ↔ (⟨o, q, b⟩ : Wd) ∈ ws)) ∧ Below w.heap.size w w' := by
  have HH : Hid _ := h
  clear h
  go_enter Tryz.func47, Tryz.ntmps47
  go_wp2_with fail
  have HX : Hid _ := below1 w (.cells #[.int .i64 o, .int .i64 q, .string b, .slice pa pl pc] 93)
  have HBx : Hid (w.heap.size < (w.alloc (.cells #[.int .i64 o, .int .i64 q, .string b, .slice pa pl pc] 93)).heap.size ∧ (w.alloc (.cells #[.int .i64 o, .int .i64 q, .string b, .slice pa pl pc] 93)).cell? ⟨w.heap.size, 0, none⟩ = some (.int .i64 o) ∧ (w.alloc (.cells #[.int .i64 o, .int .i64 q, .string b, .slice pa pl pc] 93)).cell? ⟨w.heap.size, 1, none⟩ = some (.int .i64 q) ∧ (w.alloc (.cells #[.int .i64 o, .int .i64 q, .string b, .slice pa pl pc] 93)).cell? ⟨w.heap.size, 2, none⟩ = some (.string b)) := by
    have e : ∀ i, (w.alloc (.cells #[.int .i64 o, .int .i64 q, .string b, .slice pa pl pc] 93)).cell? ⟨w.heap.size, i, none⟩ = #[Value.int .i64 o, .int .i64 q, .string b, .slice pa pl pc][i]? := fun i => cell_of_row _ _ i _ _ (0, 0) (heap_alloc_new _ _)
    exact ⟨by simp, e 0, e 1, e 2⟩
  generalize w.alloc (.cells #[.int .i64 o, .int .i64 q, .string b, .slice pa pl pc] 93) = X at *
  go_loopw [5] (fun c wr => ∃ k : Nat, k ≤ ws.length ∧ c = .int .i64 k ∧ (⟨o, q, b⟩ : Wd) ∉ ws.take k ∧ Below X.heap.size X wr) (fun c _ => ws.length - (intOf c).toNat)
  case atStart => exact ⟨0, Nat.zero_le _, rfl, by simp, Below.refl _ _⟩
  case round =>
    obtain ⟨k, hkn, rfl, hno, hb⟩ := hrel
    have HNo : Hid _ := hno
    have HB : Hid (Below X.heap.size X wr) := hb
    have HBw : Hid (Below w.heap.size w wr) := bthen HX.out hb
    have d0 := (hb.cell (p := ⟨w.heap.size, 0, none⟩) HBx.out.1).trans HBx.out.2.1
    have d1 := (hb.cell (p := ⟨w.heap.size, 1, none⟩) HBx.out.1).trans HBx.out.2.2.1
    have d2 := (hb.cell (p := ⟨w.heap.size, 2, none⟩) HBx.out.1).trans HBx.out.2.2.2
    clear hno hb
    by_cases hlt : k < ws.length
    · have hki : (k : Int) < (ws.length : Int) := by omega
      obtain ⟨t, ht⟩ : ∃ t, ws[k]? = some t := ⟨ws[k], List.getElem?_eq_getElem _⟩
      obtain ⟨gb, rfl, _, t0, t1, t2⟩ := HH.out.get ht
      have t0' := (HBw.out.cell (p := ⟨gb, k * 3, none⟩) (lt_of_cell t0)).trans t0
      have t1' := (HBw.out.cell (p := ⟨gb, k * 3 + 1, none⟩) (lt_of_cell t0)).trans t1
      have t2' := (HBw.out.cell (p := ⟨gb, k * 3 + 2, none⟩) (lt_of_cell t0)).trans t2
      have HT : Hid _ := ht
      have HTk : Hid (ws.take (k + 1) = ws.take k ++ [t]) := by
        show _ = _
        rw [List.take_add_one, ht]
        rfl
      clear ht t0 t1 t2
      by_cases heq : t = ⟨o, q, b⟩
      · subst heq
        have HM : Hid ((⟨o, q, b⟩ : Wd) ∈ ws) := List.mem_of_getElem? HT.out
        simp only at t0' t1' t2'
        go_wp2_with fail
        go_quiet (fail)
        go_wp2_with fail
        go_ret
        exact ⟨⟨true, rfl, fun _ => HM.out, fun _ => rfl⟩, by first | exact HBw.out | exact HBw.out.drew | exact below_drewN HBw.out _⟩
      · have HN : Hid ((⟨o, q, b⟩ : Wd) ∉ ws.take (k + 1)) := by
          show ¬ _
          rw [HTk.out, List.mem_append, List.mem_singleton]
          rintro (h | h)
          · exact HNo.out h
          · exact heq h.symm
        obtain ⟨to, tq, tb⟩ := t
        simp only at t0' t1' t2'
        clear HT HTk
        by_cases h1 : to = o
        · subst h1
          by_cases h2 : tq = q
          · subst h2
            have h3 : ¬ tb.toList = b.toList := fun e => heq (by
              rw [ByteArray.toList_eq, ByteArray.toList_eq] at e
              have e2 := Array.toList_inj.1 e
              cases tb
              cases b
              simp only at e2
              rw [e2])
            have h4 : (tb.toList == b.toList) = false := by simp [h3]
            clear heq
            go_wp2_with fail
            go_quiet (fail)
            go_wp2_with fail
            go_roundw
            case rel => exact ⟨k + 1, by omega, by go_num, HN.out, by first | exact HB.out | exact HB.out.drew | exact below_drewN HB.out _⟩
            case measure => simp [intOf]; omega
          · clear heq
            go_wp2_with fail
            go_quiet (fail)
            go_wp2_with fail
            go_roundw
            case rel => exact ⟨k + 1, by omega, by go_num, HN.out, by first | exact HB.out | exact HB.out.drew | exact below_drewN HB.out _⟩
            case measure => simp [intOf]; omega
        · clear heq
          go_wp2_with fail
          go_quiet (fail)
          go_wp2_with fail
          go_roundw
          case rel => exact ⟨k + 1, by omega, by go_num, HN.out, by first | exact HB.out | exact HB.out.drew | exact below_drewN HB.out _⟩
          case measure => simp [intOf]; omega
    · have hkn' : k = ws.length := by omega
      subst hkn'
      have HN : Hid ((⟨o, q, b⟩ : Wd) ∉ ws) := by
        have h1 := HNo.out
        show ¬ _
        intro hc
        rw [List.take_length] at h1
        exact h1 hc
      go_wp2_with fail
      go_ret
      exact ⟨⟨false, rfl, fun h => (by cases h), fun h => absurd h HN.out⟩, HBw.out⟩
end Go.Proofs.YtabecbjfamphbaaGreatDoor

/- hearsaykeep: empty, agreed. -/
namespace Go.Proofs.YtabecbjfamphbaaGreatDoor
open Go.RowKit Go.Stop Go.Extern

theorem store_net {g : Gr} {x : MNet} {p : Nat} (hp : p < g.n) : x.storeR g p = ⟨(x.nd p).kept, 0⟩ := by
  unfold MNet.storeR
  rw [if_pos (show isNode g.n p = true from decide_eq_true ⟨by omega, by omega⟩)]
  rfl
theorem heard_net {g : Gr} {x : MNet} {p : Nat} (hp : p < g.n) : x.heardR g p = ⟨(x.nd p).hs, 0⟩ := by
  unfold MNet.heardR
  rw [if_pos (show isNode g.n p = true from decide_eq_true ⟨by omega, by omega⟩)]
  rfl
set_option maxRecDepth 100000 in
set_option maxHeartbeats 1000000 in
theorem empty_any (A : Nat → Addr) (base z rb : Nat) (g : Gr) (x : MNet) (sd : List Sd) (sn : List Sn) (hg : g.Ok) (hx : x.Ok g) (hk : ∀ p, p < g.n → (x.nd p).kept = []) (w : World) (hw : Sl w A base) (h : CircZ z w rb g x sd sn) :
    Calls Tryz.prog 19 #[.pointer (some ⟨rb, 0, none⟩)] w fun e w' => e = .returned (.bool true) ∧ Below w.heap.size w w' := by
  have hn8 := hg.n.2
  obtain ⟨C, hC, _⟩ := h.how
  have HC : Hid (Circ w rb g x sd sn C) := hC
  have HSt : Hid (∀ y p, p < g.n → Below w.heap.size w y → Calls Tryz.prog 31 #[.pointer (some ⟨C.fb, 0, none⟩), .int .i64 ((p : Nat) : Int)] y fun e w' => (∃ v, e = .returned (.tuple #[v, .int .i64 0]) ∧ Wrd w' y.heap.size v []) ∧ Below y.heap.size y w') := fun y p hp hy => by
    have h1 := netStore A base C.fb g x C.Fx p hg hx y (hw.low hy) (hC.net.low hy)
    rw [store_net hp, hk p hp] at h1
    exact h1
  clear hw hx h hC hk
  go_enter Tryz.func19, Tryz.ntmps19
  go_wp2_with fail
  go_loopw [3] (fun c wr => ∃ k : Nat, k ≤ g.n ∧ c = .int .i64 k ∧ Below w.heap.size w wr) (fun c _ => g.n - (intOf c).toNat)
  case atStart => exact ⟨0, Nat.zero_le _, rfl, Below.refl _ _⟩
  case round =>
    obtain ⟨k, hkn, rfl, hb⟩ := hrel
    have HB : Hid (Below w.heap.size w wr) := hb
    have c0 := (HC.out.low hb).c0
    have c4 := (HC.out.low hb).c4
    clear hb
    by_cases hlt : k < g.n
    · have hki : (k : Int) < (g.n : Int) := by omega
      go_wp2_with fail
      refine (show Calls _ _ _ _ _ from HSt.out wr k hlt HB.out).mono ?_
      rintro e w1 ⟨⟨v, rfl, hv⟩, hb1⟩
      obtain ⟨av, cv, hsh⟩ := rowShaped hv.own
      subst hsh
      have HB1 : Hid (Below w.heap.size w w1) := bthen HB.out hb1
      clear hv hb1
      go_wp2_with fail
      go_roundw
      case rel => exact ⟨k + 1, by omega, by go_num, HB1.out⟩
      case measure => simp [intOf]; omega
    · have hkn' : k = g.n := by omega
      subst hkn'
      go_wp2_with fail
      go_ret
      exact ⟨rfl, HB.out⟩
set_option maxRecDepth 100000 in
set_option maxHeartbeats 1000000 in
theorem agreed_any (A : Nat → Addr) (base z rb : Nat) (g : Gr) (x : MNet) (sd : List Sd) (sn : List Sn) (hg : g.Ok) (hx : x.Ok g) (hln : sd.length ≤ 10000000) (hsn : Seen x sn) (hok : ∀ p, p < g.n → CausedOk g.n sd (x.nd p).hs) (hall : ∀ p, p < g.n → (x.nd p).hs.length = sd.length) (w : World) (hw : Sl w A base) (hz : base ≤ z) (h : CircZ z w rb g x sd sn) :
    Calls Tryz.prog 18 #[.pointer (some ⟨rb, 0, none⟩)] w fun e w' => e = .returned (.bool true) ∧ (∃ sn', CircZ z w' rb g x sd sn' ∧ Seen x sn') ∧ Below z w w' := by
  have hn8 := hg.n.2
  have HCz : Hid _ := h
  have HLk : Hid (∀ y, Below w.heap.size w y → Calls Tryz.prog 16 #[.pointer (some ⟨rb, 0, none⟩)] y fun e w' => e = .returned (.bool true) ∧ (∃ sn', CircZ z w' rb g x sd sn' ∧ Seen x sn') ∧ Below z y w') := fun y hy => looked_any A base z rb g x sd sn hg hx hln hsn hok y (hw.low hy) hz (h.low hy)
  obtain ⟨C, hC, _⟩ := h.how
  have HC : Hid (Circ w rb g x sd sn C) := hC
  have HSt : Hid (∀ y p, p < g.n → Below w.heap.size w y → Calls Tryz.prog 29 #[.pointer (some ⟨C.fb, 0, none⟩), .int .i64 ((p : Nat) : Int)] y fun e w' => (∃ v, e = .returned (.tuple #[v, .int .i64 0]) ∧ Wrd w' y.heap.size v (x.nd p).hs) ∧ Below y.heap.size y w') := fun y p hp hy => by
    have h1 := netHeard A base C.fb g x C.Fx p hg hx y (hw.low hy) (hC.net.low hy)
    rw [heard_net hp] at h1
    exact h1
  have HAll : Hid _ := hall
  clear hw hx h hC hall hsn hok
  go_enter Tryz.func18, Tryz.ntmps18
  go_wp2_with fail
  go_loopw [3] (fun c wr => ∃ k : Nat, k ≤ g.n ∧ c = .int .i64 k ∧ Below w.heap.size w wr) (fun c _ => g.n - (intOf c).toNat)
  case atStart => exact ⟨0, Nat.zero_le _, rfl, Below.refl _ _⟩
  case round =>
    obtain ⟨k, hkn, rfl, hb⟩ := hrel
    have HB : Hid (Below w.heap.size w wr) := hb
    have c0 := (HC.out.low hb).c0
    have c4 := (HC.out.low hb).c4
    clear hb
    by_cases hlt : k < g.n
    · have hki : (k : Int) < (g.n : Int) := by omega
      go_wp2_with fail
      refine (show Calls _ _ _ _ _ from HSt.out wr k hlt HB.out).mono ?_
      rintro e w1 ⟨⟨v, rfl, hv⟩, hb1⟩
      obtain ⟨av, cv, hsh⟩ := rowShaped hv.own
      subst hsh
      have HB1 : Hid (Below w.heap.size w w1) := bthen HB.out hb1
      have c5 := (HC.out.low HB1.out).c5
      rw [HAll.out k hlt]
      clear hv hb1
      go_wp2_with fail
      go_roundw
      case rel => exact ⟨k + 1, by omega, by go_num, HB1.out⟩
      case measure => simp [intOf]; omega
    · have hkn' : k = g.n := by omega
      subst hkn'
      go_wp2_with fail
      refine (show Calls _ _ _ _ _ from HLk.out wr HB.out).mono ?_
      rintro e w1 ⟨rfl, hs1, hb1⟩
      have HS1 : Hid _ := hs1
      have HB1 : Hid (Below z w w1) := (HB.out.mono HCz.out.le).trans hb1
      clear hs1 hb1
      go_wp2_with fail
      go_ret
      exact ⟨rfl, HS1.out, HB1.out⟩
end Go.Proofs.YtabecbjfamphbaaGreatDoor

/- What a round makes of a circle, as plain data. -/
namespace Go.Proofs.YtabecbjfamphbaaGreatDoor
open Go.RowKit Go.Stop Go.Extern

section
variable {g : Gr} {x : MNet} {sd : List Sd} {sn : List Sn} {bag : List (Nat × Msg)} {said : List Fm} {m : Nat}
theorem Run.ok2 (h : Run g x sd sn bag said m) (hg : g.Ok) (hm : m ≤ 190000000) : x.Ok g := ⟨h.net.inv.ok, fun t ht => ⟨(h.text hg t ht).1, (h.text hg t ht).2.1⟩, fun p hp => ⟨(h.ref p hp).1, by have := (h.ref p hp).2; omega⟩, by
  have := h.few
  rw [h.enc, List.length_map]
  omega⟩
/-- A circle amid a round that began with the nodes nd0. -/
structure Rnd (g : Gr) (nd0 : Nat → NS) (x : MNet) (sd : List Sd) (sn : List Sn) (bag : List (Nat × Msg)) (said : List Fm) (m : Nat) : Prop where
  run : Run g x sd sn bag said m
  p1 : Pend1 g x.nd bag said
  p2 : Pend2 g x.nd bag (clk nd0)
  up : ∀ r o, r < g.n → o < g.n → clk nd0 r o ≤ clk x.nd r o
noncomputable def potR (g : Gr) (x : MNet) (bag : List (Nat × Msg)) (said : List Fm) : Nat := bag.length + g.n * lacks g x.nd said
theorem deliver_nd2 (g : Gr) (x : MNet) (k to : Nat) (y : Msg) : (x.deliver g k (encP g (to, y))).nd = upd x.nd to ((x.nd to).hear g to (y.text g)).s := by
  unfold MNet.deliver
  show MNet.nd (let r := (x.nd ((to : Int).toNat)).hear g ((to : Int).toNat) (y.text g); let z : MNet := { x.put ((to : Int).toNat) r.s with bag := x.bag.eraseIdx k ++ r.ps }; if r.k = 0 then z else z.refuse ((to : Int).toNat)) = _
  rw [Int.toNat_natCast]
  simp only
  split <;> rfl
theorem Rnd.begin (h : Run g x sd sn bag said m) (hb : ∀ p, p < g.n → ∀ y ∈ tickM g p (x.nd p), y ∈ bag) : Rnd g x.nd x sd sn bag said m := by
  obtain ⟨h1, h2⟩ := tick_pend h.net.inv hb
  exact ⟨h, h1, h2, fun _ _ _ _ => Int.le_refl _⟩
theorem Rnd.deliver {nd0 : Nat → NS} (h : Rnd g nd0 x sd sn bag said m) (hg : g.Ok) {k to : Nat} {y : Msg} (hk : bag[k]? = some (to, y)) :
    (((x.nd to).hear g to (y.text g)).k = 0 ∨ ((x.nd to).hear g to (y.text g)).k = 7) ∧ ∃ bag', Rnd g nd0 (x.deliver g k (encP g (to, y))) sd sn bag' said (m + 1) ∧ potR g (x.deliver g k (encP g (to, y))) bag' said + 1 ≤ potR g x bag said := by
  obtain ⟨h1, h2⟩ := h.run.deliver hg hk
  refine ⟨h1, bag.eraseIdx k ++ ((x.nd to).hearM g to y).2.1, ?_⟩
  have hgd := h.run.net.good _ (List.mem_of_getElem? hk)
  have hms := GoodP.msg h.run.net.inv hgd
  have hh := hear_text hg (p := to) (s := x.nd to) hms
  obtain ⟨hs, _⟩ := h.run.net.deliver hk
  have hnd : (x.deliver g k (encP g (to, y))).nd = upd x.nd to ((x.nd to).hearM g to y).2.2 := by rw [deliver_nd2, hh]
  have hpot := hs.pot hgd.to
  have hkl := (List.getElem?_eq_some_iff.1 hk).1
  refine ⟨⟨h2, ?_, ?_, ?_⟩, ?_⟩
  · rw [hnd]
    exact h.p1.step hk hs
  · rw [hnd]
    exact h.p2.step hk hs
  · rw [hnd]
    exact fun r o hr ho => Int.le_trans (h.up r o hr ho) (hs.clk r o hr ho)
  · unfold potR
    rw [hnd, List.length_append, List.length_eraseIdx, if_pos hkl]
    omega
end
theorem countP_one {l : List Fm} (hd : l.Pairwise (fun a b => ¬ SameK a b)) {f : Fm} (hf : f ∈ l) {p p' : Fm → Bool} (h0 : p f = false) (h1 : p' f = true) (hne : ∀ a ∈ l, ¬ SameK a f → p' a = p a) : l.countP p' = l.countP p + 1 := by
  induction l with
  | nil => cases hf
  | cons a l ih =>
    obtain ⟨ha, hl⟩ := List.pairwise_cons.1 hd
    rcases List.mem_cons.1 hf with e | e
    · subst e
      have hc : l.countP p' = l.countP p := List.countP_congr fun b hb => by
        rw [hne b (List.mem_cons_of_mem _ hb) (fun hs => ha b hb ⟨hs.1.symm, hs.2.symm⟩)]
      rw [List.countP_cons_of_pos h1, List.countP_cons_of_neg (by simp [h0]), hc]
    · have hi := ih hl e (fun b hb => hne b (List.mem_cons_of_mem _ hb))
      have hpa := hne a List.mem_cons_self (ha f e)
      rw [List.countP_cons, List.countP_cons, hpa, hi]
      omega
theorem HV.count {g : Gr} {said : List Fm} {hs : List Wd} (h : HV g said hs) (hok : ∀ f ∈ said, f.Ok g) (hd : said.Pairwise (fun a b => ¬ SameK a b)) : hs.length = said.countP (fun f => decide (f.seq ≤ (cntW hs f.org.toNat : Int))) := by
  induction h with
  | none =>
    symm
    rw [List.length_nil, List.countP_eq_zero]
    intro f hf hc
    have h1 := of_decide_eq_true hc
    have h2 := (hok f hf).seq.1
    simp [cntW] at h1
    omega
  | more h0 hf hsq hvec ih =>
    rename_i hs f
    have hfo := (hok f hf).org_eq
    have hcn : ∀ a ∈ said, cntW (hs ++ [f.word]) a.org.toNat = cntW hs a.org.toNat + if f.org = a.org then 1 else 0 := fun a ha => by
      rw [cntW_append, (hok a ha).org_eq]
      rfl
    rw [List.length_append, ih]
    symm
    refine countP_one hd hf (decide_eq_false (by omega)) (decide_eq_true (by rw [hcn f hf, if_pos rfl]; omega)) (fun a ha hns => ?_)
    rw [hcn a ha]
    by_cases e : f.org = a.org
    · rw [if_pos e]
      have hne : a.seq ≠ f.seq := fun e2 => hns ⟨e.symm, e2⟩
      have e' : a.org.toNat = f.org.toNat := by rw [e]
      rw [e'] at *
      apply decide_eq_decide.2
      constructor <;> intro h <;> omega
    · rw [if_neg e]
      simp
/-- Who has heard all has heard as many words as were said. -/
theorem all_heard {g : Gr} {nd : Nat → NS} {said : List Fm} (h : Inv g nd said) {p : Nat} (hp : p < g.n) (hall : ∀ f ∈ said, f.seq ≤ clk nd p f.org.toNat) : (nd p).hs.length = said.length := by
  rw [(h.heard p hp).count h.sok h.dist, List.countP_eq_length]
  intro f hf
  have h1 := hall f hf
  have h2 := (h.ok p hp).clk.cnt f.org.toNat (h.sok f hf).lt
  unfold clk at h1
  exact decide_eq_true (by omega)
theorem lacks_none {g : Gr} {nd : Nat → NS} {said : List Fm} (hall : ∀ p f, p < g.n → f ∈ said → f.seq ≤ clk nd p f.org.toNat) : lacks g nd said = 0 := by
  have h : lacks g nd said ≤ g.n * 0 := total_le (fun q hq => by
    refine Nat.le_of_eq (List.countP_eq_zero.2 fun f hf hc => ?_)
    exact @of_decide_eq_true _ (Classical.propDecidable _) hc (Or.inl (hall q f hq hf)))
  omega
/-- Between the two rounds: all have heard all. -/
theorem Rnd.end1 {g : Gr} {nd0 : Nat → NS} {x : MNet} {sd : List Sd} {sn : List Sn} {said : List Fm} {m : Nat} (h : Rnd g nd0 x sd sn [] said m) : (∀ p, p < g.n → (x.nd p).hs.length = sd.length) ∧ (∀ p f, p < g.n → f ∈ said → f.seq ≤ clk x.nd p f.org.toNat) := by
  obtain ⟨h1, _⟩ := round1 h.run.net.inv h.p1
  exact ⟨fun p hp => by rw [h.run.len]; exact all_heard h.run.net.inv hp (fun f hf => h1 p f hp hf), h1⟩
/-- Behind the second: no store keeps a word. -/
theorem Rnd.end2 {g : Gr} {nd0 : Nat → NS} {x : MNet} {sd : List Sd} {sn : List Sn} {said : List Fm} {m : Nat} (h : Rnd g nd0 x sd sn [] said m) (h0 : ∀ p f, p < g.n → f ∈ said → f.seq ≤ clk nd0 p f.org.toNat) : ∀ p, p < g.n → (x.nd p).kept = [] ∧ g.low (x.nd p).vs p = vw (x.nd p).vs p p := by
  intro p hp
  obtain ⟨h1, h2⟩ := round2 h.run.net.inv (C := clk nd0) h0 h.up (fun q o hq ho => Int.le_trans (h.up q o hq ho) ((h.run.net.inv.ok q hq).clk.bd q o hq ho).2) h.p2 p hp
  exact ⟨by unfold NS.kept; rw [h1]; rfl, h2⟩
end Go.Proofs.YtabecbjfamphbaaGreatDoor

/- hearsaykeep: freed. -/
namespace Go.Proofs.YtabecbjfamphbaaGreatDoor
open Go.RowKit Go.Stop Go.Extern

/-- What freed asks of a node. -/
structure FreedOk (g : Gr) (x : MNet) (sd : List Sd) (p : Nat) : Prop where
  all : ∀ s ∈ sd, (⟨s.org, s.seq, s.body⟩ : Wd) ∈ (x.nd p).hs → (⟨s.org, s.seq, s.body⟩ : Wd) ∉ (x.nd p).kept → ∃ o : Nat, s.org = o ∧ o < g.n ∧ ∀ q, q < g.n → s.seq ≤ (cntW (x.nd q).hs o : Int)
  said : ∀ (i : Nat) (t : Wd), (x.nd p).kept[i]? = some t → (∃ o : Nat, t.org = o ∧ o < g.n ∧ (cntW (x.nd p).kept o : Int) ≤ g.W) ∧ (∃ s ∈ sd, s.org = t.org ∧ s.seq = t.seq) ∧ ∀ s ∈ sd, s.org = t.org → s.seq = t.seq → s.body = t.body
  sort : ∀ (i : Nat) (t u : Wd), (x.nd p).kept[i]? = some t → (x.nd p).kept[i + 1]? = some u → t.org < u.org ∨ (t.org = u.org ∧ t.seq < u.seq)
theorem HV.le {g : Gr} {said : List Fm} {hs : List Wd} (h : HV g said hs) (hok : ∀ f ∈ said, f.Ok g) : ∀ t ∈ hs, t.seq ≤ (cntW hs t.org.toNat : Int) := by
  induction h with
  | none => exact fun t ht => by cases ht
  | more h0 hf hsq hvec ih =>
    rename_i hs f
    have hfo := (hok f hf).org_eq
    intro t ht
    rw [cntW_append]
    rcases List.mem_append.1 ht with h1 | h1
    · have := ih t h1
      split <;> omega
    · rw [List.mem_singleton] at h1
      subst h1
      have e : f.word.org = ((f.word.org.toNat : Nat) : Int) := by show f.org = _; exact hfo.symm
      rw [if_pos e]
      show f.seq ≤ _
      rw [show f.word.org.toNat = f.org.toNat from rfl]
      omega
theorem cntW_kept (s : NS) (o : Nat) : cntW s.kept o = (s.st.filter (fun f => decide (f.org = (o : Int)))).length := by
  unfold cntW NS.kept
  rw [List.countP_map, List.countP_eq_length_filter]
  rfl
theorem Run.freed {g : Gr} {x : MNet} {sd : List Sd} {sn : List Sn} {bag : List (Nat × Msg)} {said : List Fm} {m : Nat} (h : Run g x sd sn bag said m) (hg : g.Ok) {p : Nat} (hp : p < g.n) : FreedOk g x sd p := by
  have hI := h.net.inv
  have hof : ∀ s ∈ sd, ∃ f ∈ said, SdOf g.n s f := fun s hs => by
    obtain ⟨j, hj⟩ := List.mem_iff_getElem?.1 hs
    have hjl := (List.getElem?_eq_some_iff.1 hj).1
    have hl := h.len
    have hjf : said[j]? = some said[j] := List.getElem?_eq_getElem (by omega)
    exact ⟨_, List.mem_of_getElem? hjf, h.same j s _ hj hjf⟩
  have hsd : ∀ f ∈ said, ∃ s ∈ sd, SdOf g.n s f := fun f hf => by
    obtain ⟨j, hj⟩ := List.mem_iff_getElem?.1 hf
    have hjl := (List.getElem?_eq_some_iff.1 hj).1
    have hl := h.len
    have hjs : sd[j]? = some sd[j] := List.getElem?_eq_getElem (by omega)
    exact ⟨_, List.mem_of_getElem? hjs, h.same j _ f hjs hj⟩
  have hkp : ∀ t ∈ (x.nd p).kept, ∃ f ∈ (x.nd p).st, f.word = t := fun t ht => List.mem_map.1 ht
  refine ⟨fun s hs hm hk => ?_, fun i t hi => ?_, fun i t u hi hu => ?_⟩
  · obtain ⟨f, hf, h1, h2, h3, _⟩ := hof s hs
    have hw : f.word = (⟨s.org, s.seq, s.body⟩ : Wd) := by unfold Fm.word; rw [h1, h2, h3]
    have hfo := hI.sok f hf
    refine ⟨f.org.toNat, h1.trans hfo.org_eq.symm, hfo.lt, fun q hq => ?_⟩
    have hle := (hI.heard p hp).le hI.sok _ hm
    have hc : f.seq ≤ clk x.nd p f.org.toNat := by
      show f.seq ≤ vw (x.nd p).vs p f.org.toNat
      rw [(hI.ok p hp).clk.cnt _ hfo.lt, ← h2]
      have e : (⟨s.org, s.seq, s.body⟩ : Wd).org.toNat = f.org.toNat := by show s.org.toNat = _; rw [h1]
      rw [e] at hle
      exact hle
    have hns : f ∉ (x.nd p).st := fun hc' => hk (by rw [← hw]; exact List.mem_map.2 ⟨f, hc', rfl⟩)
    have h4 := hI.freed hp hq hf hc hns
    rw [h2]
    rw [← (hI.ok q hq).clk.cnt _ hfo.lt]
    exact h4
  · obtain ⟨f, hf, rfl⟩ := hkp t (List.mem_of_getElem? hi)
    have hfs := hI.st p hp f hf
    have hfo := hI.sok f hfs
    refine ⟨⟨f.org.toNat, hfo.org_eq.symm, hfo.lt, ?_⟩, ?_, fun s hs ho hq => ?_⟩
    · rw [cntW_kept]
      have h1 := (hI.ok p hp).few f.org.toNat
      have h2 := hg.W
      omega
    · obtain ⟨s, hs, h1, h2, _⟩ := hsd f hfs
      exact ⟨s, hs, h1, h2⟩
    · obtain ⟨f', hf', h1, h2, h3, _⟩ := hof s hs
      have e : f' = f := dist_eq hI.dist hf' hfs ⟨h1.symm.trans ho, h2.symm.trans hq⟩
      rw [h3, e]
      rfl
  · have hso := (hI.ok p hp).sorted
    unfold NS.kept at hi hu
    rw [List.getElem?_map] at hi hu
    cases hf1 : (x.nd p).st[i]? with
    | none => rw [hf1] at hi; cases hi
    | some f1 =>
      cases hf2 : (x.nd p).st[i + 1]? with
      | none => rw [hf2] at hu; cases hu
      | some f2 =>
        rw [hf1] at hi
        rw [hf2] at hu
        simp at hi hu
        subst hi hu
        obtain ⟨l1, e1⟩ := List.getElem?_eq_some_iff.1 hf1
        obtain ⟨l2, e2⟩ := List.getElem?_eq_some_iff.1 hf2
        have := List.pairwise_iff_getElem.1 hso i (i + 1) l1 l2 (by omega)
        rw [e1, e2] at this
        exact this
end Go.Proofs.YtabecbjfamphbaaGreatDoor
