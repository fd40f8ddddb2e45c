/-
  Texts that the proofs of this seat share, joined: Ko, Kq, Kr, Ks, Ku, Kv, Oa, Ob.
-/
import Derived.Test.YtabecbjfamphbaaGreatDoorB38
import Derived.Test.YtabecbjfamphbaaGreatDoorB37
import Derived.ProofKit
import Derived.LaidMore
import Derived.OpenShut
import Derived.Deep.Slices
import Derived.SizedLaws
/- hearsaykeep: plays. -/
namespace Go.Proofs.YtabecbjfamphbaaGreatDoor
open Go.RowKit Go.Stop Go.Extern

/-- A step's cells. -/
def StpAt (w : World) (b p : Nat) (o : Stp) : Prop := w.cell? ⟨b, p, none⟩ = some (.int .i64 o.K) ∧ w.cell? ⟨b, p + 1, none⟩ = some (.int .i64 o.a) ∧ w.cell? ⟨b, p + 2, none⟩ = some (.int .i64 o.b) ∧ w.cell? ⟨b, p + 3, none⟩ = some (.int .i64 o.v) ∧ w.cell? ⟨b, p + 4, none⟩ = some (.string o.s) ∧ w.cell? ⟨b, p + 5, none⟩ = some (.int .i64 o.f0) ∧ w.cell? ⟨b, p + 6, none⟩ = some (.int .i64 o.f1) ∧ w.cell? ⟨b, p + 7, none⟩ = some (.int .i64 o.f2) ∧ w.cell? ⟨b, p + 8, none⟩ = some (.int .i64 o.f3) ∧ w.cell? ⟨b, p + 9, none⟩ = some (.int .i64 o.f4) ∧ w.cell? ⟨b, p + 10, none⟩ = some (.slice o.fa o.fl o.fc) ∧ w.cell? ⟨b, p + 11, none⟩ = some (.string o.fb)
theorem StpAt.below {w w' : World} {z b p : Nat} {o : Stp} (h : StpAt w b p o) (hb : Below z w w') (hl : b < z) : StpAt w' b p o := by
  obtain ⟨h0, h1, h2, h3, h4, h5, h6, h7, h8, h9, h10, h11⟩ := h
  exact ⟨(hb.cell (p := ⟨b, p, none⟩) hl).trans h0, (hb.cell (p := ⟨b, p + 1, none⟩) hl).trans h1, (hb.cell (p := ⟨b, p + 2, none⟩) hl).trans h2, (hb.cell (p := ⟨b, p + 3, none⟩) hl).trans h3, (hb.cell (p := ⟨b, p + 4, none⟩) hl).trans h4, (hb.cell (p := ⟨b, p + 5, none⟩) hl).trans h5, (hb.cell (p := ⟨b, p + 6, none⟩) hl).trans h6, (hb.cell (p := ⟨b, p + 7, none⟩) hl).trans h7, (hb.cell (p := ⟨b, p + 8, none⟩) hl).trans h8, (hb.cell (p := ⟨b, p + 9, none⟩) hl).trans h9, (hb.cell (p := ⟨b, p + 10, none⟩) hl).trans h10, (hb.cell (p := ⟨b, p + 11, none⟩) hl).trans h11⟩
/-- A script in memory, below z. -/
structure Scr (w : World) (z : Nat) (ad : Option Addr) (ops : List Stp) : Prop where
  ok : ∀ o ∈ ops, o.Ok
  lies : ∀ (i : Nat) (o : Stp), ops[i]? = some o → ∃ b off, ad = some ⟨b, off, none⟩ ∧ b < z ∧ StpAt w b (off + i * 12) o
set_option maxRecDepth 100000 in
set_option maxHeartbeats 1000000 in
theorem plays_any (A : Nat → Addr) (base z rb : Nat) (g : Gr) (m : Nat) (ad : Option Addr) (cap : Nat) (ops : List Stp) (hg : g.Ok) (hm : m + ops.length ≤ 10000000) (w : World) (hw : Sl w A base) (hz : base ≤ z) (hs : Scr w z ad ops) (h : Ran z w rb g m) :
    Calls Tryz.prog 15 #[.pointer (some ⟨rb, 0, none⟩), .slice ad ops.length cap] w fun e w' => e = .returned (.bool true) ∧ Ran z w' rb g (m + ops.length) ∧ Below z w w' := by
  have HW : Hid _ := hw
  have HS : Hid _ := hs
  have HRan : Hid (Ran z w rb g m) := h
  clear hw hs h
  go_enter Tryz.func15, Tryz.ntmps15
  go_wp2_with fail
  go_loopw [5] (fun c wr => ∃ k : Nat, k ≤ ops.length ∧ c = .int .i64 k ∧ Ran z wr rb g (m + k) ∧ Below z w wr) (fun c _ => ops.length - (intOf c).toNat)
  case atStart => exact ⟨0, Nat.zero_le _, rfl, HRan.out, Below.refl _ _⟩
  case round =>
    obtain ⟨k, hkn, rfl, hr, hb⟩ := hrel
    have HR : Hid (Ran z wr rb g (m + k)) := hr
    have HB : Hid _ := hb
    clear hr hb
    by_cases hlt : k < ops.length
    · have hki : (k : Int) < (ops.length : Int) := by omega
      obtain ⟨o, hok⟩ : ∃ o, ops[k]? = some o := ⟨ops[k], List.getElem?_eq_getElem _⟩
      obtain ⟨b, off, rfl, hbz, hst⟩ := HS.out.lies k o hok
      have hst' := StpAt.below hst HB.out hbz
      have HSt : Hid _ := step_any A base z rb g (m + k) o (HS.out.ok o (List.mem_of_getElem? hok)) hg (by omega) wr (HW.out.above hz HB.out) hz HR.out
      unfold Stp.val at HSt
      obtain ⟨t0, t1, t2, t3, t4, t5, t6, t7, t8, t9, t10, t11⟩ := hst'
      obtain ⟨K, a, bb, v, s, f0, f1, f2, f3, f4, fa, fl, fc, fb⟩ := o
      simp only at t0 t1 t2 t3 t4 t5 t6 t7 t8 t9 t10 t11
      clear hok hst
      go_wp2_with fail
      refine (show Calls _ _ _ _ _ from HSt.out).mono ?_
      rintro e w1 ⟨rfl, hr1, hb1⟩
      have HR1 : Hid (Ran z w1 rb g (m + (k + 1))) := hr1
      have HB1 : Hid _ := HB.out.trans hb1
      clear hr1 hb1
      go_wp2_with fail
      go_roundw
      case rel => exact ⟨k + 1, by omega, by go_num, HR1.out, HB1.out⟩
      case measure => simp [intOf]; omega
    · have hkn' : k = ops.length := by omega
      subst hkn'
      go_wp2_with fail
      go_ret
      exact ⟨rfl, HR.out, HB.out⟩
end Go.Proofs.YtabecbjfamphbaaGreatDoor

/- A circle at the beginning, as plain data. -/
namespace Go.Proofs.YtabecbjfamphbaaGreatDoor
open Go.RowKit Go.Stop Go.Extern

theorem clk_new {g : Gr} (hg : g.Ok) {p o : Nat} (ho : o < g.n) : clk (fun _ => NS.new g) p o = 0 := by
  have h := ((NS.new_ok hg p).clk).cnt o ho
  exact h
theorem Inv.new {g : Gr} (hg : g.Ok) : Inv g (fun _ => NS.new g) [] where
  ok := fun p _ => NS.new_ok hg p
  sok := fun f hf => by cases hf
  dist := List.Pairwise.nil
  top := fun f hf => by cases hf
  has := fun o ho k h1 h2 => by rw [clk_new hg ho] at h2; omega
  heard := fun p _ => HV.none
  st := fun p _ f hf => by cases hf
  kept := fun p _ f hf => by cases hf
  view := fun p q o hp hq ho => by
    show vw (NS.new g).vs q o ≤ vw (NS.new g).vs q o
    exact Int.le_refl _
  low := fun f hf => by cases hf
  dep := fun f hf => by cases hf
  quiet := fun p _ => rfl
  ord := fun i f hf => by simp at hf
theorem Run.new {g : Gr} (hg : g.Ok) (sn : List Sn) (hs : ∀ s ∈ sn, s.ws = []) : Run g (MNet.new g) [] sn [] [] 0 :=
  ⟨⟨Inv.new hg, fun y hy => by cases hy⟩, rfl, rfl, fun i s f h => by simp at h, fun p sp hsp i t ht => by
    rw [hs sp (List.mem_of_getElem? hsp)] at ht
    simp at ht, fun p _ => ⟨Int.le_refl _, Int.le_refl _⟩, Nat.le_refl _, Nat.le_refl _⟩
end Go.Proofs.YtabecbjfamphbaaGreatDoor

/- hearsaykeep: met. -/
namespace Go.Proofs.YtabecbjfamphbaaGreatDoor
open Go.RowKit Go.Stop Go.Extern

theorem Tryz.seenInfo : (Tryz.prog.info? 62).map (fun i => (i.zero, i.size, i.bytes)) = some (some (.slice none 0 0), 1, 24) := by kernel_rfl
/-- Nothing was seen yet. -/
def sn0 (n : Nat) : List Sn := List.replicate n ⟨none, 0, []⟩
theorem sn0_row (k : Nat) : nrow (sn0 (k + 1)) = nrow (sn0 k) ++ [.slice none 0 0] := by simp [sn0, nrow, List.replicate_succ']
/-- The circle's block while it is made. -/
def CirB (w : World) (rb fb : Nat) (g : Gr) (na : Option Addr) (k ncap : Nat) : Prop := w.heap[rb]? = some (.cells #[.int .i64 (g.n : Int), .int .i64 g.W, .int .i64 g.B, .int .i64 g.L, .pointer (some ⟨fb, 0, none⟩), .slice none 0 0, .slice na k ncap] 40 (0, 0))
set_option maxRecDepth 100000 in
set_option maxHeartbeats 1000000 in
theorem met_any (A : Nat → Addr) (base : Nat) (g : Gr) (hg : g.Ok) (w : World) (hw : Sl w A base) :
    Calls Tryz.prog 12 #[.agg #[.int .i64 (g.n : Int), .int .i64 g.W, .int .i64 g.B, .int .i64 g.L]] w fun e w' => (∃ rb, e = .returned (.pointer (some ⟨rb, 0, none⟩)) ∧ CircZ w.heap.size w' rb g (MNet.new g) [] (sn0 g.n)) ∧ Below w.heap.size w w' := by
  have HW : Hid _ := hw
  have hn8 := hg.n.2
  clear hw
  have HX : Hid _ := below1 w (.cells #[.int .i64 (g.n : Int), .int .i64 g.W, .int .i64 g.B, .int .i64 g.L] 26)
  have HBx : Hid (∀ y, Below (w.alloc (.cells #[.int .i64 (g.n : Int), .int .i64 g.W, .int .i64 g.B, .int .i64 g.L] 26)).heap.size (w.alloc (.cells #[.int .i64 (g.n : Int), .int .i64 g.W, .int .i64 g.B, .int .i64 g.L] 26)) y → y.cell? ⟨w.heap.size, 0, none⟩ = some (.int .i64 (g.n : Int)) ∧ y.cell? ⟨w.heap.size, 1, none⟩ = some (.int .i64 g.W) ∧ y.cell? ⟨w.heap.size, 2, none⟩ = some (.int .i64 g.B) ∧ y.cell? ⟨w.heap.size, 3, none⟩ = some (.int .i64 g.L)) := fun y hy => by
    have hz : w.heap.size < (w.alloc (.cells #[.int .i64 (g.n : Int), .int .i64 g.W, .int .i64 g.B, .int .i64 g.L] 26)).heap.size := by simp
    have e : ∀ i, y.cell? ⟨w.heap.size, i, none⟩ = #[Value.int .i64 (g.n : Int), .int .i64 g.W, .int .i64 g.B, .int .i64 g.L][i]? := fun i => (hy.cell (p := ⟨w.heap.size, i, none⟩) hz).trans (cell_of_row _ _ i _ _ (0, 0) (heap_alloc_new _ _))
    exact ⟨e 0, e 1, e 2, e 3⟩
  go_enter Tryz.func12, Tryz.ntmps12
  go_wp2_with fail
  generalize w.alloc (.cells #[.int .i64 (g.n : Int), .int .i64 g.W, .int .i64 g.B, .int .i64 g.L] 26) = X at *
  refine (netNew_yes A base g hg X (HW.out.low HX.out)).mono ?_
  rintro e w1 ⟨⟨fb, F, rfl, hnet, hF⟩, hb1⟩
  have HNet : Hid _ := hnet
  have HF : Hid (∀ k, F k → X.heap.size ≤ k) := hF
  have HB1 : Hid _ := bthen HX.out hb1
  obtain ⟨b0, b1, b2, b3⟩ := HBx.out w1 hb1
  clear hnet hF hb1
  have HC0 : Hid (CirB (w1.alloc (.cells #[.int .i64 (g.n : Int), .int .i64 g.W, .int .i64 g.B, .int .i64 g.L, .pointer (some ⟨fb, 0, none⟩), .slice none 0 0, .slice none 0 0] 40)) w1.heap.size fb g none 0 0) := heap_alloc_new _ _
  have HBc : Hid _ := below1 w1 (.cells #[.int .i64 (g.n : Int), .int .i64 g.W, .int .i64 g.B, .int .i64 g.L, .pointer (some ⟨fb, 0, none⟩), .slice none 0 0, .slice none 0 0] 40)
  have HwX : Hid (w.heap.size < w1.heap.size) := lt_of_cell b0
  obtain ⟨i0, hi, hz0, hz1, hz2⟩ := info_parts Tryz.seenInfo
  go_wp2_with fail
  generalize w1.alloc (.cells #[.int .i64 (g.n : Int), .int .i64 g.W, .int .i64 g.B, .int .i64 g.L, .pointer (some ⟨fb, 0, none⟩), .slice none 0 0, .slice none 0 0] 40) = Y at *
  go_loopw [6] (fun c wr => ∃ k na ncap, k ≤ g.n ∧ c = .int .i64 (k : Nat) ∧ CirB wr w1.heap.size fb g na k ncap ∧ wr.ownsRow 0 62 1 (.slice na k ncap) k (nrow (sn0 k)) ∧ (∀ j, onB na j → w1.heap.size < j) ∧ Below w1.heap.size w1 wr) (fun c _ => g.n - (intOf c).toNat)
  case atStart => exact ⟨0, none, 0, Nat.zero_le _, rfl, HC0.out, World.ownsRow_nil _ _ _ _, fun j ⟨_, e⟩ => (by cases e), HBc.out⟩
  case round =>
    obtain ⟨k, na, ncap, hkn, rfl, hcb, hown0, hna, hbel⟩ := hrel
    have HCb : Hid (CirB wr w1.heap.size fb g na k ncap) := hcb
    have HO : Hid (wr.ownsRow 0 62 1 (.slice na k ncap) k (nrow (sn0 k))) := hown0
    have HNa : Hid (∀ j, onB na j → w1.heap.size < j) := hna
    have HBe : Hid (Below w1.heap.size w1 wr) := hbel
    have hrb : w1.heap.size < wr.heap.size := lt_of_some hcb
    have d0 := (hbel.cell (p := ⟨w.heap.size, 0, none⟩) HwX.out).trans b0
    have e6 : wr.cell? ⟨w1.heap.size, 6, none⟩ = some (.slice na k ncap) := cell_of_row _ _ 6 _ _ (0, 0) hcb
    clear hcb hown0 hna hbel
    by_cases hlt : k < g.n
    · have hki : (k : Int) < (g.n : Int) := by omega
      go_wp2_with (at_builtin; refine wpList_append_own_at _ rfl (.tmp 32) (.tmp 33) 38 rfl 0 62 i0 _ 1 24 Tryz.underlying38 hi hz0 hz1 hz2 rfl (by decide) _ _ _ rfl (World.ownsRow.alloc HO.out _) ⟨wr.heap.size, 0, none⟩ 1 1 [.slice none 0 0] rfl rfl ?q1 ?q2 (by unfold maxLen; omega) (by omega) (Nat.zero_le _) ?_)
      case q1 =>
        intro q u hq
        match q, hq with
        | 0, hq => simp at hq; subst hq; simp [Addr.add]
      case q2 =>
        intro u hu
        simp at hu
        subst hu
        rfl
      intro v' w4 hown hgrow _ hat
      have HOM : Hid (∀ j, (Value.slice na k ncap).ownBlock = some j → onB na j) := fun j hj => own_onB HO.out hj
      have HA4 : Hid (Alike wr w4 (onB na)) := (Alike.of_below (below1 wr _) _).trans (Alike.of_grown hgrow) (fun j _ hj => HOM.out j hj)
      obtain ⟨a4, c4, hg4⟩ := rowShaped hown
      subst hg4
      have HNw : Hid (∀ j, onB a4 j → w1.heap.size < j) := fun j ⟨off, hj⟩ => by
        rcases hown.2 with ⟨he, _⟩ | ⟨g', cap', cur', he, _⟩
        · rw [hj] at he; cases he
        · cases he
          cases hj
          rcases hat with h | h
          · exact HNa.out _ (HOM.out _ h.symm)
          · cases h
            simp
            omega
      have hnb : ¬ onB na w1.heap.size := fun hc => by have := HNa.out _ hc; omega
      have hb4 : CirB w4 w1.heap.size fb g na k ncap := (HA4.out.block _ hrb hnb).trans HCb.out
      have f6 : w4.cell? ⟨w1.heap.size, 6, none⟩ = some (.slice na k ncap) := cell_of_row _ _ 6 _ _ (0, 0) hb4
      have ff : w4.frozen? ⟨w1.heap.size, 6, none⟩ = false := frozen_of_row w4 w1.heap.size 6 _ 40 hb4
      have HC5 : Hid (CirB (w4.setCell ⟨w1.heap.size, 6, none⟩ (.slice a4 (k + 1) c4)) w1.heap.size fb g a4 (k + 1) c4) := by
        have h1 := heap_setCell_same w4 w1.heap.size 6 _ 40 (.slice a4 (k + 1) c4) hb4
        show _ = _
        rw [h1]
        simp
      have HO5 : Hid ((w4.setCell ⟨w1.heap.size, 6, none⟩ (.slice a4 (k + 1) c4)).ownsRow 0 62 1 (.slice a4 (k + 1) c4) (k + 1) (nrow (sn0 (k + 1)))) := by
        rw [sn0_row]
        exact row_alike2 hown (Alike.setCell w4 ⟨w1.heap.size, 6, none⟩ (.slice a4 (k + 1) c4)) (fun j hj e => by have := HNw.out j hj; have e' : j = w1.heap.size := e; omega)
      have HB5 : Hid (Below w1.heap.size w1 (w4.setCell ⟨w1.heap.size, 6, none⟩ (.slice a4 (k + 1) c4))) := (HBe.out.trans (below_of_alike HA4.out (fun j hj => Nat.le_of_lt (HNa.out j hj)) (by omega))).setCell (p := ⟨w1.heap.size, 6, none⟩) (Nat.le_refl _) _
      clear hown hgrow hat hb4
      go_wp2_with fail
      go_roundw
      case rel => exact ⟨k + 1, a4, c4, by omega, by go_num, HC5.out, HO5.out, HNw.out, HB5.out⟩
      case measure => simp [intOf]; omega
    · have hkn' : k = g.n := by omega
      subst hkn'
      go_wp2_with fail
      go_ret
      refine ⟨⟨_, rfl, ⟨fb, F, none, 0, na, ncap⟩, ?_, ?_⟩, bthen HB1.out HBe.out⟩
      · have e : ∀ i, wr.cell? ⟨w1.heap.size, i, none⟩ = #[Value.int .i64 (g.n : Int), .int .i64 g.W, .int .i64 g.B, .int .i64 g.L, .pointer (some ⟨fb, 0, none⟩), .slice none 0 0, .slice na g.n ncap][i]? := fun i => cell_of_row _ _ i _ _ (0, 0) HCb.out
        have hl : (sn0 g.n).length = g.n := List.length_replicate
        have hs0 : ∀ s ∈ sn0 g.n, s = ⟨none, 0, []⟩ := fun s hs => List.eq_of_mem_replicate hs
        refine ⟨e 0, e 1, e 2, e 3, e 4, e 5, (by rw [hl]; exact e 6), ⟨_, HCb.out⟩, HNet.out.low HBe.out, World.ownsRow_nil _ _ _ _, fun s hs => (by cases hs), (by rw [hl]; exact HO.out), fun s hs => ?_, hl, fun k hk => ?_⟩
        · rw [hs0 s hs]
          exact ⟨World.ownsRow_nil _ _ _ _⟩
        · have h1 := HNet.out.lt hk
          refine ⟨(by omega), fun ⟨_, e⟩ => (by cases e), fun hc => (by have := HNa.out k hc; omega), fun s hs => (by cases hs), fun s hs => ?_⟩
          rw [hs0 s hs]
          exact fun ⟨_, e⟩ => by cases e
      · intro k hk
        have h1 := HB1.out.size
        have h2 := HX.out.size
        rcases hk with h | h | ⟨_, h⟩ | h | ⟨s, hs, _⟩ | ⟨s, hs, h⟩
        · omega
        · have := HF.out k h
          omega
        · cases h
        · have := HNa.out k h
          omega
        · cases hs
        · rw [List.eq_of_mem_replicate hs] at h
          obtain ⟨_, e⟩ := h
          cases e
end Go.Proofs.YtabecbjfamphbaaGreatDoor

/- hearsaykeep: first, as plain data. -/
namespace Go.Proofs.YtabecbjfamphbaaGreatDoor
open Go.RowKit Go.Stop Go.Extern

def g0 : Gr := ⟨2, 1, 4, 9⟩
theorem g0_ok : g0.Ok := ⟨by decide, by decide, by decide, by decide⟩
def wordB : ByteArray := ⟨#[119, 111, 114, 100]⟩
def f0 : Fm := (NS.new g0).word g0 1 wordB
theorem first_sayK : (NS.new g0).sayK g0 1 wordB.size = 0 := by decide
theorem first_pass : passM g0 1 f0 1 = [(0, .data 1 f0)] := rfl
theorem first_newK : (NS.new g0).newK g0 0 f0 = 0 := by decide
theorem first_got : ((NS.new g0).got g0 0 f0).hs = [⟨1, 1, wordB⟩] := rfl
theorem first_hear : (NS.new g0).hearM g0 0 (.data 1 f0) = (0, passM g0 0 f0 1, (NS.new g0).got g0 0 f0) := by
  show (if (1 : Nat) = 0 ∨ f0.org = ((0 : Nat) : Int) then ((6, [], NS.new g0) : Nat × List (Nat × Msg) × NS) else if (NS.new g0).newK g0 0 f0 = 0 then (0, passM g0 0 f0 1, (NS.new g0).got g0 0 f0) else ((NS.new g0).newK g0 0 f0, [], NS.new g0)) = _
  rw [if_neg (by decide), if_pos first_newK]
/-- The net when the word is said. -/
def x1 : MNet := ((MNet.new g0).sayR g0 (1 : Nat) wordB).x
theorem first_said : (MNet.new g0).sayR g0 (1 : Nat) wordB = ⟨1, 0, x1⟩ := by
  have he : (NS.new g0).say g0 1 wordB = ⟨0, vw (NS.new g0).vs 1 1 + 1, NS.sayL g0 1 f0, (NS.new g0).said g0 1 f0⟩ := if_pos first_sayK
  have h1 := sayR_eq (g := g0) (x := MNet.new g0) (p := 1) (by decide) wordB
  have h2 : ((MNet.new g0).nd 1).say g0 1 wordB = (NS.new g0).say g0 1 wordB := rfl
  rw [h2, he] at h1
  unfold x1
  rw [h1]
  rfl
theorem first_run (pb : Nat) (sn : List Sn) (hs : ∀ s ∈ sn, s.ws = []) : Run g0 x1 ([] ++ [saidSd g0 (MNet.new g0) 1 wordB pb]) sn [(0, .data 1 f0)] [f0] 1 := by
  have h := ((Run.new g0_ok sn hs).say g0_ok (p := 1) (by decide) wordB).1 (by rw [first_said]) pb
  have e : ([] : List (Nat × Msg)) ++ passM g0 1 (NS.word g0 1 ((MNet.new g0).nd 1) wordB) 1 = [(0, .data 1 f0)] := first_pass
  rw [e] at h
  exact h
theorem first_nd : x1.nd 0 = NS.new g0 := by
  have h1 := sayR_eq (g := g0) (x := MNet.new g0) (p := 1) (by decide) wordB
  unfold x1
  rw [h1]
  show ((MNet.new g0).put 1 (((MNet.new g0).nd 1).say g0 1 wordB).s).nd 0 = _
  exact put_other _ _ _ (by decide)
theorem deliver_nd {g : Gr} {x : MNet} {k : Nat} {t : Pk} {p : Nat} (hp : t.to.toNat = p) : (x.deliver g k t).nd p = ((x.nd p).hear g p t.text).s := by
  subst hp
  unfold MNet.deliver
  simp only
  split
  · exact put_same _ _ _
  · exact put_same _ _ _
/-- The net when it is delivered. -/
def x2 : MNet := (x1.deliverR g0 (0 : Nat)).x
theorem first_delivered : x1.deliverR g0 (0 : Nat) = ⟨0, 0, x2⟩ ∧ (x2.nd 0).hs = [⟨1, 1, wordB⟩] ∧ x2.Ok g0 := by
  have hr := first_run 0 [] (fun s hs => by cases hs)
  have hb : x1.bag[0]? = some (encP g0 (0, .data 1 f0)) := by rw [hr.enc]; rfl
  have hd := deliverR_at (g := g0) (k := 0) hb
  have hm : (Msg.data 1 f0).Ok g0 := GoodP.msg hr.net.inv (hr.net.good (0, .data 1 f0) (List.mem_singleton.2 rfl))
  have hh := hear_text g0_ok (p := 0) (s := x1.nd 0) hm
  rw [first_nd, first_hear] at hh
  have hD := (hr.deliver g0_ok (k := 0) (to := 0) (y := .data 1 f0) rfl).2
  have hk : ((x1.nd 0).hear g0 0 ((Msg.data 1 f0).text g0)).k = 0 := by rw [first_nd, hh]
  have hx2 : x2 = x1.deliver g0 0 (encP g0 (0, .data 1 f0)) := by unfold x2; rw [hd]
  refine ⟨?_, ?_, ?_⟩
  · unfold x2
    rw [hd]
    show XR.mk 0 ((x1.nd 0).hear g0 0 ((Msg.data 1 f0).text g0)).k _ = _
    rw [hk]
  · have h4 : (encP g0 (0, .data 1 f0)).text = (Msg.data 1 f0).text g0 := rfl
    have h5 : (encP g0 (0, .data 1 f0)).to.toNat = 0 := rfl
    rw [hx2, deliver_nd h5, h4, first_nd, hh]
    exact first_got
  · rw [hx2]
    exact hD.ok g0_ok (by decide)
end Go.Proofs.YtabecbjfamphbaaGreatDoor

/- hearsaykeep: first. -/
namespace Go.Proofs.YtabecbjfamphbaaGreatDoor
open Go.RowKit Go.Stop Go.Extern

set_option maxRecDepth 100000 in
set_option maxHeartbeats 1000000 in
theorem first_any (A : Nat → Addr) (base : Nat) (w : World) (hw : Sl w A base) (hbz : base ≤ w.heap.size) :
    Calls Tryz.prog 14 #[] w fun e w' => e = .returned (.bool true) ∧ Below w.heap.size w w' := by
  have HW : Hid _ := hw
  have HMet : Hid (∀ y, Below w.heap.size w y → Calls Tryz.prog 12 #[.agg #[.int .i64 2, .int .i64 1, .int .i64 4, .int .i64 9]] y fun e w' => (∃ rb, e = .returned (.pointer (some ⟨rb, 0, none⟩)) ∧ CircZ y.heap.size w' rb g0 (MNet.new g0) [] (sn0 2)) ∧ Below y.heap.size y w') := fun y hy => met_any A base g0 g0_ok y (hw.low hy)
  have HZ : Hid (base ≤ w.heap.size) := hbz
  clear hw hbz
  go_enter Tryz.func14, Tryz.ntmps14
  go_wp2_with fail
  refine (show Calls _ _ _ _ _ from HMet.out _ (Below.refl _ _)).mono ?_
  rintro e w1 ⟨⟨rb, rfl, hc1⟩, hb1⟩
  have HB1 : Hid (Below w.heap.size w w1) := hb1
  obtain ⟨C, hC, hCz⟩ := hc1.how
  have HC : Hid (Circ w1 rb g0 (MNet.new g0) [] (sn0 2) C) := hC
  have HCz : Hid (∀ k, C.foot rb [] (sn0 2) k → w.heap.size ≤ k) := hCz
  have HW1 : Hid (Sl w1 A base) := HW.out.low hb1
  have c4 := hC.c4
  have HFb : Hid (∀ k, C.Fx k → base ≤ k) := fun k hk => Nat.le_trans HZ.out (hCz k (Or.inr (Or.inl hk)))
  have HSay : Hid (Calls Tryz.prog 40 #[.pointer (some ⟨C.fb, 0, none⟩), .int .i64 1, .string wordB] w1 fun e w' => e = .returned (.tuple #[.int .i64 1, .int .i64 0]) ∧ NDid w1 w' C.fb g0 C.Fx x1) := by
    have h1 := netSay A base C.fb g0 (MNet.new g0) C.Fx (1 : Nat) wordB g0_ok (MNet.new_ok g0_ok) w1 HW1.out HFb.out hC.net
    rw [first_said] at h1
    exact h1
  clear hc1 hb1 hC hCz
  go_wp2_with fail
  refine (show Calls _ _ _ _ _ from HSay.out).mono ?_
  rintro e w2 ⟨rfl, hd2⟩
  obtain ⟨C2, hC2, hf2⟩ := HC.out.did hd2
  have HC2 : Hid (Circ w2 rb g0 x1 [] (sn0 2) C2) := hC2
  have HC2z : Hid (∀ k, C2.foot rb [] (sn0 2) k → w.heap.size ≤ k) := fun k hk => by
    rcases hf2 k hk with h | h
    · exact HCz.out k h
    · exact Nat.le_trans HB1.out.size h
  have HW2 : Hid (Sl w2 A base) := hd2.sl HW1.out HFb.out
  have HFb2 : Hid (∀ k, C2.Fx k → base ≤ k) := fun k hk => Nat.le_trans HZ.out (HC2z.out k (Or.inr (Or.inl hk)))
  have HB2 : Hid (Below w.heap.size w w2) := HB1.out.trans (below_of_alike hd2.rest (fun k hk => HCz.out k (Or.inr (Or.inl hk))) HB1.out.size)
  have d4 := hC2.c4
  have HDl : Hid (Calls Tryz.prog 41 #[.pointer (some ⟨C2.fb, 0, none⟩), .int .i64 0] w2 fun e w' => e = .returned (.int .i64 0) ∧ NDid w2 w' C2.fb g0 C2.Fx x2) := by
    have h1 := netDeliver A base C2.fb g0 x1 C2.Fx (0 : Nat) g0_ok ((first_run 0 [] (fun s hs => by cases hs)).ok g0_ok (by decide)) w2 HW2.out HFb2.out hC2.net
    rw [first_delivered.1] at h1
    exact h1
  clear c4 HSay hd2 hC2 hf2
  go_wp2_with fail
  refine (show Calls _ _ _ _ _ from HDl.out).mono ?_
  rintro e w3 ⟨rfl, hd3⟩
  obtain ⟨C3, hC3, hf3⟩ := HC2.out.did hd3
  have HC3 : Hid (Circ w3 rb g0 x2 [] (sn0 2) C3) := hC3
  have HW3 : Hid (Sl w3 A base) := hd3.sl HW2.out HFb2.out
  have HB3 : Hid (Below w.heap.size w w3) := HB2.out.trans (below_of_alike hd3.rest (fun k hk => HC2z.out k (Or.inr (Or.inl hk))) HB2.out.size)
  have e4 := hC3.c4
  have HHd : Hid (Calls Tryz.prog 29 #[.pointer (some ⟨C3.fb, 0, none⟩), .int .i64 0] w3 fun e w' => (∃ v, e = .returned (.tuple #[v, .int .i64 0]) ∧ Wrd w' w3.heap.size v [⟨1, 1, wordB⟩]) ∧ Below w3.heap.size w3 w') := by
    have h1 := netHeard A base C3.fb g0 x2 C3.Fx (0 : Nat) g0_ok first_delivered.2.2 w3 HW3.out hC3.net
    have h2 : x2.heardR g0 (0 : Nat) = ⟨[⟨1, 1, wordB⟩], 0⟩ := by
      unfold MNet.heardR
      rw [if_pos (by decide)]
      show WR.mk (x2.nd 0).hs 0 = _
      rw [first_delivered.2.1]
    rw [h2] at h1
    exact h1
  clear d4 HDl hd3 hC3 hf3
  go_wp2_with fail
  refine (show Calls _ _ _ _ _ from HHd.out).mono ?_
  rintro e w4 ⟨⟨v, rfl, hv⟩, hb4⟩
  have HB4 : Hid (Below w.heap.size w w4) := bthen HB3.out hb4
  obtain ⟨av, cv, hsh⟩ := rowShaped hv.own
  subst hsh
  obtain ⟨gb, rfl, _, q0, q1, q2⟩ := hv.get (k := 0) (t := ⟨1, 1, wordB⟩) rfl
  simp only [Nat.zero_mul, Nat.zero_add, wordB] at q0 q1 q2
  clear e4 HHd hb4 hv
  go_wp2_with fail
  go_ret
  exact ⟨rfl, HB4.out⟩
end Go.Proofs.YtabecbjfamphbaaGreatDoor

/- hearsaykeep: Causal. -/
namespace Go.Proofs.YtabecbjfamphbaaGreatDoor
open Go.RowKit Go.Stop Go.Extern

/-- The group that fit makes. -/
def fitG (N W B L : Int) : Gr := ⟨(2 + pk N 7).toNat, 1 + pk W 8, pk B 41, 1 + pk L 65535⟩
theorem fitG_ok (N W B L : Int) : (fitG N W B L).Ok := by
  have h1 := pk_bd N 7 (by omega)
  have h2 := pk_bd W 8 (by omega)
  have h3 := pk_bd B 41 (by omega)
  have h4 := pk_bd L 65535 (by omega)
  exact ⟨⟨by show 2 ≤ (2 + pk N 7).toNat; omega, by show (2 + pk N 7).toNat ≤ 8; omega⟩, ⟨by show 1 ≤ 1 + pk W 8; omega, by show 1 + pk W 8 ≤ 8; omega⟩, ⟨h3.1, by show pk B 41 ≤ 40; omega⟩, ⟨by show 1 ≤ 1 + pk L 65535; omega, by show 1 + pk L 65535 ≤ 65535; omega⟩⟩
theorem fitG_n (N W B L : Int) : ((fitG N W B L).n : Int) = 2 + pk N 7 := by
  have h1 := pk_bd N 7 (by omega)
  show (((2 + pk N 7).toNat : Nat) : Int) = _
  omega
theorem fit_g (N W B L : Int) (w : World) (hN : I64 N) (hW : I64 W) (hB : I64 B) (hL : I64 L) :
    Calls Tryz.prog 13 #[.agg #[.int .i64 N, .int .i64 W, .int .i64 B, .int .i64 L]] w
      fun e w' => e = .returned (.agg #[.int .i64 ((fitG N W B L).n : Int), .int .i64 (fitG N W B L).W, .int .i64 (fitG N W B L).B, .int .i64 (fitG N W B L).L]) ∧ Below w.heap.size w w' := by
  rw [fitG_n]
  exact fit_any N W B L w hN hW hB hL
theorem Scr.below {w w' : World} {z z' : Nat} {ad : Option Addr} {ops : List Stp} (h : Scr w z ad ops) (hb : Below z w w') (hz : z ≤ z') : Scr w' z' ad ops := ⟨h.ok, fun i o hi => by
  obtain ⟨b, off, e, hl, hs⟩ := h.lies i o hi
  exact ⟨b, off, e, Nat.lt_of_lt_of_le hl hz, hs.below hb hl⟩⟩
theorem Ran.low {z : Nat} {w y : World} {rb : Nat} {g : Gr} {m : Nat} (h : Ran z w rb g m) (hb : Below w.heap.size w y) : Ran z y rb g m := by
  obtain ⟨x, sd, sn, bag, said, hC, hR⟩ := h
  exact ⟨x, sd, sn, bag, said, hC.low hb, hR⟩
set_option maxRecDepth 100000 in
set_option maxHeartbeats 1000000 in
theorem causal_any (A : Nat → Addr) (base : Nat) (N W B L : Int) (ad : Option Addr) (cap : Nat) (ops : List Stp) (hN : I64 N) (hW : I64 W) (hB : I64 B) (hL : I64 L) (hm : ops.length ≤ 9000000) (w : World) (hw : Sl w A base) (hbz : base ≤ w.heap.size) (hs : Scr w w.heap.size ad ops) :
    Calls Tryz.prog 5 #[.agg #[.int .i64 N, .int .i64 W, .int .i64 B, .int .i64 L], .slice ad ops.length cap] w fun e w' => e = .returned (.bool true) ∧ Below w.heap.size w w' := by
  have HFit : Hid _ := fun y => fit_g N W B L y hN hW hB hL
  have hg := fitG_ok N W B L
  have HW : Hid _ := hw
  have HS : Hid _ := hs
  have HZ : Hid (base ≤ w.heap.size) := hbz
  generalize fitG N W B L = g at *
  have HG : Hid g.Ok := hg
  have HMet : Hid (∀ y, Below w.heap.size w y → Calls Tryz.prog 12 #[.agg #[.int .i64 (g.n : Int), .int .i64 g.W, .int .i64 g.B, .int .i64 g.L]] y fun e w' => (∃ rb, e = .returned (.pointer (some ⟨rb, 0, none⟩)) ∧ Ran y.heap.size w' rb g 0) ∧ Below y.heap.size y w') := fun y hy => by
    refine (met_any A base g hg y (hw.low hy)).mono ?_
    rintro e w' ⟨⟨rb, rfl, hc⟩, hb⟩
    exact ⟨⟨rb, rfl, _, _, _, _, _, hc, Run.new hg _ (fun s hs => by rw [List.eq_of_mem_replicate hs])⟩, hb⟩
  clear hw hs hbz hg
  go_enter Tryz.func5, Tryz.ntmps5
  go_wp2_with fail
  have HX : Hid _ := below1 w (.cells #[.int .i64 N, .int .i64 W, .int .i64 B, .int .i64 L] 26)
  generalize w.alloc (.cells #[.int .i64 N, .int .i64 W, .int .i64 B, .int .i64 L] 26) = X at *
  refine (show Calls _ _ _ _ _ from HFit.out _).mono ?_
  rintro e w1 ⟨rfl, hb1⟩
  have HB1 : Hid (Below w.heap.size w w1) := bthen HX.out hb1
  clear hb1
  go_wp2_with fail
  refine (show Calls _ _ _ _ _ from HMet.out _ HB1.out).mono ?_
  rintro e w2 ⟨⟨rb, rfl, hr2⟩, hb2⟩
  have HR2 : Hid (Ran w1.heap.size w2 rb g 0) := hr2
  have HB2 : Hid (Below w1.heap.size w1 w2) := hb2
  have HB02 : Hid (Below w.heap.size w w2) := bthen HB1.out hb2
  clear hr2 hb2
  go_wp2_with fail
  refine (first_any A base w2 (HW.out.low HB02.out) (Nat.le_trans HZ.out HB02.out.size)).mono ?_
  rintro e w3 ⟨rfl, hb3⟩
  have HR3 : Hid (Ran w1.heap.size w3 rb g 0) := Ran.low HR2.out hb3
  have HB3 : Hid (Below w1.heap.size w1 w3) := bthen HB2.out hb3
  have HB03 : Hid (Below w.heap.size w w3) := bthen HB02.out hb3
  clear hb3
  go_wp2_with fail
  have hz1 : base ≤ w1.heap.size := Nat.le_trans HZ.out HB1.out.size
  refine (plays_any A base w1.heap.size rb g 0 ad cap ops HG.out (by omega) w3 (HW.out.low HB03.out) hz1 (HS.out.below HB03.out HB1.out.size) HR3.out).mono ?_
  rintro e w4 ⟨rfl, hr4, hb4⟩
  have HR4 : Hid (Ran w1.heap.size w4 rb g (0 + ops.length)) := hr4
  have HB4 : Hid (Below w.heap.size w w4) := bthen HB1.out (HB3.out.trans hb4)
  clear hr4 hb4
  go_wp2_with fail
  obtain ⟨x, sd, sn, bag, said, hC, hR⟩ := HR4.out
  have hln : sd.length ≤ 10000000 := by have h1 := hR.len; have h2 := hR.short; omega
  refine (looked_any A base w1.heap.size rb g x sd sn HG.out (hR.ok HG.out (by omega)) hln hR.seen hR.caused w4 (HW.out.low HB4.out) hz1 hC).mono ?_
  rintro e w5 ⟨rfl, _, hb5⟩
  have HB5 : Hid (Below w.heap.size w w5) := HB4.out.trans (hb5.mono HB1.out.size)
  clear hC hR hb5 hln
  go_wp2_with fail
  go_ret
  exact ⟨rfl, HB5.out⟩
end Go.Proofs.YtabecbjfamphbaaGreatDoor

/- A script that was handed in, opened. -/
namespace Go.Proofs.YtabecbjfamphbaaGreatDoor
open Go.RowKit Go.Stop Go.Extern Go.ChangeShapes Go.WideShapes Go.ChangeAt Go.WideMaps Go.WideElems Go.Deep
set_option maxRecDepth 100000

theorem i64_wf {n : Int} (h : (Lit.int .i64 n).wf = true) : I64 n := by
  simp only [Lit.wf, Bool.and_eq_true, decide_eq_true_eq] at h
  exact h
theorem Tryz.stepCells : Tryz.prog.cellsOf 47 = 12 := by kernel_rfl
theorem Tryz.frameCells : Tryz.prog.cellsOf 45 = 7 := by kernel_rfl
theorem Tryz.intCells : Tryz.prog.cellsOf 3 = 1 := by kernel_rfl
theorem Tryz.strCells : Tryz.prog.cellsOf 9 = 1 := by kernel_rfl
theorem Tryz.intsCells : Tryz.prog.cellsOf 34 = 1 := by kernel_rfl
section
variable {H : Type} {enc : TypeId × Value → H} {w : World} {base : Nat} {spare : Nat → Bool} {held : Bool}
theorem some_at {α : Type} {l : List α} {i n : Nat} (h : l.length = n) (hi : i < n) : ∃ x, l[i]? = some x := ⟨l[i], List.getElem?_eq_getElem (by omega)⟩
theorem step_of {n : Nat} {cs : List Value} {x : DataW H × List MemPlace} (h : DataW.trod enc Tryz.prog w base spare held n 47 cs = some x) :
    ∃ o : Stp, o.Ok ∧ cs = [.int .i64 o.K, .int .i64 o.a, .int .i64 o.b, .int .i64 o.v, .string o.s, .int .i64 o.f0, .int .i64 o.f1, .int .i64 o.f2, .int .i64 o.f3, .int .i64 o.f4, .slice o.fa o.fl o.fc, .string o.fb] := by
  obtain ⟨xs, m, _, _, hcl, hxl, hf⟩ := DataW.trod_struct Tryz.underlying47 h
  rw [Tryz.stepCells] at hcl
  match cs, hcl with
  | [c0, c1, c2, c3, c4, c5, c6, c7, c8, c9, c10, c11], _ =>
    have h0 : DataW.trod enc Tryz.prog w base spare held m 3 (([c0, c1, c2, c3, c4, c5, c6, c7, c8, c9, c10, c11].drop 0).take (Tryz.prog.cellsOf 3)) = xs[0]? := hf 0 _ rfl
    have h1 : DataW.trod enc Tryz.prog w base spare held m 3 (([c0, c1, c2, c3, c4, c5, c6, c7, c8, c9, c10, c11].drop 1).take (Tryz.prog.cellsOf 3)) = xs[1]? := hf 1 _ rfl
    have h2 : DataW.trod enc Tryz.prog w base spare held m 3 (([c0, c1, c2, c3, c4, c5, c6, c7, c8, c9, c10, c11].drop 2).take (Tryz.prog.cellsOf 3)) = xs[2]? := hf 2 _ rfl
    have h3 : DataW.trod enc Tryz.prog w base spare held m 3 (([c0, c1, c2, c3, c4, c5, c6, c7, c8, c9, c10, c11].drop 3).take (Tryz.prog.cellsOf 3)) = xs[3]? := hf 3 _ rfl
    have h4 : DataW.trod enc Tryz.prog w base spare held m 9 (([c0, c1, c2, c3, c4, c5, c6, c7, c8, c9, c10, c11].drop 4).take (Tryz.prog.cellsOf 9)) = xs[4]? := hf 4 _ rfl
    have h5 : DataW.trod enc Tryz.prog w base spare held m 45 (([c0, c1, c2, c3, c4, c5, c6, c7, c8, c9, c10, c11].drop 5).take (Tryz.prog.cellsOf 45)) = xs[5]? := hf 5 _ rfl
    have hxl' : xs.length = 6 := hxl
    obtain ⟨x0, e0⟩ := some_at hxl' (i := 0) (by omega)
    obtain ⟨x1, e1⟩ := some_at hxl' (i := 1) (by omega)
    obtain ⟨x2, e2⟩ := some_at hxl' (i := 2) (by omega)
    obtain ⟨x3, e3⟩ := some_at hxl' (i := 3) (by omega)
    obtain ⟨x4, e4⟩ := some_at hxl' (i := 4) (by omega)
    obtain ⟨x5, e5⟩ := some_at hxl' (i := 5) (by omega)
    rw [e0] at h0
    rw [e1] at h1
    rw [e2] at h2
    rw [e3] at h3
    rw [e4] at h4
    rw [e5] at h5
    rw [Tryz.intCells] at h0 h1 h2 h3
    rw [Tryz.strCells] at h4
    rw [Tryz.frameCells] at h5
    obtain ⟨K, r0, _, z0⟩ := DataW.trod_int Tryz.underlying3 h0
    obtain ⟨a, r1, _, z1⟩ := DataW.trod_int Tryz.underlying3 h1
    obtain ⟨b, r2, _, z2⟩ := DataW.trod_int Tryz.underlying3 h2
    obtain ⟨v, r3, _, z3⟩ := DataW.trod_int Tryz.underlying3 h3
    obtain ⟨s, r4, _, _⟩ := DataW.trod_string Tryz.underlying9 h4
    obtain ⟨ys, m', _, _, _, hyl, hg⟩ := DataW.trod_struct Tryz.underlying45 h5
    have g0 : DataW.trod enc Tryz.prog w base spare held m' 3 (([c5, c6, c7, c8, c9, c10, c11].drop 0).take (Tryz.prog.cellsOf 3)) = ys[0]? := hg 0 _ rfl
    have g1 : DataW.trod enc Tryz.prog w base spare held m' 3 (([c5, c6, c7, c8, c9, c10, c11].drop 1).take (Tryz.prog.cellsOf 3)) = ys[1]? := hg 1 _ rfl
    have g2 : DataW.trod enc Tryz.prog w base spare held m' 3 (([c5, c6, c7, c8, c9, c10, c11].drop 2).take (Tryz.prog.cellsOf 3)) = ys[2]? := hg 2 _ rfl
    have g3 : DataW.trod enc Tryz.prog w base spare held m' 3 (([c5, c6, c7, c8, c9, c10, c11].drop 3).take (Tryz.prog.cellsOf 3)) = ys[3]? := hg 3 _ rfl
    have g4 : DataW.trod enc Tryz.prog w base spare held m' 3 (([c5, c6, c7, c8, c9, c10, c11].drop 4).take (Tryz.prog.cellsOf 3)) = ys[4]? := hg 4 _ rfl
    have g5 : DataW.trod enc Tryz.prog w base spare held m' 34 (([c5, c6, c7, c8, c9, c10, c11].drop 5).take (Tryz.prog.cellsOf 34)) = ys[5]? := hg 5 _ rfl
    have g6 : DataW.trod enc Tryz.prog w base spare held m' 9 (([c5, c6, c7, c8, c9, c10, c11].drop 6).take (Tryz.prog.cellsOf 9)) = ys[6]? := hg 6 _ rfl
    have hyl' : ys.length = 7 := hyl
    obtain ⟨y0, k0⟩ := some_at hyl' (i := 0) (by omega)
    obtain ⟨y1, k1⟩ := some_at hyl' (i := 1) (by omega)
    obtain ⟨y2, k2⟩ := some_at hyl' (i := 2) (by omega)
    obtain ⟨y3, k3⟩ := some_at hyl' (i := 3) (by omega)
    obtain ⟨y4, k4⟩ := some_at hyl' (i := 4) (by omega)
    obtain ⟨y5, k5⟩ := some_at hyl' (i := 5) (by omega)
    obtain ⟨y6, k6⟩ := some_at hyl' (i := 6) (by omega)
    rw [k0] at g0
    rw [k1] at g1
    rw [k2] at g2
    rw [k3] at g3
    rw [k4] at g4
    rw [k5] at g5
    rw [k6] at g6
    rw [Tryz.intCells] at g0 g1 g2 g3 g4
    rw [Tryz.intsCells] at g5
    rw [Tryz.strCells] at g6
    obtain ⟨f0, s0, _, _⟩ := DataW.trod_int Tryz.underlying3 g0
    obtain ⟨f1, s1, _, _⟩ := DataW.trod_int Tryz.underlying3 g1
    obtain ⟨f2, s2, _, _⟩ := DataW.trod_int Tryz.underlying3 g2
    obtain ⟨f3, s3, _, _⟩ := DataW.trod_int Tryz.underlying3 g3
    obtain ⟨f4, s4, _, _⟩ := DataW.trod_int Tryz.underlying3 g4
    obtain ⟨fb, s6, _, _⟩ := DataW.trod_string Tryz.underlying9 g6
    have hsl : ∃ fa fl fc, c10 = .slice fa fl fc := by
      rcases DataW.trod_slice Tryz.underlying34 g5 with ⟨e, _⟩ | ⟨aa, len, cap, _, _, _, _, e, _⟩
      · simp at e
        exact ⟨_, _, _, e⟩
      · simp at e
        exact ⟨_, _, _, e⟩
    obtain ⟨fa, fl, fc, rfl⟩ := hsl
    simp at r0 r1 r2 r3 r4 s0 s1 s2 s3 s4 s6
    subst r0 r1 r2 r3 r4 s0 s1 s2 s3 s4 s6
    exact ⟨⟨K, a, b, v, s, f0, f1, f2, f3, f4, fa, fl, fc, fb⟩, ⟨i64_wf z0, i64_wf z1, i64_wf z2, i64_wf z3⟩, rfl⟩
end
end Go.Proofs.YtabecbjfamphbaaGreatDoor

/- A script that was handed in, opened: all its steps. -/
namespace Go.Proofs.YtabecbjfamphbaaGreatDoor
open Go.RowKit Go.Stop Go.Extern Go.ChangeShapes Go.WideShapes Go.ChangeAt Go.WideMaps Go.WideElems Go.Deep
set_option maxRecDepth 100000

instance : Inhabited Stp := ⟨⟨0, 0, 0, 0, ⟨#[]⟩, 0, 0, 0, 0, 0, none, 0, 0, ⟨#[]⟩⟩⟩
section
variable {H : Type} {enc : TypeId × Value → H} {w : World} {base : Nat} {spare : Nat → Bool} {held : Bool}
theorem scr_of {fuel : Nat} {cs : List Value} {x : DataW H × List MemPlace} (h : DataW.trod enc Tryz.prog w base spare held fuel 27 cs = some x) :
    ∃ (ad : Option Addr) (cap : Nat) (ops : List Stp), cs = [.slice ad ops.length cap] ∧ Scr w w.heap.size ad ops := by
  rcases open_slice Tryz.underlying27 h with ⟨rfl, _⟩ | ⟨a, len, cap, m, n, D, Pl, rfl, _, hl, _, hm, _, hx⟩
  · exact ⟨none, 0, [], rfl, ⟨fun o ho => (by cases ho), fun i o hi => (by simp at hi)⟩⟩
  · have hlm : len ≤ m := by
      rw [hm]
      split <;> omega
    have hs : ∀ i, i < len → ∃ o : Stp, o.Ok ∧ ∃ cs', cs' = [.int .i64 o.K, .int .i64 o.a, .int .i64 o.b, .int .i64 o.v, .string o.s, .int .i64 o.f0, .int .i64 o.f1, .int .i64 o.f2, .int .i64 o.f3, .int .i64 o.f4, .slice o.fa o.fl o.fc, .string o.fb] ∧ ∀ j, j < 12 → w.cell? ((a.add (i * 12)).add j) = cs'[j]? := fun i hi => by
      obtain ⟨cs', hc, ht⟩ := hx i (by omega)
      obtain ⟨o, ho, hcs⟩ := step_of ht
      rw [Tryz.stepCells] at hc
      exact ⟨o, ho, cs', hcs, (World.cells?_some hc).2.2⟩
    obtain ⟨f, hf⟩ := choose_lt hs
    have hlen : ((List.range len).map f).length = len := by simp
    refine ⟨some a, cap, (List.range len).map f, by rw [hlen], ⟨fun o ho => ?_, fun i o hi => ?_⟩⟩
    · obtain ⟨i, hi, rfl⟩ := List.mem_map.1 ho
      exact (hf i (List.mem_range.1 hi)).1
    · have hil : i < len := by
        have := (List.getElem?_eq_some_iff.1 hi).1
        simpa using this
      have ho : o = f i := by
        rw [List.getElem?_map, List.getElem?_range hil] at hi
        simpa using hi.symm
      subst ho
      obtain ⟨_, cs', hcs, hcell⟩ := hf i hil
      subst hcs
      obtain ⟨b, off, spot⟩ := a
      have hspot : spot = none := by
        obtain ⟨_, cs0, hcs0, hcell0⟩ := hf 0 (by omega)
        subst hcs0
        simpa [Addr.add] using World.cell?_spot (hcell0 0 (by omega))
      subst hspot
      have hc : ∀ j, j < 12 → w.cell? ⟨b, off + i * 12 + j, none⟩ = ([.int .i64 (f i).K, .int .i64 (f i).a, .int .i64 (f i).b, .int .i64 (f i).v, .string (f i).s, .int .i64 (f i).f0, .int .i64 (f i).f1, .int .i64 (f i).f2, .int .i64 (f i).f3, .int .i64 (f i).f4, .slice (f i).fa (f i).fl (f i).fc, .string (f i).fb] : List Value)[j]? := fun j hj => by
        have := hcell j hj
        rw [Go.WideShapes.add_plain, Go.WideShapes.add_plain] at this
        exact this
      refine ⟨b, off, rfl, lt_of_cell (hc 0 (by omega)), hc 0 (by omega), hc 1 (by omega), hc 2 (by omega), hc 3 (by omega), hc 4 (by omega), hc 5 (by omega), hc 6 (by omega), hc 7 (by omega), hc 8 (by omega), hc 9 (by omega), hc 10 (by omega), hc 11 (by omega)⟩
end
end Go.Proofs.YtabecbjfamphbaaGreatDoor
