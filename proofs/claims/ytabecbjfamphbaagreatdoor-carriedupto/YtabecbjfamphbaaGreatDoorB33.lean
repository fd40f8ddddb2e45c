/-
  Texts that the proofs of this seat share, joined: Kg.
-/
import Derived.Test.YtabecbjfamphbaaGreatDoorB32
/- hearsaykeep: caused. -/
namespace Go.Proofs.YtabecbjfamphbaaGreatDoor
open Go.RowKit Go.Stop Go.Extern

/-- What was heard is what was said, in order, none too early. -/
def CausedOk (n : Nat) (sd : List Sd) (hs : List Wd) : Prop := ∀ (i : Nat) (t : Wd), hs[i]? = some t → (∃ o : Nat, t.org = o ∧ o < n ∧ t.seq = (cntW (hs.take i) o : Int) + 1) ∧ (∃ s ∈ sd, s.org = t.org ∧ s.seq = t.seq) ∧ ∀ s ∈ sd, s.org = t.org → s.seq = t.seq → s.body = t.body ∧ ∀ q, q < n → s.past.getD q 0 ≤ (cntW (hs.take i) q : Int)
theorem row_base {w : World} {b : Nat} {t : TypeId} {c : Nat} {ad : Option Addr} {len cap n : Nat} {xs : List Value} (h : w.ownsRow b t c (.slice ad len cap) n xs) {k : Nat} (hk : onB ad k) : b ≤ k := by
  obtain ⟨off, e⟩ := hk
  rcases h.2 with ⟨he, _⟩ | ⟨g', cap', cur, he, hg, _⟩
  · rw [e] at he; cases he
  · cases he
    cases e
    exact hg
theorem nrow_get {sn : List Sn} {p : Nat} {t : Sn} (h : sn[p]? = some t) : (nrow sn)[p]? = some (.slice t.ad t.ws.length t.cap) := by simp [nrow, h]
theorem Circ.nget {w : World} {rb : Nat} {g : Gr} {x : MNet} {sd : List Sd} {sn : List Sn} {C : CLay} (h : Circ w rb g x sd sn C) {k : Nat} {t : Sn} (hk : sn[k]? = some t) : ∃ b, C.na = some ⟨b, 0, none⟩ ∧ w.cell? ⟨b, k, none⟩ = some (.slice t.ad t.ws.length t.cap) ∧ w.frozen? ⟨b, k, none⟩ = false := by
  have hkl := (List.getElem?_eq_some_iff.1 hk).1
  have ho := h.nown
  rcases ho.2 with ⟨_, h0⟩ | ⟨b, cap', cur, he, hg, hh, _⟩
  · omega
  · simp only [Value.slice.injEq] at he
    rw [he.1] at ho
    refine ⟨b, he.1, ?_, World.ownsRow.frozenAt ho k⟩
    rw [World.ownsRow.cellAt ho k (by omega)]
    exact nrow_get hk
/-- What was seen of a node is another list. -/
theorem Circ.look {w : World} {rb : Nat} {g : Gr} {x : MNet} {sd : List Sd} {sn : List Sn} {C : CLay} (h : Circ w rb g x sd sn C) {p b : Nat} (hb : C.na = some ⟨b, 0, none⟩) {t : Sn} (ht : Wrd w 0 (.slice t.ad t.ws.length t.cap) t.ws) (hF : ∀ k, C.Fx k → ¬ onB t.ad k) : Circ (w.setCell ⟨b, p, none⟩ (.slice t.ad t.ws.length t.cap)) rb g x sd (sn.set p t) C := by
  obtain ⟨o1, o2, o3, o4⟩ := h.offs
  have hna : onB C.na b := ⟨0, hb⟩
  have ha := Alike.setCell w ⟨b, p, none⟩ (.slice t.ad t.ws.length t.cap)
  obtain ⟨cur, hty⟩ := h.ty
  have hrb : ¬ rb = b := fun e => (o2 b hna).1 e.symm
  have hset : nrow (sn.set p t) = (nrow sn).set p (.slice t.ad t.ws.length t.cap) := by simp [nrow, List.map_set]
  have hmem : ∀ s ∈ sn.set p t, s ∈ sn ∨ s = t := fun s hs => by
    rcases List.mem_or_eq_of_mem_set hs with h1 | h1
    · exact Or.inl h1
    · exact Or.inr h1
  obtain ⟨cb, hcb⟩ := row_block h.nown hna
  have hoff : ∀ {ad : Option Addr} {len cap : Nat} {ws : List Wd}, Wrd w 0 (.slice ad len cap) ws → ¬ onB ad b := fun hw hc => by
    obtain ⟨c2, e2⟩ := row_block hw.own hc
    exact ty_ne e2 hcb (by decide) rfl
  have hno : World.ownsRow (w.setCell ⟨b, p, none⟩ (.slice t.ad t.ws.length t.cap)) 0 62 1 (.slice C.na (sn.set p t).length C.ncap) (sn.set p t).length (nrow (sn.set p t)) := by
    rw [List.length_set, hset]
    have := h.nown
    rw [hb] at this ⊢
    have h2 := (World.ownsRow.stored this p (.slice t.ad t.ws.length t.cap)).1
    exact h2
  refine ⟨ha.cell h.c0 hrb, ha.cell h.c1 hrb, ha.cell h.c2 hrb, ha.cell h.c3 hrb, ha.cell h.c4 hrb, ha.cell h.c5 hrb, by rw [List.length_set]; exact ha.cell h.c6 hrb, ⟨cur, (ha.block rb (lt_of_some hty) hrb).trans hty⟩, h.net.alike ha (fun k hk e => ?_), row_alike2 h.sown ha (fun k hk e => ?_), fun s hs => ⟨(ha.block _ (h.past s hs).1.lt (fun e => ?_)).trans (h.past s hs).1, (h.past s hs).2⟩, hno, fun s hs => ?_, by rw [List.length_set]; exact h.nlen, fun k hk => ?_⟩
  · have e' : k = b := e
    rw [e'] at hk
    exact (h.sep b hk).2.2.1 hna
  · have e' : k = b := e
    rw [e'] at hk
    exact (o1 b hk).2.1 hna
  · exact (o2 b hna).2.1 s hs (show b = s.pb from e.symm)
  · rcases hmem s hs with h1 | rfl
    · exact ⟨row_alike2 (h.seen s h1).own ha (fun k hk e => by
        have e' : k = b := e
        rw [e'] at hk
        exact hoff (h.seen s h1) hk)⟩
    · exact ⟨row_alike2 ht.own ha (fun k hk e => by
        have e' : k = b := e
        rw [e'] at hk
        exact hoff ht hk)⟩
  · have h1 := h.sep k hk
    refine ⟨h1.1, h1.2.1, h1.2.2.1, h1.2.2.2.1, fun s hs => ?_⟩
    rcases hmem s hs with h2 | rfl
    · exact h1.2.2.2.2 s h2
    · exact hF k hk
theorem Circ.lowB {w y : World} {rb : Nat} {g : Gr} {x : MNet} {sd : List Sd} {sn : List Sn} {C : CLay} (h : Circ w rb g x sd sn C) {B : Nat} (hb : Below B w y) (hF : ∀ k, C.foot rb sd sn k → k < B) : Circ y rb g x sd sn C := by
  have ha : Alike w y (fun k => B ≤ k) := ⟨hb.size, fun k _ hE => hb.block k (by omega), hb.os, hb.tape, hb.output⟩
  refine h.rest (E := fun k => B ≤ k) ha (fun k hk hE => ?_) rfl (h.net.alike ha (fun k hk hE => ?_)) h.sep
  · have := hF k (by
      rcases hk with h | h | h | h | h
      · exact Or.inl h
      · exact Or.inr (Or.inr (Or.inl h))
      · exact Or.inr (Or.inr (Or.inr (Or.inl h)))
      · exact Or.inr (Or.inr (Or.inr (Or.inr (Or.inl h))))
      · exact Or.inr (Or.inr (Or.inr (Or.inr (Or.inr h)))))
    omega
  · have := hF k (Or.inr (Or.inl hk))
    omega
set_option maxRecDepth 100000 in
set_option maxHeartbeats 1000000 in
theorem caused_any (A : Nat → Addr) (base z rb : Nat) (g : Gr) (x : MNet) (sd : List Sd) (sn : List Sn) (p : Nat) (sp : Sn) (hg : g.Ok) (hx : x.Ok g) (hp : p < g.n) (hln : sd.length ≤ 10000000) (hsp : sn[p]? = some sp) (hpre : ∀ (i : Nat) t, sp.ws[i]? = some t → (x.nd p).hs[i]? = some t) (hok : CausedOk g.n sd (x.nd p).hs) (w : World) (hw : Sl w A base) (h : CircZ z w rb g x sd sn) :
    Calls Tryz.prog 42 #[.pointer (some ⟨rb, 0, none⟩), .int .i64 p] w fun e w' => e = .returned (.bool true) ∧ (∃ ad cap, CircZ z w' rb g x sd (sn.set p ⟨ad, cap, (x.nd p).hs⟩)) ∧ Below z w w' := by
  obtain ⟨C, hC, hCz⟩ := h.how
  have hin : isNode g.n p = true := decide_eq_true ⟨by omega, by omega⟩
  have hRe : x.heardR g p = ⟨(x.nd p).hs, 0⟩ := by
    unfold MNet.heardR
    rw [if_pos hin]
    rfl
  have HH : Hid _ := netHeard A base C.fb g x C.Fx p hg hx w hw hC.net
  have c4 := hC.c4
  have HC : Hid _ := hC
  have HCz : Hid _ := hCz
  have hlnh := (hx.nd p hp).clk.short hg hp
  have hn8 := hg.n.2
  have hpl : sp.ws.length ≤ (x.nd p).hs.length := by
    rcases Nat.lt_or_ge (x.nd p).hs.length sp.ws.length with h1 | h1
    · have h2 := hpre (x.nd p).hs.length _ (List.getElem?_eq_getElem h1)
      rw [List.getElem?_eq_none (Nat.le_refl _)] at h2
      cases h2
    · exact h1
  rw [hRe] at HH
  generalize (x.nd p).hs = hs at *
  have HPre : Hid _ := hpre
  have HOk : Hid _ := hok
  have HSp : Hid _ := hsp
  clear h hx hw hin hRe hC hCz hpre hok hsp
  have hpi : (p : Int) < (g.n : Int) := by omega
  have hpn : p < sn.length := by rw [HC.out.nlen]; exact hp
  have hpni : (p : Int) < (sn.length : Int) := by omega
  go_enter Tryz.func42, Tryz.ntmps42
  go_wp2_with fail
  refine (show Calls _ _ _ _ _ from HH.out).mono ?_
  rintro e w1 ⟨⟨v, rfl, hv⟩, hb1⟩
  have HV : Hid _ := hv
  have HB1 : Hid _ := hb1
  obtain ⟨av, cv, hsh⟩ := rowShaped hv.own
  subst hsh
  have HC1 : Hid _ := HC.out.low hb1
  obtain ⟨nb, hna, t6, _⟩ := HC1.out.nget HSp.out
  have d6 := HC1.out.c6
  rw [hna] at d6
  have HNA : Hid _ := hna
  clear hv hb1 HH c4 hna
  go_wp2_with fail
  have hrz : rb < w1.heap.size := lt_of_cell d6
  have HSe : Hid (Wrd w1 0 (.slice sp.ad sp.ws.length sp.cap) sp.ws) := HC1.out.seen sp (List.mem_of_getElem? HSp.out)
  go_loopw [7] (fun c wr => ∃ k : Nat, k ≤ sp.ws.length ∧ c = .int .i64 k ∧ Below w1.heap.size w1 wr) (fun c _ => sp.ws.length - (intOf c).toNat)
  case atStart => exact ⟨0, Nat.zero_le _, rfl, Below.refl _ _⟩
  case round =>
    obtain ⟨k, hkn, rfl, hb⟩ := hrel
    have HB : Hid _ := hb
    have e6 := (HB.out.cell (p := ⟨rb, 6, none⟩) hrz).trans d6
    have u6 := (HB.out.cell (p := ⟨nb, p, none⟩) (lt_of_cell t6)).trans t6
    clear hb
    by_cases hlt : k < sp.ws.length
    · have hki : (k : Int) < (sp.ws.length : Int) := by omega
      have hki2 : (k : Int) < (hs.length : Int) := by omega
      obtain ⟨t, ht⟩ : ∃ t, sp.ws[k]? = some t := ⟨sp.ws[k], List.getElem?_eq_getElem _⟩
      have ht2 := HPre.out k t ht
      obtain ⟨ga, hga, _, a0, a1, a2⟩ := HSe.out.get ht
      obtain ⟨gb, hgb, _, b0, b1, b2⟩ := HV.out.get ht2
      have a0' := (HB.out.cell (p := ⟨ga, k * 3, none⟩) (lt_of_cell a0)).trans a0
      have a1' := (HB.out.cell (p := ⟨ga, k * 3 + 1, none⟩) (lt_of_cell a0)).trans a1
      have a2' := (HB.out.cell (p := ⟨ga, k * 3 + 2, none⟩) (lt_of_cell a0)).trans a2
      have b0' := (HB.out.cell (p := ⟨gb, k * 3, none⟩) (lt_of_cell b0)).trans b0
      have b1' := (HB.out.cell (p := ⟨gb, k * 3 + 1, none⟩) (lt_of_cell b0)).trans b1
      have b2' := (HB.out.cell (p := ⟨gb, k * 3 + 2, none⟩) (lt_of_cell b0)).trans b2
      subst hgb
      rw [hga] at u6
      obtain ⟨to, tq, tb⟩ := t
      simp only at a0' a1' a2' b0' b1' b2'
      clear ht ht2 a0 a1 a2 b0 b1 b2 hga
      go_wp2_with fail
      go_quiet (fail)
      go_wp2_with fail
      go_roundw
      case rel => exact ⟨k + 1, by omega, by go_num, by first | exact HB.out | exact HB.out.drew | exact below_drewN HB.out _⟩
      case measure => simp [intOf]; omega
    · have hkn' : k = sp.ws.length := by omega
      subst hkn'
      have HC2 : Hid _ := HC1.out.low HB.out
      have HV2 : Hid (∀ {i : Nat} {t : Wd}, hs[i]? = some t → ∃ gb, av = some ⟨gb, 0, none⟩ ∧ gb < w1.heap.size ∧ wr.cell? ⟨gb, i * 3, none⟩ = some (.int .i64 t.org) ∧ wr.cell? ⟨gb, i * 3 + 1, none⟩ = some (.int .i64 t.seq) ∧ wr.cell? ⟨gb, i * 3 + 2, none⟩ = some (.string t.body)) := fun {i t} hit => by
        obtain ⟨gb, hgb, _, b0, b1, b2⟩ := HV.out.get hit
        exact ⟨gb, hgb, lt_of_cell b0, (HB.out.cell (p := ⟨gb, i * 3, none⟩) (lt_of_cell b0)).trans b0, (HB.out.cell (p := ⟨gb, i * 3 + 1, none⟩) (lt_of_cell b0)).trans b1, (HB.out.cell (p := ⟨gb, i * 3 + 2, none⟩) (lt_of_cell b0)).trans b2⟩
      have z0 := HC2.out.c0
      have hzz := HB.out.size
      obtain ⟨j0, hj, hy0, hy1, hy2⟩ := info_parts Tryz.infoInt
      go_wp2_with (at_make; refine wpList_make_full _ rfl (.tmp 67) (.tmp 67) 34 rfl wr.heap.size 3 j0 (.int .i64 0) 1 Tryz.underlying34 hj hy0 hy1 .i64 .i64 _ _ g.n rfl rfl ?m1 ?m2 ?m3 ?m4 ?m5 ?_)
      case m1 => rfl
      case m2 => rfl
      case m3 => rw [hy2]; omega
      case m4 => unfold maxLen; omega
      case m5 => exact Nat.le_refl _
      intro w2 hown1 hgrow1
      rw [made_ints] at hown1
      have HR1 : Hid (RowI w2 wr.heap.size (cnts g.n (hs.take 0))) := by
        show RowI _ _ _
        rw [List.take_zero, cnts_nil]
        simpa using row_of_owns hown1
      have HB2 : Hid (Below wr.heap.size wr w2) := (Below.refl _ _).grown hgrow1 (Nat.le_refl _) (fun k hk => by cases hk)
      have HLt : Hid (w1.heap.size ≤ wr.heap.size) := hzz
      clear hown1 hgrow1 z0 hzz e6 u6 d6 t6
      have HC3 : Hid _ := HC2.out.low HB2.out
      have HV3 : Hid (∀ {i : Nat} {t : Wd}, hs[i]? = some t → ∃ gb, av = some ⟨gb, 0, none⟩ ∧ gb < wr.heap.size ∧ w2.cell? ⟨gb, i * 3, none⟩ = some (.int .i64 t.org) ∧ w2.cell? ⟨gb, i * 3 + 1, none⟩ = some (.int .i64 t.seq) ∧ w2.cell? ⟨gb, i * 3 + 2, none⟩ = some (.string t.body)) := fun {i t} hit => by
        obtain ⟨gb, hgb, hlb, b0, b1, b2⟩ := HV2.out hit
        exact ⟨gb, hgb, Nat.lt_of_lt_of_le hlb HLt.out, (HB2.out.cell (p := ⟨gb, i * 3, none⟩) (lt_of_cell b0)).trans b0, (HB2.out.cell (p := ⟨gb, i * 3 + 1, none⟩) (lt_of_cell b0)).trans b1, (HB2.out.cell (p := ⟨gb, i * 3 + 2, none⟩) (lt_of_cell b0)).trans b2⟩
      have HLz : Hid (∀ k, C.foot rb sd sn k → k < wr.heap.size) := fun k hk => HC2.out.lt hk
      have HBz : Hid (Below w.heap.size w wr) := bthen HB1.out HB.out
      have HVW : Hid (Wrd w2 w.heap.size (.slice av hs.length cv) hs) := (HV.out.low HB.out).low HB2.out
      have HVl : Hid (∀ k, onB av k → k < wr.heap.size) := fun k hk => by
        obtain ⟨cur, e⟩ := row_block ((HV.out.low HB.out).mono (Nat.zero_le _)).own hk
        exact lt_of_some e
      have HZw : Hid (z ≤ w.heap.size) := (CircZ.mk ⟨C, HC.out, HCz.out⟩ : CircZ z w rb g x sd sn).le
      have HZb : Hid (w.heap.size ≤ wr.heap.size) := HBz.out.size
      have HB2z : Hid (Below w.heap.size w w2) := HBz.out.trans (HB2.out.mono HBz.out.size)
      clear HC2 HV2 HB HB1 HC1 HSe HV hrz
      generalize wr.heap.size = b0 at *
      go_wp2_with fail
      go_loopw [9] (fun c wq => ∃ k : Nat, k ≤ hs.length ∧ c = .int .i64 k ∧ RowI wq b0 (cnts g.n (hs.take k)) ∧ Below b0 w2 wq) (fun c _ => hs.length - (intOf c).toNat)
      case atStart => exact ⟨0, Nat.zero_le _, rfl, HR1.out, Below.refl _ _⟩
      case round =>
        obtain ⟨k, hkn, rfl, hr, hb⟩ := hrel
        have HR : Hid _ := hr
        have HB : Hid _ := hb
        have HCq : Hid _ := HC3.out.lowB hb HLz.out
        clear hr hb
        by_cases hlt : k < hs.length
        · have hki : (k : Int) < (hs.length : Int) := by omega
          obtain ⟨t, ht⟩ : ∃ t, hs[k]? = some t := ⟨hs[k], List.getElem?_eq_getElem _⟩
          obtain ⟨gb, rfl, hlb, q0, q1, q2⟩ := HV3.out ht
          have q0' := (HB.out.cell (p := ⟨gb, k * 3, none⟩) hlb).trans q0
          have q1' := (HB.out.cell (p := ⟨gb, k * 3 + 1, none⟩) hlb).trans q1
          have q2' := (HB.out.cell (p := ⟨gb, k * 3 + 2, none⟩) hlb).trans q2
          obtain ⟨⟨o, hto, hon, hts⟩, hex, hal⟩ := HOk.out k t ht
          have HEx : Hid _ := hex
          have HAl : Hid _ := hal
          have HTk : Hid (cnts g.n (hs.take (k + 1)) = (cnts g.n (hs.take k)).set o ((cntW (hs.take k) o : Int) + 1)) := by
            show _ = _
            rw [List.take_add_one, ht, ← cnts_get (n := g.n) hon]
            exact cnts_more hto
          have HCs : Hid (∀ q, q < g.n → (cnts g.n (hs.take k)).getD q 0 = (cntW (hs.take k) q : Int)) := fun q hq => cnts_get hq
          have HCl : Hid ((cnts g.n (hs.take k)).length = g.n) := cnts_length _ _
          have hbd : cntW (hs.take k) o ≤ hs.length := Nat.le_trans List.countP_le_length (by rw [List.length_take]; omega)
          obtain ⟨to, tq, tb⟩ := t
          simp only at q0' q1' q2' hto hts
          subst hto hts
          have hwr : IntKind.i64.wrap ((cntW (hs.take k) o : Int) + 1) = (cntW (hs.take k) o : Int) + 1 := by rw [IntKind.wrap_i64]; omega
          have hc := RowI.cell HR.out (j := o) (by rw [HCl.out]; exact hon)
          have hf := RowI.free HR.out o
          rw [HCs.out o hon] at hc
          have HWd : Hid (∀ y, Below b0 w2 y → Calls Tryz.prog 48 #[.pointer (some ⟨rb, 0, none⟩), .int .i64 (o : Int), .int .i64 ((cntW (hs.take k) o : Int) + 1)] y fun e w' => (∃ r, e = .returned (.int .i64 r) ∧ WordAt sd o ((cntW (hs.take k) o : Int) + 1) r) ∧ Below y.heap.size y w') := fun y hy => word_any rb g x sd sn C o _ hln y (HC3.out.lowB hy HLz.out)
          have HQ : Hid (w2.cell? ⟨gb, k * 3, none⟩ = some (.int .i64 (o : Int)) ∧ w2.cell? ⟨gb, k * 3 + 1, none⟩ = some (.int .i64 ((cntW (hs.take k) o : Int) + 1)) ∧ w2.cell? ⟨gb, k * 3 + 2, none⟩ = some (.string tb)) := ⟨q0, q1, q2⟩
          clear ht q0 q1 q2 hex hal
          generalize hyy : cntW (hs.take k) o = yy at *
          generalize cnts g.n (hs.take k) = cs at *
          have hoi : (o : Int) < (g.n : Int) := by omega
          go_wp2_with fail
          go_region_held3 (fun v => v.cell? ⟨gb, k * 3, none⟩ = some (.int .i64 (o : Int)) ∧ v.cell? ⟨gb, k * 3 + 1, none⟩ = some (.int .i64 ((yy : Int) + 1))) (first | (exact ⟨q0', q1'⟩) | (exact HK4.out) | go_keep) (first | (go_at_call 48; refine (show Calls _ _ _ _ _ from HWd.out _ HB.out.drew).mono ?_; rintro e w4 ⟨⟨r, rfl, hW⟩, hb4⟩; have HB4 : Hid (Below b0 w2 w4) := HB.out.drew.trans (hb4.mono (Nat.le_of_lt (RowI.lt HR.out))); have HR4 : Hid (RowI w4 b0 cs) := RowI.below (w := wr.drew) HR.out hb4 (RowI.lt HR.out); have HK4 : Hid (w4.cell? ⟨gb, k * 3, none⟩ = some (.int .i64 (o : Int)) ∧ w4.cell? ⟨gb, k * 3 + 1, none⟩ = some (.int .i64 ((yy : Int) + 1))) := ⟨(HB4.out.cell (p := ⟨gb, k * 3, none⟩) hlb).trans HQ.out.1, (HB4.out.cell (p := ⟨gb, k * 3 + 1, none⟩) hlb).trans HQ.out.2.1⟩; have HW4 : Hid _ := hW; clear hb4 hW))
          clear q0' q1' q2' hc hf
          rename_i hHeld
          clear hHeld
          obtain ⟨q0', q1'⟩ := HK4.out
          have q2' := (HB4.out.cell (p := ⟨gb, k * 3 + 2, none⟩) hlb).trans HQ.out.2.2
          have HC4 : Hid _ := HC3.out.lowB HB4.out HLz.out
          have hc := RowI.cell HR4.out (j := o) (by rw [HCl.out]; exact hon)
          rw [HCs.out o hon, hyy] at hc
          obtain ⟨i, s, hri, hsi, hso, hsq⟩ : ∃ (i : Nat) (s : Sd), r = i ∧ sd[i]? = some s ∧ s.org = (o : Int) ∧ s.seq = (yy : Int) + 1 := by
            rcases HW4.out with h | ⟨_, h⟩
            · exact h
            · obtain ⟨s, hs1, hs2, hs3⟩ := HEx.out
              exact absurd ⟨hs2, hs3⟩ (h s hs1)
          subst hri
          obtain ⟨hbo, hpa⟩ := HAl.out s (List.mem_of_getElem? hsi) hso hsq
          have HPa : Hid _ := hpa
          obtain ⟨sb, hsa, s0, s1, s2, s3⟩ := HC4.out.sget hsi
          have c5 := HC4.out.c5
          rw [hsa] at c5
          rw [hbo] at s2
          have hil : i < sd.length := (List.getElem?_eq_some_iff.1 hsi).1
          have hili : (i : Int) < (sd.length : Int) := by omega
          have HPs : Hid _ := HC4.out.past s (List.mem_of_getElem? hsi)
          have hpl2 := HPs.out.2
          have HSi : Hid _ := hsi
          clear hbo hpa hsi hsa HEx HAl HW4 s0 s1 hso hsq
          go_wp2_with fail
          go_quiet (fail)
          go_wp2_with fail
          clear hc
          have hpl3 : ∀ q, q < g.n → q < s.past.length := fun q hq => by rw [hpl2]; exact hq
          have HP3 : Hid _ := hpl3
          have c0 := HC4.out.c0
          clear hpl3 hpl2 q0' q1' q2' s2
          have hrz4 : rb < w4.heap.size := lt_of_cell c0
          go_loopw [11] (fun c wq => ∃ q : Nat, q ≤ g.n ∧ c = .int .i64 q ∧ Below w4.heap.size w4 wq) (fun c _ => g.n - (intOf c).toNat)
          case atStart => exact ⟨0, Nat.zero_le _, rfl, by first | exact below_drewN (Below.refl _ _) _ | exact Below.refl _ _⟩
          case round =>
            obtain ⟨q, hqn, rfl, hb⟩ := hrel
            have HBq : Hid _ := hb
            have d0 := (HBq.out.cell (p := ⟨rb, 0, none⟩) hrz4).trans c0
            clear hb
            by_cases hqlt : q < g.n
            · have hqi : (q : Int) < (g.n : Int) := by omega
              have d5 := (HBq.out.cell (p := ⟨rb, 5, none⟩) hrz4).trans c5
              have e3 := (HBq.out.cell (p := ⟨sb, i * 4 + 3, none⟩) (lt_of_cell s3)).trans s3
              have f0 := RowI.cell (RowI.below HPs.out.1 HBq.out (RowI.lt HPs.out.1)) (j := q) (HP3.out q hqlt)
              have f1 := RowI.cell (RowI.below HR4.out HBq.out (RowI.lt HR4.out)) (j := q) (by rw [HCl.out]; exact hqlt)
              rw [HCs.out q hqlt] at f1
              have hle := HPa.out q hqlt
              generalize s.past.getD q 0 = pv at *
              generalize cntW (hs.take k) q = cv2 at *
              have hnl : ¬ (cv2 : Int) < pv := by omega
              go_wp2_with fail
              go_quiet (fail)
              go_wp2_with fail
              go_roundw
              case rel => exact ⟨q + 1, by omega, by go_num, by first | exact HBq.out | exact HBq.out.drew | exact below_drewN HBq.out _⟩
              case measure => simp [intOf]; omega
            · have hqn' : q = g.n := by omega
              subst hqn'
              have q0' := (HBq.out.cell (p := ⟨gb, k * 3, none⟩) (lt_of_cell HK4.out.1)).trans HK4.out.1
              have q1' := (HBq.out.cell (p := ⟨gb, k * 3 + 1, none⟩) (lt_of_cell HK4.out.1)).trans HK4.out.2
              have HR5 : Hid _ := RowI.below HR4.out HBq.out (RowI.lt HR4.out)
              have hf := RowI.free HR5.out o
              have hc := RowI.cell HR5.out (j := o) (by rw [HCl.out]; exact hon)
              have HB5 : Hid (Below b0 w2 wr) := HB4.out.trans (HBq.out.mono (Nat.le_of_lt (RowI.lt HR4.out)))
              have HS : Hid (RowI (wr.setCell ⟨b0, o, none⟩ (.int .i64 ((yy : Int) + 1))) b0 (cnts g.n (hs.take (k + 1)))) := by
                show RowI _ _ _
                rw [HTk.out]
                exact RowI.set HR5.out o ((yy : Int) + 1)
              have HBS : Hid (Below b0 w2 (wr.setCell ⟨b0, o, none⟩ (.int .i64 ((yy : Int) + 1)))) := HB5.out.setCell (p := ⟨b0, o, none⟩) (Nat.le_refl _) _
              go_wp2_with fail
              go_region
              go_wp2_with fail
              go_roundw
              case rel => exact ⟨k + 1, by omega, by go_num, HS.out, by first | exact HBS.out | exact HBS.out.drew | exact below_drewN HBS.out _⟩
              case measure => simp [intOf]; omega
        · have hkn' : k = hs.length := by omega
          subst hkn'
          have d6 := HCq.out.c6
          rw [HNA.out] at d6
          obtain ⟨nb', hna', _, hfz⟩ := HCq.out.nget HSp.out
          obtain rfl : nb' = nb := by rw [HNA.out] at hna'; cases hna'; rfl
          clear hna'
          have HVq : Hid (Wrd wr 0 (.slice av hs.length cv) hs) := by
            have h1 := (HVW.out.mono (Nat.zero_le _)).own
            exact ⟨row_alike2 h1 (E := fun k => b0 ≤ k) ⟨HB.out.size, fun k _ hE => HB.out.block k (by omega), HB.out.os, HB.out.tape, HB.out.output⟩ (fun k hk hE => by have := HVl.out k hk; omega)⟩
          have HL : Hid _ := HCq.out.look (p := p) HNA.out (t := ⟨av, cv, hs⟩) HVq.out (fun k hk hc => by
            have h1 := HC.out.lt (Or.inr (Or.inl hk))
            have h2 := row_base HVW.out.own hc
            omega)
          go_wp2_with fail
          go_ret
          refine ⟨rfl, ⟨av, cv, C, HL.out, fun k hk => ?_⟩, ?_⟩
          · rcases hk with h | h | h | h | h | ⟨s, h, hk⟩
            · exact HCz.out k (Or.inl h)
            · exact HCz.out k (Or.inr (Or.inl h))
            · exact HCz.out k (Or.inr (Or.inr (Or.inl h)))
            · exact HCz.out k (Or.inr (Or.inr (Or.inr (Or.inl h))))
            · exact HCz.out k (Or.inr (Or.inr (Or.inr (Or.inr (Or.inl h)))))
            · rcases List.mem_or_eq_of_mem_set h with h | rfl
              · exact HCz.out k (Or.inr (Or.inr (Or.inr (Or.inr (Or.inr ⟨s, h, hk⟩)))))
              · have h2 := row_base HVW.out.own hk
                have := HZw.out
                omega
          · have hz := HZw.out
            have hzb := HZb.out
            have h1 : Below z w wr := (HB2z.out.mono hz).trans (HB.out.mono (by omega))
            exact h1.setCell (p := ⟨nb', p, none⟩) (HCz.out nb' (Or.inr (Or.inr (Or.inr (Or.inl ⟨0, HNA.out⟩))))) _
end Go.Proofs.YtabecbjfamphbaaGreatDoor
