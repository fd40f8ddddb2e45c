/-
  Texts that the proofs of this seat share, joined: Sb.
-/
import Derived.Test.YtabecbjfamphbaaGreatDoorCar01
/- hearsaykeep: freed, the walk. -/
namespace Go.Proofs.YtabecbjfamphbaaGreatDoor
open Go.RowKit Go.Stop Go.Extern

/-- Words that lie in memory, read at a later world. -/
def Lies (w : World) (z : Nat) (ad : Option Addr) (ws : List Wd) : Prop := ∀ (i : Nat) (t : Wd), ws[i]? = some t → ∃ gb, ad = some ⟨gb, 0, none⟩ ∧ gb < z ∧ w.cell? ⟨gb, i * 3, none⟩ = some (.int .i64 t.org) ∧ w.cell? ⟨gb, i * 3 + 1, none⟩ = some (.int .i64 t.seq) ∧ w.cell? ⟨gb, i * 3 + 2, none⟩ = some (.string t.body)
theorem Wrd.lies {w y : World} {base : Nat} {ad : Option Addr} {len cap : Nat} {ws : List Wd} (h : Wrd w base (.slice ad len cap) ws) (hb : Below w.heap.size w y) : Lies y w.heap.size ad ws := fun i t hi => by
  obtain ⟨gb, hgb, _, b0, b1, b2⟩ := h.get hi
  exact ⟨gb, hgb, lt_of_cell b0, (hb.cell (p := ⟨gb, i * 3, none⟩) (lt_of_cell b0)).trans b0, (hb.cell (p := ⟨gb, i * 3 + 1, none⟩) (lt_of_cell b0)).trans b1, (hb.cell (p := ⟨gb, i * 3 + 2, none⟩) (lt_of_cell b0)).trans b2⟩
theorem kept_few {g : Gr} {p : Nat} {s : NS} (h : s.Ok g p) (hg : g.Ok) : s.kept.length ≤ 64 := by
  unfold NS.kept
  rw [List.length_map]
  exact h.short hg
theorem kept_org {g : Gr} {p : Nat} {s : NS} (h : s.Ok g p) : ∀ t ∈ s.kept, ∃ o : Nat, t.org = o ∧ o < g.n := fun t ht => by
  obtain ⟨f, hf, rfl⟩ := List.mem_map.1 ht
  exact (h.st f hf).org
set_option maxRecDepth 100000 in
set_option maxHeartbeats 2000000 in
theorem freed_any (A : Nat → Addr) (base z rb : Nat) (g : Gr) (x : MNet) (sd : List Sd) (sn : List Sn) (p : Nat) (hg : g.Ok) (hx : x.Ok g) (hp : p < g.n) (hln : sd.length ≤ 10000000) (hok : FreedOk g x sd p) (w : World) (hw : Sl w A base) (h : CircZ z w rb g x sd sn) :
    Calls Tryz.prog 23 #[.pointer (some ⟨rb, 0, none⟩), .int .i64 p] w fun e w' => e = .returned (.bool true) ∧ Below w.heap.size w w' := by
  have HHd : Hid (∀ y q, q < g.n → Below w.heap.size w y → Calls Tryz.prog 26 #[.pointer (some ⟨rb, 0, none⟩), .int .i64 ((q : Nat) : Int)] y fun e w' => (∃ c, e = .returned (.tuple #[.slice (some ⟨c, 0, none⟩) g.n g.n, .bool true]) ∧ y.heap.size ≤ c ∧ RowI w' c (cnts g.n (x.nd q).hs)) ∧ Below y.heap.size y w') := fun y q hq hy => heard_any A base z rb g x sd sn q hg hx hq y (hw.low hy) (h.low hy)
  obtain ⟨C, hC, _⟩ := h.how
  have HC : Hid (Circ w rb g x sd sn C) := hC
  have HHr : Hid _ := netHeard A base C.fb g x C.Fx p hg hx w hw hC.net
  rw [heard_net hp] at HHr
  have HSt : Hid (∀ y, Below w.heap.size w y → Calls Tryz.prog 31 #[.pointer (some ⟨C.fb, 0, none⟩), .int .i64 (p : Int)] y fun e w' => (∃ v, e = .returned (.tuple #[v, .int .i64 0]) ∧ Wrd w' y.heap.size v (x.nd p).kept) ∧ Below y.heap.size y w') := fun y hy => by
    have h1 := netStore A base C.fb g x C.Fx p hg hx y (hw.low hy) (hC.net.low hy)
    rw [store_net hp] at h1
    exact h1
  have HCnt : Hid (∀ q, q < g.n → ∀ o, o < g.n → (cnts g.n (x.nd q).hs).getD o 0 = (cntW (x.nd q).hs o : Int)) := fun q _ o ho => cnts_get ho
  have HOk : Hid _ := hok
  have hlh := (hx.nd p hp).clk.short hg hp
  have hlk := kept_few (hx.nd p hp) hg
  have HOr : Hid _ := kept_org (hx.nd p hp)
  have hn8 := hg.n.2
  have c4 := hC.c4
  clear hok h hx hw hC
  go_enter Tryz.func23, Tryz.ntmps23
  go_wp2_with fail
  refine (show Calls _ _ _ _ _ from HHr.out).mono ?_
  rintro e w1 ⟨⟨v1, rfl, hv1⟩, hb1⟩
  obtain ⟨ah, ch, hsh⟩ := rowShaped hv1.own
  subst hsh
  have HV1 : Hid _ := hv1
  have HB1 : Hid (Below w.heap.size w w1) := hb1
  have c4' := (HC.out.low hb1).c4
  clear hv1 hb1 c4
  go_wp2_with fail
  refine (show Calls _ _ _ _ _ from HSt.out w1 HB1.out).mono ?_
  rintro e w2 ⟨⟨v2, rfl, hv2⟩, hb2⟩
  obtain ⟨al, cl, hsh⟩ := rowShaped hv2.own
  subst hsh
  have HVh : Hid (Wrd w2 w.heap.size (.slice ah (x.nd p).hs.length ch) (x.nd p).hs) := HV1.out.low hb2
  have HVl : Hid (Wrd w2 w1.heap.size (.slice al (x.nd p).kept.length cl) (x.nd p).kept) := hv2
  have HB2 : Hid (Below w.heap.size w w2) := bthen HB1.out hb2
  have HC2 : Hid (Circ w2 rb g x sd sn C) := HC.out.low HB2.out
  clear hv2 hb2 HV1 HB1 c4' HSt HHr
  generalize hhs : (x.nd p).hs = hs at *
  generalize hks : (x.nd p).kept = ks at *
  go_wp2_with fail
  go_loopw [9] (fun c wr => ∃ k : Nat, k ≤ sd.length ∧ c = .int .i64 k ∧ Below w2.heap.size w2 wr) (fun c _ => sd.length - (intOf c).toNat)
  case atStart => exact ⟨0, Nat.zero_le _, rfl, Below.refl _ _⟩
  case round =>
    obtain ⟨k, hkn, rfl, hb⟩ := hrel
    have HB : Hid (Below w2.heap.size w2 wr) := hb
    have HCr : Hid _ := HC2.out.low hb
    have c5 := HCr.out.c5
    clear hb
    by_cases hlt : k < sd.length
    · have hki : (k : Int) < (sd.length : Int) := by omega
      obtain ⟨s, hs1⟩ : ∃ s, sd[k]? = some s := ⟨sd[k], List.getElem?_eq_getElem _⟩
      have HS : Hid (s ∈ sd) := List.mem_of_getElem? hs1
      obtain ⟨sb, hsa, s0, s1, s2, s3⟩ := HCr.out.sget hs1
      rw [hsa] at c5
      have HSt : Hid (∀ y, Below w2.heap.size w2 y → Calls Tryz.prog 47 #[.slice ah hs.length ch, .agg #[.int .i64 s.org, .int .i64 s.seq, .string s.body, .slice (some ⟨s.pb, 0, none⟩) g.n g.n]] y fun e w' => (∃ r, e = .returned (.bool r) ∧ (r = true ↔ (⟨s.org, s.seq, s.body⟩ : Wd) ∈ hs)) ∧ Below y.heap.size y w') := fun y hy => stands_any w.heap.size ah ch hs s.org s.seq s.body (some ⟨s.pb, 0, none⟩) g.n g.n (by omega) y (HVh.out.low hy)
      have HSk : Hid (∀ y, Below w2.heap.size w2 y → Calls Tryz.prog 47 #[.slice al ks.length cl, .agg #[.int .i64 s.org, .int .i64 s.seq, .string s.body, .slice (some ⟨s.pb, 0, none⟩) g.n g.n]] y fun e w' => (∃ r, e = .returned (.bool r) ∧ (r = true ↔ (⟨s.org, s.seq, s.body⟩ : Wd) ∈ ks)) ∧ Below y.heap.size y w') := fun y hy => stands_any w1.heap.size al cl ks s.org s.seq s.body (some ⟨s.pb, 0, none⟩) g.n g.n (by omega) y (HVl.out.low hy)
      have HAl : Hid _ := HOk.out.all s HS.out
      rw [hhs, hks] at HAl
      obtain ⟨so, sq, sbd, pb, pst⟩ := s
      simp only at s0 s1 s2 s3 HSt HSk HAl
      clear hs1 hsa
      have HX : Hid _ := below1 wr (.cells #[.int .i64 so, .int .i64 sq, .string sbd, .slice (some ⟨pb, 0, none⟩) g.n g.n] 93)
      have HBx : Hid (∀ (y : World), Below (wr.alloc (.cells #[.int .i64 so, .int .i64 sq, .string sbd, .slice (some ⟨pb, 0, none⟩) g.n g.n] 93)).heap.size (wr.alloc (.cells #[.int .i64 so, .int .i64 sq, .string sbd, .slice (some ⟨pb, 0, none⟩) g.n g.n] 93)) y → y.cell? ⟨wr.heap.size, 0, none⟩ = some (.int .i64 so) ∧ y.cell? ⟨wr.heap.size, 1, none⟩ = some (.int .i64 sq) ∧ y.cell? ⟨wr.heap.size, 2, none⟩ = some (.string sbd) ∧ y.cell? ⟨wr.heap.size, 3, none⟩ = some (.slice (some ⟨pb, 0, none⟩) g.n g.n)) := fun y hy => by
        have hz : wr.heap.size < (wr.alloc (.cells #[.int .i64 so, .int .i64 sq, .string sbd, .slice (some ⟨pb, 0, none⟩) g.n g.n] 93)).heap.size := by simp
        have e : ∀ i, y.cell? ⟨wr.heap.size, i, none⟩ = #[Value.int .i64 so, .int .i64 sq, .string sbd, .slice (some ⟨pb, 0, none⟩) g.n g.n][i]? := fun i => (hy.cell (p := ⟨wr.heap.size, i, none⟩) hz).trans (cell_of_row _ _ i _ _ (0, 0) (heap_alloc_new _ _))
        exact ⟨e 0, e 1, e 2, e 3⟩
      go_wp2_with fail
      generalize wr.alloc (.cells #[.int .i64 so, .int .i64 sq, .string sbd, .slice (some ⟨pb, 0, none⟩) g.n g.n] 93) = X at *
      have HBX : Hid (Below w2.heap.size w2 X) := bthen HB.out HX.out
      generalize wr.heap.size = bx at *
      refine (show Calls _ _ _ _ _ from HSt.out _ HBX.out).mono ?_
      rintro e w3 ⟨⟨r1, rfl, hr1⟩, hb3⟩
      have HB3 : Hid (Below w2.heap.size w2 w3) := bthen HBX.out hb3
      have HR1 : Hid _ := hr1
      obtain ⟨t0, t1, t2, t3⟩ := HBx.out w3 hb3
      have HX3 : Hid (Below X.heap.size X w3) := hb3
      clear hr1 hb3 s0 s1 s2 s3 c5
      go_wp2_with fail
      refine (show Calls _ _ _ _ _ from HSk.out _ HB3.out).mono ?_
      rintro e w4 ⟨⟨r2, rfl, hr2⟩, hb4⟩
      have HB4 : Hid (Below w2.heap.size w2 w4) := bthen HB3.out hb4
      have HR2 : Hid _ := hr2
      have HX4 : Hid (Below X.heap.size X w4) := bthen HX3.out hb4
      clear hr2 hb4 t0 t1 t2 t3
      go_wp2_with fail
      go_loopw [13] (fun c wq => ∃ q : Nat, q ≤ g.n ∧ c = .int .i64 q ∧ Below w2.heap.size w2 wq ∧ Below X.heap.size X wq) (fun c _ => g.n - (intOf c).toNat)
      case atStart => exact ⟨0, Nat.zero_le _, rfl, HB4.out, HX4.out⟩
      case round =>
        obtain ⟨q, hqn, rfl, hbq, hxq⟩ := hrel
        have HBq : Hid (Below w2.heap.size w2 wr) := hbq
        have HXq : Hid (Below X.heap.size X wr) := hxq
        have c0 := (HC2.out.low hbq).c0
        clear hbq hxq
        by_cases hq : q < g.n
        · have hqi : (q : Int) < (g.n : Int) := by omega
          cases r1 with
          | false =>
            go_wp2_with fail
            go_roundw
            case rel => exact ⟨k + 1, by omega, by go_num, HBq.out⟩
            case measure => simp [intOf]; omega
          | true =>
            cases r2 with
            | true =>
              go_wp2_with fail
              go_roundw
              case rel => exact ⟨k + 1, by omega, by go_num, HBq.out⟩
              case measure => simp [intOf]; omega
            | false =>
              obtain ⟨o, hso, hon, hle⟩ := HAl.out (HR1.out.1 rfl) (fun hc => by have := HR2.out.2 hc; cases this)
              subst hso
              have hleq := hle q hq
              clear hle
              go_wp2_with fail
              refine (show Calls _ _ _ _ _ from HHd.out _ q hq (bthen HB2.out HBq.out)).mono ?_
              rintro e w5 ⟨⟨cb, rfl, hcb, hrow⟩, hb5⟩
              have HB5 : Hid (Below w2.heap.size w2 w5) := bthen HBq.out hb5
              have HX5 : Hid (Below X.heap.size X w5) := bthen HXq.out hb5
              obtain ⟨t0, t1, t2, t3⟩ := HBx.out w5 HX5.out
              have hc := RowI.cell hrow (j := o) (by rw [cnts_length]; exact hon)
              rw [HCnt.out q hq o hon] at hc
              have hoi : (o : Int) < (g.n : Int) := by omega
              clear hb5 hrow hcb
              generalize cntW (x.nd q).hs o = cc at *
              have hnl : ¬ (cc : Int) < sq := by omega
              go_wp2_with fail
              go_quiet (fail)
              go_wp2_with fail
              go_roundw
              case rel => exact ⟨q + 1, by omega, by go_num, by first | exact HB5.out | exact HB5.out.drew | exact below_drewN HB5.out _, by first | exact HX5.out | exact HX5.out.drew | exact below_drewN HX5.out _⟩
              case measure => simp [intOf]; omega
        · have hqn' : q = g.n := by omega
          subst hqn'
          go_wp2_with fail
          go_roundw
          case rel => exact ⟨k + 1, by omega, by go_num, HBq.out⟩
          case measure => simp [intOf]; omega
    · have hkn' : k = sd.length := by omega
      subst hkn'
      have c0 := HCr.out.c0
      have HCn : Hid _ := counts_any rb g.n al cl w1.heap.size ks wr hn8 (by omega) HOr.out c0 (HVl.out.low HB.out)
      go_wp2_with fail
      refine (show Calls _ _ _ _ _ from HCn.out).mono ?_
      rintro e w3 ⟨⟨cb, rfl, hcb, hrow⟩, hb3⟩
      have HB3 : Hid (Below w2.heap.size w2 w3) := bthen HB.out hb3
      have HRow : Hid (RowI w3 cb (cnts g.n ks)) := hrow
      have HLs : Hid (∀ y, Below w3.heap.size w3 y → Lies y w2.heap.size al ks) := fun y hy => (HVl.out.lies (bthen HB3.out hy))
      have HC3 : Hid (∀ y, Below w3.heap.size w3 y → Circ y rb g x sd sn C) := fun y hy => HC2.out.low (bthen HB3.out hy)
      have HBz : Hid (∀ y, Below w3.heap.size w3 y → Below w.heap.size w y) := fun y hy => bthen HB2.out (bthen HB3.out hy)
      have HWd : Hid (∀ y, Below w3.heap.size w3 y → ∀ o q, Calls Tryz.prog 48 #[.pointer (some ⟨rb, 0, none⟩), .int .i64 o, .int .i64 q] y fun e w' => (∃ r, e = .returned (.int .i64 r) ∧ WordAt sd o q r) ∧ Below y.heap.size y w') := fun y hy o q => word_any rb g x sd sn C o q hln y (HC3.out y hy)
      have HSaid : Hid _ := HOk.out.said
      have HSort : Hid _ := HOk.out.sort
      rw [hks] at HSaid HSort
      have HZ2 : Hid (w2.heap.size ≤ w3.heap.size) := HB3.out.size
      clear hrow hb3 hcb HB c0 c5 HCr HCn
      go_wp2_with fail
      go_loopw [17] (fun c wq => ∃ k : Nat, k ≤ ks.length ∧ c = .int .i64 k ∧ Below w3.heap.size w3 wq) (fun c _ => ks.length - (intOf c).toNat)
      case atStart => exact ⟨0, Nat.zero_le _, rfl, Below.refl _ _⟩
      case round =>
        obtain ⟨k, hkn, rfl, hb⟩ := hrel
        have HB : Hid (Below w3.heap.size w3 wr) := hb
        clear hb
        by_cases hlt : k < ks.length
        · have hki : (k : Int) < (ks.length : Int) := by omega
          obtain ⟨t, ht⟩ : ∃ t, ks[k]? = some t := ⟨ks[k], List.getElem?_eq_getElem _⟩
          obtain ⟨⟨o, hto, hon, hwin⟩, hex, hal⟩ := HSaid.out k t ht
          have HEx : Hid _ := hex
          have HAl : Hid _ := hal
          have HT : Hid _ := ht
          obtain ⟨gb, rfl, hlb, q0, q1, q2⟩ := HLs.out wr HB.out k t ht
          obtain ⟨to, tq, tb⟩ := t
          simp only at q0 q1 q2 hto
          subst hto
          have HWk : Hid _ := fun y hy => HWd.out y hy (o : Int) tq
          clear ht hex hal
          have HQ : Hid (∀ y, Below w3.heap.size w3 y → y.cell? ⟨gb, k * 3, none⟩ = some (.int .i64 (o : Int)) ∧ y.cell? ⟨gb, k * 3 + 1, none⟩ = some (.int .i64 tq) ∧ y.cell? ⟨gb, k * 3 + 2, none⟩ = some (.string tb)) := fun y hy => by
            obtain ⟨gb', e, _, h0, h1, h2⟩ := HLs.out y hy k _ HT.out
            cases e
            exact ⟨h0, h1, h2⟩
          go_wp2_with fail
          go_region_held3 (fun v => v.cell? ⟨gb, k * 3, none⟩ = some (.int .i64 (o : Int)) ∧ v.cell? ⟨gb, k * 3 + 1, none⟩ = some (.int .i64 tq)) (first | (exact ⟨q0, q1⟩) | (exact HK4.out) | go_keep) (first | (go_at_call 48; refine (show Calls _ _ _ _ _ from HWk.out _ HB.out.drew).mono ?_; rintro e w4 ⟨⟨r, rfl, hW⟩, hb4⟩; have HB4 : Hid (Below w3.heap.size w3 w4) := bthen HB.out.drew hb4; have HK4 : Hid (w4.cell? ⟨gb, k * 3, none⟩ = some (.int .i64 (o : Int)) ∧ w4.cell? ⟨gb, k * 3 + 1, none⟩ = some (.int .i64 tq)) := ⟨(HQ.out w4 HB4.out).1, (HQ.out w4 HB4.out).2.1⟩; have HW4 : Hid _ := hW; clear hb4 hW))
          clear q0 q1 q2
          rename_i hHeld
          clear hHeld
          obtain ⟨q0, q1, q2⟩ := HQ.out w4 HB4.out
          obtain ⟨i, s, hri, hsi, hso, hsq⟩ : ∃ (i : Nat) (s : Sd), r = i ∧ sd[i]? = some s ∧ s.org = (o : Int) ∧ s.seq = tq := by
            rcases HW4.out with h | ⟨_, h⟩
            · exact h
            · obtain ⟨s, hs1, hs2, hs3⟩ := HEx.out
              exact absurd ⟨hs2, hs3⟩ (h s hs1)
          subst hri
          have hbo := HAl.out s (List.mem_of_getElem? hsi) hso hsq
          obtain ⟨sb, hsa, s0, s1, s2, s3⟩ := (HC3.out w4 HB4.out).sget hsi
          have c5 := (HC3.out w4 HB4.out).c5
          rw [hsa] at c5
          rw [hbo] at s2
          have c1 := (HC3.out w4 HB4.out).c1
          have hil : i < sd.length := (List.getElem?_eq_some_iff.1 hsi).1
          have hili : (i : Int) < (sd.length : Int) := by omega
          have hc := RowI.cell (RowI.below HRow.out HB4.out (RowI.lt HRow.out)) (j := o) (by rw [cnts_length]; exact hon)
          rw [cnts_get hon] at hc
          have hoi : (o : Int) < (g.n : Int) := by omega
          have hnw : ¬ g.W < (cntW ks o : Int) := by omega
          generalize cntW ks o = cc at *
          clear hsi hsa hbo HEx HAl HW4 s0 s1 s3
          go_wp2_with fail
          go_quiet (fail)
          go_wp2_with fail
          have HBd : Hid (Below w3.heap.size w3 w4.drew) := HB4.out.drew
          cases k with
          | zero =>
            go_quiet (fail)
            go_wp2_with fail
            go_roundw
            case rel => exact ⟨0 + 1, by omega, by go_num, by first | exact HB4.out | exact HB4.out.drew | exact below_drewN HB4.out _⟩
            case measure => simp [intOf]; omega
          | succ j =>
            obtain ⟨u, hu⟩ : ∃ u, ks[j]? = some u := ⟨ks[j], List.getElem?_eq_getElem (by omega)⟩
            have hbef := HSort.out j u _ hu HT.out
            obtain ⟨gb', e, _, p0, p1, p2⟩ := HLs.out _ HB4.out j u hu
            cases e
            obtain ⟨uo, uq, ub⟩ := u
            simp only at p0 p1 p2 hbef
            have hji : (j : Int) < (ks.length : Int) := by omega
            have hpos : (0 : Int) < ((j + 1 : Nat) : Int) := by omega
            rcases hbef with hlt2 | ⟨heq, hlt2⟩
            · have g1 : ¬ (o : Int) < uo := by omega
              have g2 : (uo == (o : Int)) = false := by simp; omega
              go_quiet (fail)
              go_wp2_with fail
              go_roundw
              case rel => exact ⟨j + 1 + 1, by omega, by go_num, by first | exact HB4.out | exact HB4.out.drew | exact below_drewN HB4.out _⟩
              case measure => simp [intOf]; omega
            · subst heq
              have g1 : ¬ tq ≤ uq := by omega
              go_quiet (fail)
              go_wp2_with fail
              go_roundw
              case rel => exact ⟨j + 1 + 1, by omega, by go_num, by first | exact HB4.out | exact HB4.out.drew | exact below_drewN HB4.out _⟩
              case measure => simp [intOf]; omega
        · have hkn' : k = ks.length := by omega
          subst hkn'
          go_wp2_with fail
          go_ret
          exact ⟨rfl, HBz.out _ HB.out⟩
end Go.Proofs.YtabecbjfamphbaaGreatDoor
