/-
  Texts that the proof needs, joined: He, Gv, Mf, Mg, Gn, Gm, Kc, Kd, Pick, Pc, Ps, Pt.
-/
import Derived.Test.YtabecbjfamphbaaGreatDoorT19
import Derived.Test.YtabecbjfamphbaaGreatDoorT08
import Derived.Test.YtabecbjfamphbaaGreatDoorT14
import Derived.Test.YtabecbjfamphbaaGreatDoorT03
import Derived.Deep.RegionHeld3
import Derived.BigRegion
import Derived.Test.YtabecbjfamphbaaGreatDoorT04
import Derived.Test.YtabecbjfamphbaaGreatDoorT18
/- The node's Hear. -/
namespace Go.Proofs.YtabecbjfamphbaaGreatDoor
open Go.RowKit Go.Stop Go.Extern

set_option maxRecDepth 100000 in
set_option maxHeartbeats 4000000 in
theorem nodeHear (A : Nat → Addr) (base b : Nat) (g : Gr) (p : Nat) (s : NS) (F : Nat → Prop) (t : ByteArray) (hg : g.Ok) (hp : p < g.n) (hs : s.Ok g p) (ht : t.size ≤ maxLen) (w : World) (hw : Sl w A base) (hF : ∀ k, F k → base ≤ k) (h : NodeAt w b g p s F) :
    Calls Tryz.prog 96 #[.pointer (some ⟨b, 0, none⟩), .string t] w fun e w' => ∃ v er, e = .returned (.tuple #[v, er]) ∧ IsErrA A er (s.hear g p t).k ∧ Did w w' b g p F (s.hear g p t).s v (s.hear g p t).ps := by
  obtain ⟨G, fs, hN, hst, hkf, hFt⟩ := h.how
  obtain ⟨c0, c1, c2, c3, c4, _, _⟩ := hN.nb
  have hn8 := hg.n.2
  have hsh := hs.short hg
  have HN : Hid _ := hN
  have HW : Hid _ := hw
  have HS : Hid _ := hs
  have HFt : Hid _ := hFt
  have HF : Hid _ := hF
  have HST : Hid _ := hst
  have HKF : Hid _ := hkf
  have HH : Hid _ := h
  clear hN hw hs hFt hF hst hkf h
  go_enter Tryz.func96, Tryz.ntmps96
  go_wp2_with fail
  refine (wireDecode_yes (A 1) (A 5) g.n g.W g.B g.L t w HW.out.sent hg.okG ht).mono ?_
  rintro e w1 ⟨⟨fv, v1, rfl, hfv, hv1, hbad, hgood⟩, hb1⟩
  have HB1 : Hid _ := hb1
  have HH1 : Hid _ := HH.out.low hb1
  have HN1 : Hid _ := HN.out.low hb1
  have HW1 : Hid _ := HW.out.low hb1
  clear c0 c1 c2 c3 c4
  have c4 := HN1.out.nb.c4
  cases hr : rAll g.n g.W g.B g.L t with
  | some x =>
    have HE : Hid (s.hear g p t = ⟨5, [], s⟩) := by show s.hear g p t = _; unfold NS.hear; rw [hr]
    rw [hr] at hv1
    have HV1 : Hid (IsErrA A v1 5) := isF_err hv1
    obtain ⟨ty, y, rfl⟩ := hv1.nil_iff.2 x rfl
    obtain ⟨_, _, _, _, _, _, _, _, _, rfl⟩ := hfv
    clear hv1 hbad hgood hb1
    go_wp2_with fail
    go_ret2
    refine ⟨_, _, rfl, ?_, ?_⟩
    · rw [HE.out]; exact HV1.out
    · rw [HE.out]; exact Did.none HH.out (bthen HB1.out (below1 _ _))
  | none =>
    rw [hr] at hv1
    obtain rfl := hv1.nil_iff.1 rfl
    clear hbad hv1
    obtain ⟨f, hfe, hvec, hnew, hcase⟩ : ∃ f : Fr, fv = Fr.agg g.n f ∧ VecAt w1 g.n f ∧ (∀ k, onB f.ad k → w.heap.size ≤ k) ∧ ((byt t 2 = 2 ∧ f.kind = 2 ∧ f.frm = byt t 4 ∧ f.vec = vecOf t 5 g.n) ∨ (byt t 2 = 1 ∧ f.kind = 1 ∧ f.frm = byt t 4 ∧ f.fm = dataOf g.n t)) := by
      rcases hgood hr with ⟨h2, ⟨gt, hgt, rfl, hrow⟩⟩ | ⟨h2, ⟨gt, hgt, rfl, hrow⟩⟩
      · refine ⟨⟨2, byt t 4, 0, 0, 0, some ⟨gt, 0, none⟩, g.n, vecOf t 5 g.n, ⟨#[]⟩⟩, rfl, ⟨?_, gt, _, rfl, hrow⟩, fun k ⟨off, e⟩ => (by cases e; exact hgt), Or.inl ⟨h2, rfl, rfl, rfl⟩⟩
        have hl : (vecOf t 5 g.n).length = g.n := vecOf_length _ _ _
        exact ⟨hl, fun i hi => ⟨gt, 0, rfl, hrow.lt, by rw [Nat.zero_add]; exact hrow.cell (by omega)⟩⟩
      · refine ⟨⟨1, byt t 4, byt t 5, val t 6 2, val t 8 2, some ⟨gt, 0, none⟩, g.n, vecOf t 10 g.n, t.extract (11 + 2 * g.n) (t.size - 4)⟩, rfl, ⟨?_, gt, _, rfl, hrow⟩, fun k ⟨off, e⟩ => (by cases e; exact hgt), Or.inr ⟨h2, rfl, rfl, rfl⟩⟩
        have hl : (vecOf t 10 g.n).length = g.n := vecOf_length _ _ _
        exact ⟨hl, fun i hi => ⟨gt, 0, rfl, hrow.lt, by rw [Nat.zero_add]; exact hrow.cell (by omega)⟩⟩
    subst hfe
    have HVec : Hid _ := hvec
    have HNew : Hid _ := hnew
    have HCase : Hid _ := hcase
    have HR : Hid _ := hr
    clear hvec hnew hcase hr hgood hb1 hfv
    unfold Fr.agg
    go_wp2_with fail
    have hal := below1 w1 (.cells #[.int .i64 f.kind, .int .i64 f.frm, .int .i64 f.org, .int .i64 f.seq, .int .i64 f.low, .slice f.ad g.n f.cap, .string f.body] 45)
    have HS7 : Hid _ := seven_alloc w1 (.int .i64 f.kind) (.int .i64 f.frm) (.int .i64 f.org) (.int .i64 f.seq) (.int .i64 f.low) (.slice f.ad g.n f.cap) (.string f.body) 45
    have HBX : Hid (Below w.heap.size w _) := bthen HB1.out hal
    have HVX : Hid _ := HVec.out.low hal
    clear hal
    generalize w1.alloc (.cells #[.int .i64 f.kind, .int .i64 f.frm, .int .i64 f.org, .int .i64 f.seq, .int .i64 f.low, .slice f.ad g.n f.cap, .string f.body] 45) = X at *
    have HNX : Hid _ := HN.out.low HBX.out
    have HHX : Hid _ := HH.out.low HBX.out
    have HWX : Hid _ := HW.out.low HBX.out
    refine (checkSender_any A b g.n g.W g.B g.L p G.gv f X HWX.out.s HNX.out.nb).mono ?_
    rintro e w2 ⟨⟨v2, rfl, hv2⟩, hb2⟩
    have HV2 : Hid _ := hv2
    have HB2 : Hid (Below w.heap.size w w2) := bthen HBX.out hb2
    have HS72 : Hid _ := HS7.out.below hb2 HS7.out.z
    have HVX2 : Hid _ := HVX.out.low hb2
    clear hb2
    by_cases hk : selfK p f = 0
    · obtain rfl : v2 = .nilIface := by
        rcases hv2.how with ⟨h, _⟩ | ⟨h, _⟩ | ⟨h, _⟩
        · exact h
        · omega
        · omega
      have hne : f.frm ≠ p ∧ ¬ (f.kind = 1 ∧ f.org = p) := by
        unfold selfK at hk
        split at hk
        · cases hk
        · split at hk
          · cases hk
          · exact ⟨by assumption, by assumption⟩
      have HNE : Hid _ := hne
      clear hv2 hne hk
      have HN2 : Hid _ := HN.out.low HB2.out
      have HH2 : Hid _ := HH.out.low HB2.out
      have HW2 : Hid _ := HW.out.low HB2.out
      clear c4
      obtain ⟨s0, s1, s2, s3, s4, s5, s6, sz⟩ := HS72.out
      rcases HCase.out with ⟨t2, fk, ff, fv⟩ | ⟨t2, fk, ff, ffm⟩
      · have b1 : (f.kind == (1 : Int)) = false := by rw [fk]; rfl
        obtain ⟨hvo, hfl⟩ := state_ok HR.out t2
        have HE : Hid (s.hear g p t = ⟨0, [], s.told g (byt t 4) f.vec⟩) := by
          show s.hear g p t = _
          unfold NS.hear
          rw [HR.out]
          simp only
          rw [if_neg (fun h => HNE.out.1 (by rw [ff, h])), if_neg (by omega), fv]
        have HVO : Hid _ := hvo
        have HFV : Hid _ := fv
        have HFL : Hid _ := hfl
        have HFF : Hid _ := ff
        have hqp : byt t 4 ≠ p := fun h => HNE.out.1 (by rw [ff, h])
        have HOF : Hid (∀ k, onB f.ad k → ¬ F k) := fun k hk hc => by
          have := HNew.out k hk
          have := HN.out.foot_lt ((HFt.out k).1 hc)
          omega
        have HLV : Hid (Calls Tryz.prog 156 #[.pointer (some ⟨b, 0, none⟩), .int .i64 f.frm, .slice f.ad g.n f.cap] w2
          fun e w' => e = .returned (.tuple #[]) ∧ NVw w' G.gv g.n G.rows (vlearn s.vs (byt t 4) f.vec g.n) ∧ Alike w2 w' (fun k => k = G.rows.getD (byt t 4) 0)) := by
          rw [ff]
          exact learnVector_any b g.n g.W g.B g.L p G.gv G.rows s.vs (byt t 4) f.ad f.cap f.vec w2 HN2.out.nb HN2.out.nv hfl HVX2.out.ints hn8 (fun c off hc he => HOF.out c ⟨off, hc⟩ ((HFt.out c).2 (foot_row (by rw [he]; exact mem_rows HN.out.nv hfl))))
        clear fk ff fv hvo
        go_wp2_with fail
        refine HLV.out.mono ?_
        rintro e w3 ⟨rfl, hv3, ha3⟩
        have HT2 : Hid _ := NAt.begin (F := F) HN2.out (fun k hk => (HFt.out k).2 hk)
        have HT3 : Hid _ := HT2.out.viewed hv3 ((Alike.refl w2 _).trans ha3 (fun k _ e => by rw [e]; exact mem_rows HN.out.nv hfl))
        clear hv3 ha3 s0 s1 s2 s3 s4 s5 s6 sz HLV
        go_wp2_with fail
        refine (forget_any b g.n g.W g.B g.L p G.gv G.rows (vlearn s.vs (byt t 4) f.vec g.n) G.sa fs.length G.scap fs w3 HT3.out.nod.nb HT3.out.nod.nv hn8 HT3.out.nod.c6 HT3.out.nod.fr (by have h1 := congrArg List.length HST.out; rw [List.length_map] at h1; omega) (fun a ha => (HS.out.st a.fm (by rw [← HST.out]; exact List.mem_map_of_mem ha)).org)).mono ?_
        rintro e w4 ⟨rfl, hk4⟩
        obtain ⟨G4, hN4⟩ := HT3.out.kept hk4 (fun a ha => Or.inl (List.mem_filter.1 ha).1)
        have HT4 : Hid _ := hN4
        clear hN4 hk4
        go_wp2_with fail
        go_ret2
        refine ⟨_, _, rfl, ?_, ?_⟩
        · rw [HE.out]; exact ⟨Or.inl ⟨rfl, rfl⟩⟩
        · rw [HE.out]
          refine ⟨⟨G4.foot b (keptF (gone (vlearn s.vs (byt t 4) f.vec g.n) g.L g.n) fs), ⟨G4, _, HT4.out.nod, ?_, ?_, fun _ => Iff.rfl⟩, fun k hk => ?_⟩, ?_, Pks.nil _ _⟩
          · rw [keptF_map, HST.out]
            rfl
          · exact fun a ha => HKF.out a (List.mem_filter.1 ha).1
          · rcases HT4.out.own k hk with h | h
            · exact Or.inl h
            · have := HB2.out.size
              exact Or.inr (by omega)
          · exact (Alike.of_below HB2.out F).trans HT4.out.rest (fun k _ h => h)
      · have b1 : (f.kind == (1 : Int)) = true := by rw [fk]; rfl
        obtain ⟨hfo, hfl⟩ := data_ok HR.out t2
        have hoe : f.org = byt t 5 := by
          have : f.fm.org = (dataOf g.n t).org := by rw [ffm]
          exact this
        have HE : Hid (s.hear g p t = if s.newK g p f.fm = 0 then ⟨0, passL (textM g p f.fm) p f.org f.frm g.n, s.got g p f.fm⟩ else ⟨s.newK g p f.fm, [], s⟩) := by
          show s.hear g p t = _
          unfold NS.hear
          rw [HR.out]
          simp only
          rw [if_neg (fun h => HNE.out.1 (by rw [ff, h])), if_pos t2, if_neg (fun h => HNE.out.2 ⟨fk, by rw [hoe, h]⟩), ffm, hoe, ff]
        have HHD : Hid (Calls Tryz.prog 155 #[.pointer (some ⟨b, 0, none⟩), .agg #[.int .i64 f.kind, .int .i64 f.frm, .int .i64 f.org, .int .i64 f.seq, .int .i64 f.low, .slice f.ad g.n f.cap, .string f.body]] w2 _) := hearData_any A base b g p s F f hg hp HS.out w2 HW2.out HF.out HH2.out fk (by rw [ffm]; exact hfo) HVX2.out (fun k hk => by
          have h1 := HNew.out k hk
          have h2 := HN.out.foot_lt (foot_b G b fs)
          have h3 := HF.out b ((HFt.out b).2 (foot_b _ _ _))
          exact ⟨fun hc => by
            have := HN.out.foot_lt ((HFt.out k).1 hc)
            omega, by omega⟩)
        clear fk ff ffm hoe hfo
        go_wp2_with fail
        refine (show Calls _ _ _ _ _ from HHD.out).mono ?_
        rintro e w3 ⟨v3, er, rfl, her, hno, hyes⟩
        have HER : Hid _ := her
        have HNO : Hid _ := hno
        have HYES : Hid _ := hyes
        clear her hno hyes s0 s1 s2 s3 s4 s5 s6 sz
        go_wp2_with fail
        go_ret2
        refine ⟨_, _, rfl, ?_, ?_⟩
        · rw [HE.out]
          have h1 := HER.out
          split
          · rename_i h0
            rw [h0] at h1
            exact h1
          · exact h1
        · rw [HE.out]
          split
          · rename_i h0
            obtain ⟨h1, h2, F', h3, h4⟩ := HYES.out h0
            have hz := HB2.out.size
            refine ⟨⟨F', h3, fun k hk => ?_⟩, (Alike.of_below HB2.out F).trans h2 (fun k hk hE => ?_), h1.mono hz⟩
            · rcases h4 k hk with h | h | h
              · exact Or.inl h
              · exact Or.inr (HNew.out k h)
              · exact Or.inr (by omega)
            · rcases hE with h | h
              · exact h
              · have := HNew.out k h
                omega
          · rename_i h0
            obtain ⟨h1, h2⟩ := HNO.out h0
            rw [h1]
            exact Did.none HH.out (bthen HB2.out h2)
    · have hk6 : selfK p f = 6 := by
        unfold selfK at hk ⊢
        split
        · rfl
        · rename_i h1
          rw [if_neg h1] at hk
          split
          · rfl
          · rename_i h2
            rw [if_neg h2] at hk
            exact absurd rfl hk
      have HE : Hid (s.hear g p t = ⟨6, [], s⟩) := by
        show s.hear g p t = _
        unfold NS.hear
        rw [HR.out]
        simp only
        unfold selfK at hk
        by_cases h4 : byt t 4 = p
        · rw [if_pos h4]
        · rw [if_neg h4]
          rcases HCase.out with ⟨t2, fk, ff, fv⟩ | ⟨t2, fk, ff, ffm⟩
          · rw [if_neg (fun h => h4 (by omega)), if_neg (fun h => by omega)] at hk
            exact absurd rfl hk
          · have hoe : f.org = byt t 5 := by
              have : f.fm.org = (dataOf g.n t).org := by rw [ffm]
              exact this
            by_cases h5 : byt t 5 = p
            · rw [if_pos t2, if_pos h5]
            · rw [if_neg (fun h => h4 (by omega)), if_neg (fun h => by omega)] at hk
              exact absurd rfl hk
      obtain ⟨ty, y, rfl⟩ : ∃ t x, v2 = .iface t x := by
        rcases hv2.how with ⟨_, h⟩ | ⟨_, _, _, h⟩ | ⟨_, _, _, _, h⟩
        · exact absurd h hk
        · exact ⟨_, _, h⟩
        · exact ⟨_, _, h⟩
      rw [hk6] at HV2
      clear hv2 hk hk6
      go_wp2_with fail
      go_ret2
      refine ⟨_, _, rfl, ?_, ?_⟩
      · rw [HE.out]; exact HV2.out
      · rw [HE.out]; exact Did.none HH.out HB2.out
end Go.Proofs.YtabecbjfamphbaaGreatDoor

/- The node's View; group.Has. -/
namespace Go.Proofs.YtabecbjfamphbaaGreatDoor
open Go.RowKit Go.Stop Go.Extern

/-- 0: there is such a node. -/
def viewK (n : Nat) (q : Int) : Nat := if decide (0 ≤ q ∧ q < n) then 0 else 1
def isNode (n : Nat) (q : Int) : Bool := decide (0 ≤ q ∧ q < n)
theorem row_mono {w : World} {b b' : Nat} {t : TypeId} {c : Nat} {v : Value} {n : Nat} {xs : List Value} (h : w.ownsRow b t c v n xs) (hb : b' ≤ b) : w.ownsRow b' t c v n xs := by
  refine ⟨h.1, ?_⟩
  rcases h.2 with h2 | ⟨g, cap, cur, hv, hg, r⟩
  · exact Or.inl h2
  · exact Or.inr ⟨g, cap, cur, hv, Nat.le_trans hb hg, r⟩
/-- The answer of View. -/
def NS.view (g : Gr) (s : NS) (q : Int) : List Int := if isNode g.n q then s.vs.getD q.toNat [] else []
set_option maxRecDepth 100000 in
set_option maxHeartbeats 1000000 in
theorem nodeView_any (A : Nat → Addr) (base b : Nat) (g : Gr) (p : Nat) (s : NS) (F : Nat → Prop) (q : Int) (hg : g.Ok) (hs : s.Ok g p) (w : World) (hw : Sl w A base) (h : NodeAt w b g p s F) :
    Calls Tryz.prog 176 #[.pointer (some ⟨b, 0, none⟩), .int .i64 q] w fun e w' => (∃ v er, e = .returned (.tuple #[v, er]) ∧ IsErrA A er (viewK g.n q) ∧ w'.ownsRow w.heap.size 3 1 v (s.view g q).length (irow (s.view g q))) ∧ Below w.heap.size w w' := by
  obtain ⟨G, fs, hN, hst, hkf, hFt⟩ := h.how
  have hn := hg.n
  obtain ⟨c0, c1, c2, c3, c4, c5, _⟩ := hN.nb
  have HW : Hid _ := hw
  have HVE : Hid (s.view g q = if isNode g.n q then s.vs.getD q.toNat [] else []) := rfl
  have HVK : Hid (viewK g.n q = if isNode g.n q then 0 else 1) := rfl
  have HN : Hid _ := hN
  have HS : Hid _ := hs
  clear hN hFt h hst hs hw hkf
  go_enter Tryz.func176, Tryz.ntmps176
  go_wp2_with fail
  refine (has_any g.n g.W g.B g.L q w).mono ?_
  rintro e w1 ⟨rfl, hb1⟩
  have HB1 : Hid _ := hb1
  have HN1 : Hid _ := HN.out.low hb1
  have HW1 : Hid _ := HW.out.low hb1
  clear c0 c1 c2 c3 c4 c5 hb1
  have c5 := HN1.out.nb.c5
  by_cases hq : isNode g.n q = true
  · have hq2 := of_decide_eq_true hq
    obtain ⟨k, rfl⟩ : ∃ k : Nat, q = k := ⟨q.toNat, by omega⟩
    have hk : k < g.n := by omega
    have hki : (k : Int) < (g.n : Int) := by omega
    have hrow := HN1.out.nv.row k hk
    have HV2 : Hid (s.view g k = s.vs.getD k []) := by show s.view g k = _; rw [HVE.out, if_pos hq]; rfl
    have HCl : Hid (Calls Tryz.prog 101 #[.slice (some ⟨G.rows.getD k 0, 0, none⟩) g.n g.n] w1 fun e w' => (∃ v, e = .returned v ∧ w'.ownsRow w1.heap.size 3 1 v g.n (irow (s.vs.getD k []))) ∧ Below w1.heap.size w1 w') := cloneInts_any ⟨G.rows.getD k 0, 0, none⟩ g.n g.n (s.vs.getD k []) w1 (show Ints w1 _ _ _ from ⟨HN1.out.nv.elen k hk, fun i hi => ⟨_, 0, rfl, (HN1.out.nv.each k hk).lt, by rw [Nat.zero_add]; exact HN1.out.nv.cell hk hi⟩⟩) (by omega) (by omega)
    have HEl : Hid ((s.vs.getD k []).length = g.n) := HN1.out.nv.elen k hk
    rw [decide_eq_true hq2]
    clear hq2
    generalize G.rows.getD k 0 = gk at *
    go_wp2_with fail
    refine HCl.out.mono ?_
    rintro e w2 ⟨⟨v, rfl, ho⟩, hb⟩
    have HO : Hid _ := ho
    have HB2 : Hid _ := bthen HB1.out hb
    have HZ : Hid (w.heap.size ≤ w1.heap.size) := HB1.out.size
    obtain ⟨av, cv, hsh⟩ := rowShaped ho
    subst hsh
    clear ho hb
    go_wp2_with fail
    go_ret2
    refine ⟨⟨_, _, rfl, ?_, ?_⟩, HB2.out⟩
    · rw [HVK.out, if_pos hq]
      exact ⟨Or.inl ⟨rfl, rfl⟩⟩
    · rw [HV2.out, HEl.out]
      exact row_mono HO.out HZ.out
  · have hqf : isNode g.n q = false := by simpa using hq
    rw [show decide (0 ≤ q ∧ q < (g.n : Int)) = false from hqf]
    have e1 : w1.cell? ⟨0, 0, none⟩ = some (.iface 298 (.pointer (some (A 1)))) := HW1.out.s.c 1 (by decide) (by decide)
    go_wp2_with (go_at_call 90; refine (nodeRefuse_any _ _ _).mono ?_; rintro e w' ⟨rfl, rfl⟩)
    go_ret2
    refine ⟨⟨_, _, rfl, ?_, ?_⟩, HB1.out⟩
    · rw [HVK.out, hqf]
      exact ⟨Or.inr (Or.inl ⟨by decide, by decide, _, rfl⟩)⟩
    · rw [HVE.out, hqf]
      exact World.ownsRow_nil _ _ _ _
end Go.Proofs.YtabecbjfamphbaaGreatDoor

/- The net's calls: member, Say, Tick. -/
namespace Go.Proofs.YtabecbjfamphbaaGreatDoor
open Go.RowKit Go.Stop Go.Extern

theorem say_few (g : Gr) (p : Nat) (s : NS) (body : ByteArray) : (s.say g p body).ps.length ≤ g.n := by
  unfold NS.say
  split
  · exact passL_length _ _ _ _ _
  · exact Nat.zero_le _
end Go.Proofs.YtabecbjfamphbaaGreatDoor

/- The net's calls of a node: Tick, Heard, Store, Refused; those of no node. -/
namespace Go.Proofs.YtabecbjfamphbaaGreatDoor
open Go.RowKit Go.Stop Go.Extern

theorem tick_few {g : Gr} {p : Nat} {s : NS} (hg : g.Ok) (hs : s.Ok g p) : (s.tick g p).length ≤ 520 := by
  have h1 := tickTo_length g p s (hs.short hg) g.n
  have h2 := hg.n.2
  unfold NS.tick
  omega
end Go.Proofs.YtabecbjfamphbaaGreatDoor

/- A new node. -/
namespace Go.Proofs.YtabecbjfamphbaaGreatDoor
open Go.RowKit Go.Stop Go.Extern

def NS.new (g : Gr) : NS := ⟨List.replicate g.n (List.replicate g.n 0), [], []⟩
theorem Tryz.viewsInfo : (Tryz.prog.info? 34).map (fun i => (i.zero, i.size, i.bytes)) = some (some (.slice none 0 0), 1, 24) := by kernel_rfl
/-- The first k views are made. -/
structure VB (wr : World) (gv n k : Nat) (rows : List Nat) : Prop where
  row : ∀ q, q < k → wr.cell? ⟨gv, q, none⟩ = some (.slice (some ⟨rows.getD q 0, 0, none⟩) n n)
  more : ∀ q, q < n → ∃ v, wr.cell? ⟨gv, q, none⟩ = some v
  ty : ∃ cur, wr.heap[gv]? = some (.cells cur 34 (0, 0))
  each : ∀ q, q < k → RowI wr (rows.getD q 0) (List.replicate n 0)
  len : rows.length = k
  gt : ∀ r ∈ rows, gv < r ∧ r < wr.heap.size
  nodup : rows.Nodup
theorem VB.more1 {wr w1 : World} {gv n k : Nat} {rows : List Nat} (h : VB wr gv n k rows) (hk : k < n) (hb : Below wr.heap.size wr w1) (hr : RowI w1 wr.heap.size (List.replicate n 0)) : VB (w1.setCell ⟨gv, k, none⟩ (.slice (some ⟨wr.heap.size, 0, none⟩) n n)) gv n (k + 1) (rows ++ [wr.heap.size]) := by
  have hgv : gv < wr.heap.size := by obtain ⟨c, e⟩ := h.ty; exact lt_of_some e
  have hget : ∀ q, q < k → (rows ++ [wr.heap.size]).getD q 0 = rows.getD q 0 := fun q hq => by
    rw [List.getD_eq_getElem?_getD, List.getD_eq_getElem?_getD, List.getElem?_append_left (by rw [h.len]; exact hq)]
  have hgk : (rows ++ [wr.heap.size]).getD k 0 = wr.heap.size := by
    rw [List.getD_eq_getElem?_getD, List.getElem?_append_right (by rw [h.len]; exact Nat.le_refl _), h.len, Nat.sub_self]
    rfl
  have hcell : ∀ q, w1.cell? ⟨gv, q, none⟩ = wr.cell? ⟨gv, q, none⟩ := fun q => hb.cell (p := ⟨gv, q, none⟩) hgv
  have hmem : ∀ q, q < k → rows.getD q 0 ∈ rows := fun q hq => by
    rw [List.getD_eq_getElem?_getD, List.getElem?_eq_getElem (by rw [h.len]; exact hq)]
    exact List.getElem_mem _
  have ha := Alike.setCell w1 ⟨gv, k, none⟩ (.slice (some ⟨wr.heap.size, 0, none⟩) n n)
  have hsame : (w1.setCell ⟨gv, k, none⟩ (.slice (some ⟨wr.heap.size, 0, none⟩) n n)).cell? ⟨gv, k, none⟩ = some (.slice (some ⟨wr.heap.size, 0, none⟩) n n) := by
    obtain ⟨v, hv⟩ := h.more k hk
    exact World.cell?_setCell_same _ _ _ ((hcell k).trans hv)
  have hoth : ∀ q, q ≠ k → (w1.setCell ⟨gv, k, none⟩ (.slice (some ⟨wr.heap.size, 0, none⟩) n n)).cell? ⟨gv, q, none⟩ = wr.cell? ⟨gv, q, none⟩ := fun q hq => (World.cell?_setCell_other _ _ _ _ (by intro h; simp only [Addr.mk.injEq] at h; omega)).trans (hcell q)
  have hsz : (w1.setCell ⟨gv, k, none⟩ (.slice (some ⟨wr.heap.size, 0, none⟩) n n)).heap.size = w1.heap.size := by simp [World.setCell]
  refine ⟨fun q hq => ?_, fun q hq => ?_, ?_, fun q hq => ?_, by rw [List.length_append, h.len]; rfl, fun r hr' => ?_, ?_⟩
  · by_cases e : q = k
    · subst e
      rw [hsame, hgk]
    · rw [hoth q e, hget q (by omega)]
      exact h.row q (by omega)
  · by_cases e : q = k
    · subst e
      exact ⟨_, hsame⟩
    · rw [hoth q e]
      exact h.more q hq
  · obtain ⟨cur, e⟩ := h.ty
    exact ⟨_, heap_setCell_same w1 gv k cur _ _ ((hb.block gv hgv).trans e)⟩
  · by_cases e : q = k
    · subst e
      rw [hgk]
      exact (ha.block _ hr.lt (by show ¬ wr.heap.size = gv; omega)).trans hr
    · rw [hget q (by omega)]
      have h1 := h.each q (by omega)
      have h2 := h.gt _ (hmem q (by omega))
      have h3 : RowI w1 (rows.getD q 0) (List.replicate n 0) := (hb.block _ h2.2).trans h1
      exact (ha.block _ h3.lt (by show ¬ rows.getD q 0 = gv; omega)).trans h3
  · rw [hsz]
    have := hr.lt
    rcases List.mem_append.1 hr' with h' | h'
    · have := h.gt r h'
      omega
    · rw [List.mem_singleton.1 h']
      omega
  · refine List.nodup_append.2 ⟨h.nodup, by simp, fun a ha' b hb' => ?_⟩
    rw [List.mem_singleton.1 hb']
    have := h.gt a ha'
    omega
set_option maxRecDepth 100000 in
set_option maxHeartbeats 1000000 in
theorem newViews_any (n : Nat) (W B L : Int) (hn : n ≤ 8) (w : World) : Calls Tryz.prog 91 #[.agg #[.int .i64 n, .int .i64 W, .int .i64 B, .int .i64 L]] w fun e w' => (∃ gv rows, e = .returned (.slice (some ⟨gv, 0, none⟩) n n) ∧ VB w' gv n n rows ∧ w.heap.size ≤ gv) ∧ Below w.heap.size w w' := by
  obtain ⟨i0, hi, hz0, hz1, hz2⟩ := info_parts Tryz.viewsInfo
  obtain ⟨j0, hj, hy0, hy1, hy2⟩ := info_parts Tryz.infoInt
  go_enter Tryz.func91, Tryz.ntmps91
  go_wp2_with (at_make; refine wpList_make_full _ rfl (.tmp 6) (.tmp 6) 71 rfl (w.heap.size + 1) 34 i0 (.slice none 0 0) 1 Tryz.underlying71 hi hz0 hz1 .i64 .i64 _ _ n rfl rfl ?m1 ?m2 ?m3 ?m4 ?m5 ?_)
  case m1 => rfl
  case m2 => rfl
  case m3 => rw [hz2]; omega
  case m4 => unfold maxLen; omega
  case m5 => simp
  intro w1 hown1 hgrow1
  have HB1 : Hid (Below w.heap.size w w1) := (below1 _ _).trans (((Below.refl _ _).grown hgrow1 (Nat.le_refl _) (fun k hk => by cases hk)).mono (by simp))
  have HV1 : Hid (VB w1 (w.heap.size + 1) n 0 []) := by
    rcases hown1.2 with ⟨h', _⟩ | ⟨g', cap', cur, h', _, hg, _, _, hcs, htake⟩
    · simp at h'
    · simp only [Value.slice.injEq, Option.some.injEq, Addr.mk.injEq, and_true, true_and] at h'
      obtain ⟨h1, rfl⟩ := h'
      have hg' : w1.heap[w.heap.size + 1]? = some (.cells cur 34 (0, 0)) := by rw [← h1] at hg; simpa using hg
      refine ⟨fun q hq => absurd hq (Nat.not_lt_zero _), fun q hq => ?_, ⟨cur, hg'⟩, fun q hq => absurd hq (Nat.not_lt_zero _), rfl, fun r hr => (by cases hr), List.nodup_nil⟩
      rw [cell_of_row w1 _ q cur _ (0, 0) hg']
      exact ⟨cur[q]'(by omega), Array.getElem?_eq_getElem _⟩
  have HC0 : Hid (w1.cell? ⟨w.heap.size, 0, none⟩ = some (.int .i64 (n : Int))) := (((Below.refl _ _).grown hgrow1 (Nat.le_refl _) (fun k hk => by cases hk)).cell (p := ⟨w.heap.size, 0, none⟩) (by simp)).trans (by rw [cell_of_row _ _ 0 _ _ (0, 0) (heap_alloc_new _ _)]; rfl)
  clear hown1 hgrow1
  go_wp2_with fail
  go_loopw [10] (fun c wr => ∃ k rows, k ≤ n ∧ c = .int .i64 (k : Nat) ∧ VB wr (w.heap.size + 1) n k rows ∧ Below w.heap.size w wr ∧ wr.cell? ⟨w.heap.size, 0, none⟩ = some (.int .i64 (n : Int))) (fun c _ => n - (intOf c).toNat)
  case atStart => exact ⟨0, [], Nat.zero_le _, rfl, HV1.out, HB1.out, HC0.out⟩
  case round =>
    obtain ⟨k, rows, hk, rfl, hv, hb, hc0⟩ := hrel
    have HV : Hid _ := hv
    have HB : Hid _ := hb
    have hsz := hb.size
    clear hv hb
    by_cases hlt : k < n
    · have hki : (k : Int) < (n : Int) := by omega
      obtain ⟨u, hu⟩ := HV.out.more k hlt
      have hfz := frozen_ty HV.out.ty k
      go_wp2_with (at_make; refine wpList_make_full _ rfl (.tmp 16) (.tmp 16) 34 rfl wr.heap.size 3 j0 (.int .i64 0) 1 Tryz.underlying34 hj hy0 hy1 .i64 .i64 _ _ n rfl rfl ?m1 ?m2 ?m3 ?m4 ?m5 ?_)
      case m1 => rfl
      case m2 => rfl
      case m3 => rw [hy2]; omega
      case m4 => unfold maxLen; omega
      case m5 => exact Nat.le_refl _
      intro w2 hown2 hgrow2
      rw [made_ints] at hown2
      have hb2 : Below wr.heap.size wr w2 := (Below.refl _ _).grown hgrow2 (Nat.le_refl _) (fun k hk => by cases hk)
      have hr2 : RowI w2 wr.heap.size (List.replicate n 0) := by simpa using row_of_owns hown2
      have HV2 : Hid _ := HV.out.more1 hlt hb2 hr2
      have hgl : w.heap.size + 1 < wr.heap.size := by obtain ⟨c, e⟩ := HV.out.ty; exact lt_of_some e
      have hu2 := (hb2.cell (p := ⟨w.heap.size + 1, k, none⟩) hgl).trans hu
      have hf2 := (hb2.frozen (p := ⟨w.heap.size + 1, k, none⟩) hgl).trans hfz
      have HB2 : Hid (Below w.heap.size w (w2.setCell ⟨w.heap.size + 1, k, none⟩ (.slice (some ⟨wr.heap.size, 0, none⟩) n n))) := (bthen HB.out hb2).setCell (by show w.heap.size ≤ w.heap.size + 1; omega) _
      have HC2 : Hid ((w2.setCell ⟨w.heap.size + 1, k, none⟩ (.slice (some ⟨wr.heap.size, 0, none⟩) n n)).cell? ⟨w.heap.size, 0, none⟩ = some (.int .i64 (n : Int))) := (Alike.setCell _ _ _).cell ((hb2.cell (p := ⟨w.heap.size, 0, none⟩) (by show w.heap.size < _; omega)).trans hc0) (by show ¬ w.heap.size = w.heap.size + 1; omega)
      clear hown2 hgrow2 hb2 hr2 hu hfz hc0
      go_wp2_with fail
      go_roundw
      case rel => exact ⟨k + 1, _, by omega, by go_num, HV2.out, HB2.out, HC2.out⟩
      case measure => simp [intOf]; omega
    · have hkn : k = n := by omega
      subst hkn
      go_wp2_with fail
      go_ret
      exact ⟨⟨_, rows, rfl, HV.out, by omega⟩, HB.out⟩
end Go.Proofs.YtabecbjfamphbaaGreatDoor

/- node.New; the face's NewNode. -/
namespace Go.Proofs.YtabecbjfamphbaaGreatDoor
open Go.RowKit Go.Stop Go.Extern

/-- A group's four cells. -/
structure Four (g : Nat) (x : World) (N W B L : Int) : Prop where
  c0 : x.cell? ⟨g, 0, none⟩ = some (.int .i64 N)
  c1 : x.cell? ⟨g, 1, none⟩ = some (.int .i64 W)
  c2 : x.cell? ⟨g, 2, none⟩ = some (.int .i64 B)
  c3 : x.cell? ⟨g, 3, none⟩ = some (.int .i64 L)
  z : g < x.heap.size
theorem Four.below {g : Nat} {x y : World} {N W B L : Int} (h : Four g x N W B L) {c : Nat} (hb : Below c x y) (hz : g < c) : Four g y N W B L := by
  have e : ∀ (i : Nat), y.cell? ⟨g, i, none⟩ = x.cell? ⟨g, i, none⟩ := fun i => hb.cell (p := ⟨g, i, none⟩) hz
  exact ⟨(e _).trans h.c0, (e _).trans h.c1, (e _).trans h.c2, (e _).trans h.c3, Nat.lt_of_lt_of_le h.z hb.size⟩
theorem four_alloc (w : World) (N W B L : Int) (t : TypeId) : Four w.heap.size (w.alloc (.cells #[.int .i64 N, .int .i64 W, .int .i64 B, .int .i64 L] t)) N W B L := by
  have e : ∀ i, (w.alloc (.cells #[.int .i64 N, .int .i64 W, .int .i64 B, .int .i64 L] t)).cell? ⟨w.heap.size, i, none⟩ = #[Value.int .i64 N, .int .i64 W, .int .i64 B, .int .i64 L][i]? := fun i => cell_of_row _ _ i _ t (0, 0) (heap_alloc_new _ _)
  exact ⟨e 0, e 1, e 2, e 3, by simp⟩
/-- May this node be? 0: it may. -/
def newNodeK (N W B L p : Int) : Nat := if okG N W B L && decide (0 ≤ p ∧ p < N) then 0 else 1
theorem NS.new_vw (g : Gr) (q o : Nat) : vw (NS.new g).vs q o = 0 := by
  unfold vw NS.new
  simp only
  rw [List.getD_eq_getElem?_getD, List.getD_eq_getElem?_getD, List.getElem?_replicate]
  split
  · simp only [Option.getD_some, List.getElem?_replicate]
    split <;> rfl
  · rfl
theorem NS.new_ok {g : Gr} (hg : g.Ok) (p : Nat) : (NS.new g).Ok g p := by
  refine ⟨⟨⟨by simp [NS.new], fun q hq => ?_⟩, fun q o _ _ => ?_, fun o _ => ?_, fun x hx => (by cases hx)⟩, fun f hf => (by cases hf), List.Pairwise.nil, fun f hf => (by cases hf), fun f hf => (by cases hf)⟩
  · unfold NS.new
    simp only
    rw [List.getD_eq_getElem?_getD, List.getElem?_replicate, if_pos hq]
    simp
  · rw [NS.new_vw]
    have := hg.L
    omega
  · rw [NS.new_vw]
    rfl
theorem VB.low {w w' : World} {gv n k : Nat} {rows : List Nat} (h : VB w gv n k rows) (hb : Below w.heap.size w w') : VB w' gv n k rows := by
  have hgv : gv < w.heap.size := by obtain ⟨c, e⟩ := h.ty; exact lt_of_some e
  have e : ∀ q, w'.cell? ⟨gv, q, none⟩ = w.cell? ⟨gv, q, none⟩ := fun q => hb.cell (p := ⟨gv, q, none⟩) hgv
  exact ⟨fun q hq => (e q).trans (h.row q hq), fun q hq => by rw [e q]; exact h.more q hq, by obtain ⟨c, e⟩ := h.ty; exact ⟨c, (hb.block gv hgv).trans e⟩, fun q hq => (h.each q hq).below hb (h.each q hq).lt, h.len, fun r hr => ⟨(h.gt r hr).1, Nat.lt_of_lt_of_le (h.gt r hr).2 hb.size⟩, h.nodup⟩
/-- A new node's memory. -/
theorem new_at {w : World} {b gv n : Nat} {rows : List Nat} {W B L : Int} {p : Nat} (hv : VB w gv n n rows) (hb : w.heap[b]? = some (.cells #[.int .i64 (n : Int), .int .i64 W, .int .i64 B, .int .i64 L, .int .i64 (p : Int), .slice (some ⟨gv, 0, none⟩) n n, .slice none 0 0, .slice none 0 0] 149 (0, 0))) : NodeAt w b ⟨n, W, B, L⟩ p (NS.new ⟨n, W, B, L⟩) (Lay.foot ⟨gv, rows, none, 0, none, 0⟩ b []) := by
  have e : ∀ i, w.cell? ⟨b, i, none⟩ = #[Value.int .i64 (n : Int), .int .i64 W, .int .i64 B, .int .i64 L, .int .i64 (p : Int), .slice (some ⟨gv, 0, none⟩) n n, .slice none 0 0, .slice none 0 0][i]? := fun i => cell_of_row _ _ i _ _ (0, 0) hb
  refine ⟨⟨gv, rows, none, 0, none, 0⟩, [], ⟨⟨e 0, e 1, e 2, e 3, e 4, e 5, _, hb⟩, ⟨hv.row, hv.ty, fun q hq => ?_, hv.len, by simp [NS.new], fun q hq => ?_, hv.nodup⟩, e 6, ⟨rfl, World.ownsRow_nil _ _ _ _⟩, fun f hf => (by cases hf), e 7, ⟨rfl, World.ownsRow_nil _ _ _ _⟩⟩, rfl, fun f hf => (by cases hf), fun _ => Iff.rfl⟩
  · have h1 := hv.each q hq
    unfold NS.new
    simp only
    rw [List.getD_eq_getElem?_getD (l := List.replicate n (List.replicate n 0)), List.getElem?_replicate, if_pos hq]
    exact h1
  · unfold NS.new
    simp only
    rw [List.getD_eq_getElem?_getD, List.getElem?_replicate, if_pos hq]
    simp
set_option maxRecDepth 100000 in
set_option maxHeartbeats 1000000 in
theorem nodeNew_any (A : Nat → Addr) (base : Nat) (N W B L p : Int) (w : World) (hw : Sl w A base) :
    Calls Tryz.prog 52 #[.agg #[.int .i64 N, .int .i64 W, .int .i64 B, .int .i64 L], .int .i64 p] w fun e w' => (∃ v er, e = .returned (.tuple #[v, er]) ∧ IsErrA A er (newNodeK N W B L p) ∧ (newNodeK N W B L p ≠ 0 → v = .pointer none) ∧
      (newNodeK N W B L p = 0 → ∃ b F, v = .pointer (some ⟨b, 0, none⟩) ∧ NodeAt w' b ⟨N.toNat, W, B, L⟩ p.toNat (NS.new ⟨N.toNat, W, B, L⟩) F ∧ ∀ k, F k → w.heap.size ≤ k)) ∧ Below w.heap.size w w' := by
  have HW : Hid _ := hw
  have HKE : Hid (newNodeK N W B L p = if okG N W B L && decide (0 ≤ p ∧ p < N) then 0 else 1) := rfl
  generalize newNodeK N W B L p = K at *
  go_enter Tryz.func52, Tryz.ntmps52
  go_wp2_with fail
  have HX : Hid _ := below1 w (.cells #[.int .i64 N, .int .i64 W, .int .i64 B, .int .i64 L] 26)
  have HFo : Hid _ := four_alloc w N W B L 26
  generalize w.alloc (.cells #[.int .i64 N, .int .i64 W, .int .i64 B, .int .i64 L] 26) = X at *
  by_cases hG : okG N W B L = true
  · refine (groupCheck_yes N W B L X hG).mono ?_
    rintro e w1 ⟨rfl, hb1⟩
    have HB1 : Hid _ := bthen HX.out hb1
    have HF1 : Hid _ := HFo.out.below hb1 HFo.out.z
    clear hb1
    obtain ⟨c0, c1, c2, c3, cz⟩ := HF1.out
    go_wp2_with fail
    refine (has_any N W B L p w1).mono ?_
    rintro e w2 ⟨rfl, hb2⟩
    have HB2 : Hid _ := bthen HB1.out hb2
    have HF2 : Hid _ := HF1.out.below hb2 cz
    clear hb2 c0 c1 c2 c3 cz
    obtain ⟨c0, c1, c2, c3, cz⟩ := HF2.out
    by_cases hp : 0 ≤ p ∧ p < N
    · have HK0 : Hid (K = 0) := by show K = 0; rw [HKE.out, hG, decide_eq_true hp]; rfl
      have hn8 := (okG_iff.1 hG).2.1
      rw [decide_eq_true hp]
      obtain ⟨n, rfl⟩ : ∃ n : Nat, N = n := ⟨N.toNat, by omega⟩
      obtain ⟨q, rfl⟩ : ∃ q : Nat, p = q := ⟨p.toNat, by omega⟩
      clear hp
      go_wp2_with fail
      have HNV : Hid _ := fun x => newViews_any n W B L (by omega) x
      go_region_held3 (fun x => x.cell? ⟨w.heap.size, 0, none⟩ = some (.int .i64 (n : Int)) ∧ x.cell? ⟨w.heap.size, 1, none⟩ = some (.int .i64 W) ∧ x.cell? ⟨w.heap.size, 2, none⟩ = some (.int .i64 B) ∧ x.cell? ⟨w.heap.size, 3, none⟩ = some (.int .i64 L))
        (first | (exact ⟨c0, c1, c2, c3⟩) | (exact ⟨HF3.out.c0, HF3.out.c1, HF3.out.c2, HF3.out.c3⟩) | go_keep)
        (first | (go_at_call 91; refine (show Calls _ _ _ _ _ from HNV.out _).mono ?_; rintro e w3 ⟨⟨gv, rows, rfl, hvb, hgv⟩, hb3⟩; have HB3 : Hid (Below w2.heap.size w2 w3) := (Below.refl _ _).drew.trans hb3; have HF3 : Hid _ := HF2.out.below HB3.out cz; have HVB : Hid _ := hvb; have HGV : Hid (w2.heap.size ≤ gv) := hgv; clear hb3 hvb hgv))
      go_wp2_with fail
      go_ret2
      have hz1 := HB2.out.size
      have hz2 := HB3.out.size
      refine ⟨⟨_, _, rfl, ?_, fun h => absurd HK0.out h, fun _ => ⟨w3.heap.size, _, rfl, new_at (HVB.out.low (below1 _ _)) (heap_alloc_new _ _), ?_⟩⟩, bthen (bthen HB2.out HB3.out) (below1 _ _)⟩
      · rw [HK0.out]
        exact ⟨Or.inl ⟨rfl, rfl⟩⟩
      · rintro k (rfl | rfl | hk | ⟨_, hk⟩ | ⟨_, hk⟩ | ⟨f, hf, _⟩)
        · omega
        · have := HGV.out
          omega
        · have := (HVB.out.gt k hk).1
          have := HGV.out
          omega
        · cases hk
        · cases hk
        · cases hf
    · have HK1 : Hid (K = 1) := by show K = 1; rw [HKE.out, decide_eq_false hp, Bool.and_false]; rfl
      rw [decide_eq_false hp]
      have e1 : w2.cell? ⟨0, 0, none⟩ = some (.iface 298 (.pointer (some (A 1)))) := (HW.out.low HB2.out).s.c 1 (by decide) (by decide)
      clear c0 c1 c2 c3 cz
      go_wp2_with (go_at_call 90; refine (nodeRefuse_any _ _ _).mono ?_; rintro e w' ⟨rfl, rfl⟩)
      go_ret2
      refine ⟨⟨_, _, rfl, ?_, fun _ => rfl, fun h => ?_⟩, HB2.out⟩
      · rw [HK1.out]
        exact ⟨Or.inr (Or.inl ⟨by decide, by decide, _, rfl⟩)⟩
      · rw [HK1.out] at h
        cases h
  · have HK1 : Hid (K = 1) := by show K = 1; rw [HKE.out, show okG N W B L = false by simpa using hG]; rfl
    refine (groupCheck_no (A 1) (A 5) N W B L X (HW.out.low HX.out).sent (by simpa using hG)).mono ?_
    rintro e w1 ⟨⟨t, rfl⟩, hb1⟩
    have HB1 : Hid _ := bthen HX.out hb1
    clear hb1
    go_wp2_with fail
    go_ret2
    refine ⟨⟨_, _, rfl, ?_, fun _ => rfl, fun h => ?_⟩, HB1.out⟩
    · rw [HK1.out]
      exact ⟨Or.inr (Or.inl ⟨by decide, by decide, _, rfl⟩)⟩
    · rw [HK1.out] at h
      cases h
end Go.Proofs.YtabecbjfamphbaaGreatDoor

/- hearsaykeep: counting what was heard. -/
namespace Go.Proofs.YtabecbjfamphbaaGreatDoor
open Go.RowKit Go.Stop Go.Extern

theorem wrow_get {ws : List Wd} {k : Nat} {t : Wd} (h : ws[k]? = some t) : (wrow ws)[k * 3]? = some (.int .i64 t.org) ∧ (wrow ws)[k * 3 + 1]? = some (.int .i64 t.seq) ∧ (wrow ws)[k * 3 + 2]? = some (.string t.body) := by
  have hk := (List.getElem?_eq_some_iff.1 h).1
  have hd : ws = ws.take k ++ (t :: ws.drop (k + 1)) := by
    rw [← (List.getElem?_eq_some_iff.1 h).2]
    conv => lhs; rw [← List.take_append_drop k ws, List.drop_eq_getElem_cons hk]
  have hl : (wrow (ws.take k)).length = k * 3 := by rw [wrow_length, List.length_take]; omega
  have he : wrow ws = wrow (ws.take k) ++ (.int .i64 t.org :: .int .i64 t.seq :: .string t.body :: wrow (ws.drop (k + 1))) := by
    conv => lhs; rw [hd, wrow_append]
    rfl
  rw [he]
  refine ⟨?_, ?_, ?_⟩
  · rw [List.getElem?_append_right (by omega), hl, Nat.sub_self]
    rfl
  · rw [List.getElem?_append_right (by omega), hl, Nat.add_sub_cancel_left]
    rfl
  · rw [List.getElem?_append_right (by omega), hl, Nat.add_sub_cancel_left]
    rfl
theorem Wrd.get {w : World} {base : Nat} {ad : Option Addr} {len cap : Nat} {ws : List Wd} (h : Wrd w base (.slice ad len cap) ws) {k : Nat} {t : Wd} (hk : ws[k]? = some t) : ∃ g, ad = some ⟨g, 0, none⟩ ∧ base ≤ g ∧ w.cell? ⟨g, k * 3, none⟩ = some (.int .i64 t.org) ∧ w.cell? ⟨g, k * 3 + 1, none⟩ = some (.int .i64 t.seq) ∧ w.cell? ⟨g, k * 3 + 2, none⟩ = some (.string t.body) := by
  have hkl := (List.getElem?_eq_some_iff.1 hk).1
  obtain ⟨h0, h1, h2⟩ := wrow_get hk
  have ho := h.own
  rcases ho.2 with ⟨_, h0⟩ | ⟨g, cap', cur, he, hg, hh, _⟩
  · omega
  · cases he
    refine ⟨g, rfl, hg, ?_, ?_, ?_⟩
    · rw [World.ownsRow.cellAt ho (k * 3) (by omega)]
      exact h0
    · rw [World.ownsRow.cellAt ho (k * 3 + 1) (by omega)]
      exact h1
    · rw [World.ownsRow.cellAt ho (k * 3 + 2) (by omega)]
      exact h2
end Go.Proofs.YtabecbjfamphbaaGreatDoor

/- hearsaykeep: a circle in memory. -/
namespace Go.Proofs.YtabecbjfamphbaaGreatDoor
open Go.RowKit Go.Stop Go.Extern

/-- A word that was said, and where its past lies. -/
structure Sd where
  org : Int
  seq : Int
  body : ByteArray
  pb : Nat
  past : List Int
/-- What was seen of a node. -/
structure Sn where
  ad : Option Addr
  cap : Nat
  ws : List Wd
structure CLay where
  fb : Nat
  Fx : Nat → Prop
  sa : Option Addr
  scap : Nat
  na : Option Addr
  ncap : Nat
theorem row_alike2 {w w' : World} {t : TypeId} {c : Nat} {ad : Option Addr} {len cap n : Nat} {xs : List Value} {E : Nat → Prop} (h : w.ownsRow 0 t c (.slice ad len cap) n xs) (ha : Alike w w' E) (hE : ∀ k, onB ad k → ¬ E k) : w'.ownsRow 0 t c (.slice ad len cap) n xs := by
  refine ⟨h.1, ?_⟩
  rcases h.2 with h' | ⟨g', cap', cur, he, hg, hh, hr⟩
  · exact Or.inl h'
  · refine Or.inr ⟨g', cap', cur, he, hg, (ha.block g' (lt_of_some hh) ?_).trans hh, hr⟩
    cases he
    exact hE g' ⟨0, rfl⟩
end Go.Proofs.YtabecbjfamphbaaGreatDoor

/- The law's small steps: pick, at, upTo, fit. -/
namespace Go.Proofs.YtabecbjfamphbaaGreatDoor
open Go.RowKit Go.Stop Go.Extern

/-- A number that an int holds. -/
def I64 (c : Int) : Prop := -9223372036854775808 ≤ c ∧ c ≤ 9223372036854775807
/-- Which of n things a number speaks of. -/
def pk (c n : Int) : Int := (if c < 0 then -(c + 1) else c) % n
theorem pk_bd (c n : Int) (h : 0 < n) : 0 ≤ pk c n ∧ pk c n < n := ⟨Int.emod_nonneg _ (by omega), Int.emod_lt_of_pos _ h⟩

end Go.Proofs.YtabecbjfamphbaaGreatDoor

/- All nodes of a group and the packets between them, as plain data: what holds whatever is lost, doubled or late. -/
namespace Go.Proofs.YtabecbjfamphbaaGreatDoor

/-- What a packet holds. -/
inductive Msg where
  | data (q : Nat) (f : Fm)
  | state (q : Nat) (v : List Int)
def clk (nd : Nat → NS) (p o : Nat) : Int := vw (nd p).vs p o
/-- What was heard: words that were said, each the next of its origin, none ahead of its deps. -/
inductive HV (g : Gr) (said : List Fm) : List Wd → Prop
  | none : HV g said []
  | more {hs : List Wd} {f : Fm} : HV g said hs → f ∈ said → f.seq = (cntW hs f.org.toNat : Int) + 1 → (∀ q, q < g.n → f.vec.getD q 0 ≤ (cntW hs q : Int)) → HV g said (hs ++ [f.word])
end Go.Proofs.YtabecbjfamphbaaGreatDoor

/- Packets are delivered, till none is left: what the nodes then know. -/
namespace Go.Proofs.YtabecbjfamphbaaGreatDoor

def passM (g : Gr) (p : Nat) (f : Fm) (fr : Nat) : List (Nat × Msg) := ((List.range g.n).filter (fun (q : Nat) => decide (q ≠ p ∧ (q : Int) ≠ f.org ∧ q ≠ fr))).map (fun q => (q, .data p f))
theorem mem_passM {g : Gr} {p : Nat} {f : Fm} {fr : Nat} {x : Nat × Msg} (h : x ∈ passM g p f fr) : x.2 = .data p f ∧ x.1 < g.n ∧ x.1 ≠ p ∧ f.org ≠ x.1 := by
  obtain ⟨q, hq, rfl⟩ := List.mem_map.1 h
  obtain ⟨h1, h2⟩ := List.mem_filter.1 hq
  have h3 := of_decide_eq_true h2
  exact ⟨rfl, List.mem_range.1 h1, h3.1, fun e => h3.2.1 e.symm⟩
theorem passM_length {g : Gr} {p : Nat} {f : Fm} {fr : Nat} : (passM g p f fr).length ≤ g.n := by
  unfold passM
  rw [List.length_map]
  refine Nat.le_trans (List.length_filter_le _ _) ?_
  rw [List.length_range]
  exact Nat.le_refl _
end Go.Proofs.YtabecbjfamphbaaGreatDoor

/- Rounds as plain data: all nodes tick, then all packets are delivered. -/
namespace Go.Proofs.YtabecbjfamphbaaGreatDoor

/-- The packets of a tick. -/
def tickM (g : Gr) (p : Nat) (s : NS) : List (Nat × Msg) := (List.range g.n).flatMap (fun (q : Nat) => if q = p then [] else ((s.st.filter (fun f => decide (f.org ≠ (q : Int) ∧ vw s.vs q f.org.toNat < f.seq))).map (fun f => (q, Msg.data p f))) ++ [(q, .state p (s.vs.getD p []))])
end Go.Proofs.YtabecbjfamphbaaGreatDoor
