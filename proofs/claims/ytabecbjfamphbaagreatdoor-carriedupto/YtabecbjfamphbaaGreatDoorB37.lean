/-
  Texts that the proofs of this seat share, joined: Kk, Kl.
-/
import Derived.Test.YtabecbjfamphbaaGreatDoorB35
import Derived.Test.YtabecbjfamphbaaGreatDoorB36
/- What a script makes of a circle, as plain data: saying; the beginning. -/
namespace Go.Proofs.YtabecbjfamphbaaGreatDoor
open Go.RowKit Go.Stop Go.Extern

section
variable {g : Gr} {x : MNet} {sd : List Sd} {sn : List Sn} {bag : List (Nat × Msg)} {said : List Fm} {m : Nat}
theorem sayL_enc (g : Gr) (p : Nat) (f : Fm) (ho : f.org = p) : NS.sayL g p f = (passM g p f p).map (encP g) := by
  rw [← passL_enc, ho]
  rfl
theorem Run.say (h : Run g x sd sn bag said m) (hg : g.Ok) {p : Nat} (hp : p < g.n) (body : ByteArray) :
    ((x.sayR g p body).k = 0 → ∀ pb, Run g (x.sayR g p body).x (sd ++ [saidSd g x p body pb]) sn (bag ++ passM g p ((x.nd p).word g p body) p) (said ++ [(x.nd p).word g p body]) (m + 1)) ∧ ((x.sayR g p body).k ≠ 0 → Run g (x.sayR g p body).x sd sn bag said (m + 1)) := by
  rw [sayR_eq hp]
  by_cases hK : (x.nd p).sayK g p body.size = 0
  · obtain ⟨h1, h2, h3⟩ := sayK_zero hK
    have he : (x.nd p).say g p body = ⟨0, vw (x.nd p).vs p p + 1, NS.sayL g p ((x.nd p).word g p body), (x.nd p).said g p ((x.nd p).word g p body)⟩ := if_pos hK
    refine ⟨fun _ pb => ?_, fun hk => absurd (by rw [he]) hk⟩
    obtain ⟨hi, hc⟩ := h.net.inv.said hg hp h1 h2 h3
    have hnd : (x.say g p body).nd = upd x.nd p ((x.nd p).said g p ((x.nd p).word g p body)) := by
      show (x.put p ((x.nd p).say g p body).s).nd = _
      rw [put_upd, he]
    have hbag : (x.say g p body).bag = (bag ++ passM g p ((x.nd p).word g p body) p).map (encP g) := by
      show x.bag ++ ((x.nd p).say g p body).ps = _
      rw [he, List.map_append, ← h.enc, ← sayL_enc g p _ rfl]
    refine ⟨⟨by rw [hnd]; exact hi, fun z hz => ?_⟩, hbag, by simp [h.len], fun i s f hs hf => ?_, h.seen.grow (fun q => ?_), fun q hq => ⟨(h.ref q hq).1, by have := (h.ref q hq).2; show x.ref q ≤ _; omega⟩, ?_, ?_⟩
    · rw [hnd]
      rcases List.mem_append.1 hz with hz | hz
      · exact (h.net.good z hz).mono (fun f hf => List.mem_append_left _ hf) hc
      · obtain ⟨e1, e2, e3, e4⟩ := mem_passM hz
        rw [e1]
        exact ⟨List.mem_append_right _ (List.mem_singleton.2 rfl), e2, hp, e3, e4⟩
    · rcases Nat.lt_or_ge i sd.length with hl | hl
      · rw [List.getElem?_append_left hl] at hs
        rw [List.getElem?_append_left (by rw [← h.len]; exact hl)] at hf
        exact h.same i s f hs hf
      · have hil : i = sd.length := by
          have := (List.getElem?_eq_some_iff.1 hs).1
          simp at this
          omega
        subst hil
        rw [h.len] at hf
        simp at hs hf
        subst hs hf
        refine ⟨rfl, rfl, rfl, fun q hq => ?_⟩
        show (cnts g.n (x.nd p).hs).getD q 0 = vw (x.nd p).vs p q
        rw [cnts_get hq, (h.net.inv.ok p hp).clk.cnt q hq]
    · rw [hnd]
      exact upd_grow ⟨[((x.nd p).word g p body).word], rfl⟩ q
    · have h4 := h.few
      have h5 := passM_length (g := g) (p := p) (f := (x.nd p).word g p body) (fr := p)
      have h6 := hg.n.2
      rw [List.length_append]
      omega
    · have := h.short
      rw [List.length_append]
      simp
      omega
  · have he : (x.nd p).say g p body = ⟨(x.nd p).sayK g p body.size, 0, [], x.nd p⟩ := if_neg hK
    refine ⟨fun hk => absurd (by rw [he] at hk; exact hk) hK, fun _ => ?_⟩
    have hx : x.say g p body = x := by
      unfold MNet.say
      rw [he]
      have e : (fun q => if q = p then x.nd p else x.nd q) = x.nd := upd_self x.nd p
      simp only [MNet.put, e, List.append_nil]
    show Run g (x.say g p body) sd sn bag said (m + 1)
    rw [hx]
    exact ⟨h.net, h.enc, h.len, h.same, h.seen, fun q hq => ⟨(h.ref q hq).1, by have := (h.ref q hq).2; omega⟩, by have := h.few; omega, by have := h.short; omega⟩
theorem Run.look (h : Run g x sd sn bag said m) {sn' : List Sn} (hs : Seen x sn') : Run g x sd sn' bag said (m + 1) :=
  ⟨h.net, h.enc, h.len, h.same, hs, fun q hq => ⟨(h.ref q hq).1, by have := (h.ref q hq).2; omega⟩, by have := h.few; omega, by have := h.short; omega⟩
theorem Run.more (h : Run g x sd sn bag said m) : Run g x sd sn bag said (m + 1) := h.look h.seen
end
/-- The circle behind m steps, in memory. -/
def Ran (z : Nat) (w : World) (rb : Nat) (g : Gr) (m : Nat) : Prop := ∃ x sd sn bag said, CircZ z w rb g x sd sn ∧ Run g x sd sn bag said m
end Go.Proofs.YtabecbjfamphbaaGreatDoor

/- hearsaykeep: packet. -/
namespace Go.Proofs.YtabecbjfamphbaaGreatDoor
open Go.RowKit Go.Stop Go.Extern

/-- A step as a value. -/
structure Stp where
  K : Int
  a : Int
  b : Int
  v : Int
  s : ByteArray
  f0 : Int
  f1 : Int
  f2 : Int
  f3 : Int
  f4 : Int
  fa : Option Addr
  fl : Nat
  fc : Nat
  fb : ByteArray
def Stp.val (o : Stp) : Value := .agg #[.int .i64 o.K, .int .i64 o.a, .int .i64 o.b, .int .i64 o.v, .string o.s, .int .i64 o.f0, .int .i64 o.f1, .int .i64 o.f2, .int .i64 o.f3, .int .i64 o.f4, .slice o.fa o.fl o.fc, .string o.fb]
theorem Tryz.stepInfo : (Tryz.prog.info? 47).map (fun i => (i.zero, i.size)) = some (some (.agg #[.int .i64 0, .int .i64 0, .int .i64 0, .int .i64 0, .string ⟨#[]⟩, .int .i64 0, .int .i64 0, .int .i64 0, .int .i64 0, .int .i64 0, .slice none 0 0, .string ⟨#[]⟩]), 12) := by kernel_rfl
structure Stp.Ok (o : Stp) : Prop where
  K : I64 o.K
  a : I64 o.a
  b : I64 o.b
  v : I64 o.v
theorem at_get {x : MNet} {k : Nat} {t : Pk} (h : x.bag[k]? = some t) : x.at (k : Int) = some t := by
  unfold MNet.at
  rw [if_pos (by omega), Int.toNat_natCast, h]
theorem deliverR_at {g : Gr} {x : MNet} {k : Nat} {t : Pk} (h : x.bag[k]? = some t) : x.deliverR g k = ⟨0, ((x.nd t.to.toNat).hear g t.to.toNat t.text).k, x.deliver g k t⟩ := by
  unfold MNet.deliverR
  rw [at_get h]
  rfl
theorem dropR_at {x : MNet} {k : Nat} {t : Pk} (h : x.bag[k]? = some t) : x.dropR k = ⟨0, 0, { x with bag := x.bag.eraseIdx k }⟩ := by
  unfold MNet.dropR
  rw [at_get h]
  rfl
theorem copyR_at {x : MNet} {k : Nat} {t : Pk} (h : x.bag[k]? = some t) : x.copyR k = ⟨0, 0, { x with bag := x.bag ++ [t] }⟩ := by
  unfold MNet.copyR
  rw [at_get h]
set_option maxRecDepth 100000 in
set_option maxHeartbeats 1000000 in
theorem packet_any (A : Nat → Addr) (base z rb : Nat) (g : Gr) (m : Nat) (o : Stp) (ho : o.Ok) (hg : g.Ok) (hm : m + 1 ≤ 10000000) (w : World) (hw : Sl w A base) (hz : base ≤ z) (h : Ran z w rb g m) :
    Calls Tryz.prog 46 #[.pointer (some ⟨rb, 0, none⟩), o.val] w fun e w' => e = .returned (.bool true) ∧ Ran z w' rb g (m + 1) ∧ Below z w w' := by
  obtain ⟨K, a, b, v, s, f0, f1, f2, f3, f4, fa, fl, fc, fb⟩ := o
  obtain ⟨hK, ha, hb, hv⟩ := ho
  simp only at hK ha hb hv
  obtain ⟨x, sd, sn, bag, said, hC, hR⟩ := h
  have HW : Hid _ := hw
  have HC : Hid _ := hC
  have HR : Hid _ := hR
  obtain ⟨C, hCi, hCz⟩ := hC.how
  have HCi : Hid (Circ w rb g x sd sn C) := hCi
  have HCz : Hid _ := hCz
  have c4 := hCi.c4
  have hlen : x.bag.length ≤ 100000000000 := (hR.ok hg (by omega)).len
  unfold Stp.val
  clear hw hC hR hCi hCz
  go_enter Tryz.func46, Tryz.ntmps46
  have HBx : Hid (∀ (y : World), Below (w.alloc (.cells #[.int .i64 K, .int .i64 a, .int .i64 b, .int .i64 v, .string s, .int .i64 f0, .int .i64 f1, .int .i64 f2, .int .i64 f3, .int .i64 f4, .slice fa fl fc, .string fb] 47)).heap.size (w.alloc (.cells #[.int .i64 K, .int .i64 a, .int .i64 b, .int .i64 v, .string s, .int .i64 f0, .int .i64 f1, .int .i64 f2, .int .i64 f3, .int .i64 f4, .slice fa fl fc, .string fb] 47)) y → y.cell? ⟨w.heap.size, 0, none⟩ = some (.int .i64 K) ∧ y.cell? ⟨w.heap.size, 1, none⟩ = some (.int .i64 a) ∧ y.cell? ⟨w.heap.size, 2, none⟩ = some (.int .i64 b) ∧ y.cell? ⟨w.heap.size, 3, none⟩ = some (.int .i64 v)) := fun y hy => by
    have hz : w.heap.size < (w.alloc (.cells #[.int .i64 K, .int .i64 a, .int .i64 b, .int .i64 v, .string s, .int .i64 f0, .int .i64 f1, .int .i64 f2, .int .i64 f3, .int .i64 f4, .slice fa fl fc, .string fb] 47)).heap.size := by simp
    have e : ∀ i, y.cell? ⟨w.heap.size, i, none⟩ = #[Value.int .i64 K, .int .i64 a, .int .i64 b, .int .i64 v, .string s, .int .i64 f0, .int .i64 f1, .int .i64 f2, .int .i64 f3, .int .i64 f4, .slice fa fl fc, .string fb][i]? := fun i => (hy.cell (p := ⟨w.heap.size, i, none⟩) hz).trans (cell_of_row _ _ i _ _ (0, 0) (heap_alloc_new _ _))
    exact ⟨e 0, e 1, e 2, e 3⟩
  have HB0 : Hid _ := below1 w (.cells #[.int .i64 K, .int .i64 a, .int .i64 b, .int .i64 v, .string s, .int .i64 f0, .int .i64 f1, .int .i64 f2, .int .i64 f3, .int .i64 f4, .slice fa fl fc, .string fb] 47)
  have c4' := (HB0.out.cell (p := ⟨rb, 4, none⟩) (lt_of_cell c4)).trans c4
  go_wp2_with fail
  have HqX : Hid (w.heap.size < (w.alloc (.cells #[.int .i64 K, .int .i64 a, .int .i64 b, .int .i64 v, .string s, .int .i64 f0, .int .i64 f1, .int .i64 f2, .int .i64 f3, .int .i64 f4, .slice fa fl fc, .string fb] 47)).heap.size) := by show _ < _; simp
  generalize w.alloc (.cells #[.int .i64 K, .int .i64 a, .int .i64 b, .int .i64 v, .string s, .int .i64 f0, .int .i64 f1, .int .i64 f2, .int .i64 f3, .int .i64 f4, .slice fa fl fc, .string fb] 47) = X at *
  have HCx : Hid (Circ X rb g x sd sn C) := HCi.out.low HB0.out
  have HWx : Hid (Sl X A base) := HW.out.low HB0.out
  have HZw : Hid (z ≤ w.heap.size) := HC.out.le
  have HBz : Hid (Below z w X) := HB0.out.mono HZw.out
  have HFb : Hid (∀ k, C.Fx k → base ≤ k) := fun k hk => Nat.le_trans hz (HCz.out k (Or.inr (Or.inl hk)))
  have HBt : Hid (∀ y, Below z X y → Below z w y) := fun y hy => HBz.out.trans hy
  have HCX : Hid (CircZ z X rb g x sd sn) := ⟨C, HCx.out, HCz.out⟩
  refine (netLeft C.fb g x C.Fx X HCx.out.net).mono ?_
  rintro e w1 ⟨rfl, hw1⟩
  subst hw1
  clear c4
  by_cases hn0 : x.bag.length = 0
  · rw [hn0]
    go_wp2_with fail
    go_ret
    exact ⟨rfl, ⟨x, sd, sn, bag, said, HCX.out, HR.out.more⟩, HBz.out⟩
  · have hn1 : ¬ ((x.bag.length : Int) < 1) := by omega
    have hkb := pk_bd a (x.bag.length : Int) (by omega)
    have HPk : Hid _ := fun y => pick_any a (x.bag.length : Int) y ha (by omega) (by omega)
    have HPK : Hid _ := fun y => pick_any K 7 y hK (by omega) (by omega)
    have hjb := pk_bd K 7 (by omega)
    generalize hkk : pk a (x.bag.length : Int) = kk at *
    generalize pk K 7 = j at *
    obtain ⟨k, rfl⟩ : ∃ k : Nat, kk = k := ⟨kk.toNat, by omega⟩
    have hkl : k < x.bag.length := by omega
    obtain ⟨b0, b1, b2, b3⟩ := HBx.out w1 (Below.refl _ _)
    go_wp2_with fail
    refine (show Calls _ _ _ _ _ from HPk.out _).mono ?_
    rintro e w2 ⟨rfl, hw2⟩
    subst hw2
    go_wp2_with fail
    refine (show Calls _ _ _ _ _ from HPK.out _).mono ?_
    rintro e w3 ⟨rfl, hw3⟩
    subst hw3
    have hX := HR.out.ok hg (by omega)
    have HX : Hid _ := hX
    have hbl : x.bag.length = bag.length := by rw [HR.out.enc, List.length_map]
    obtain ⟨⟨to, y⟩, hy⟩ : ∃ y, bag[k]? = some y := ⟨bag[k], List.getElem?_eq_getElem (by omega)⟩
    have hxk : x.bag[k]? = some (encP g (to, y)) := by rw [HR.out.enc, List.getElem?_map, hy]; rfl
    have HXk : Hid _ := hxk
    have HY : Hid _ := hy
    clear hX hbl hxk hy
    by_cases h2 : j = 2
    · subst h2
      obtain ⟨hk7, hrun⟩ := HR.out.deliver hg HY.out
      have HRn : Hid _ := hrun
      have HDl : Hid (Calls Tryz.prog 41 #[.pointer (some ⟨C.fb, 0, none⟩), .int .i64 (k : Int)] w3 fun e w' => e = .returned (.int .i64 ((((x.nd to).hear g to (y.text g)).k : Nat) : Int)) ∧ NDid w3 w' C.fb g C.Fx (x.deliver g k (encP g (to, y)))) := by
        have h1 := netDeliver A base C.fb g x C.Fx (k : Int) hg HX.out w3 HWx.out HFb.out HCx.out.net
        rw [deliverR_at HXk.out] at h1
        exact h1
      clear hrun
      rcases hk7 with e7 | e7
      · rw [e7] at HDl
        clear e7
        go_wp2_with fail
        refine (show Calls _ _ _ _ _ from HDl.out).mono ?_
        rintro e w4 ⟨rfl, hd⟩
        obtain ⟨hc4, hb4⟩ := CircZ.did HCx.out HCz.out hd
        have HC4 : Hid _ := hc4
        have HB4 : Hid _ := HBt.out _ hb4
        clear hc4 hb4 hd
        go_wp2_with fail
        go_ret
        exact ⟨rfl, ⟨_, _, _, _, _, HC4.out, HRn.out⟩, HB4.out⟩
      · rw [e7] at HDl
        clear e7
        go_wp2_with fail
        refine (show Calls _ _ _ _ _ from HDl.out).mono ?_
        rintro e w4 ⟨rfl, hd⟩
        obtain ⟨hc4, hb4⟩ := CircZ.did HCx.out HCz.out hd
        have HC4 : Hid _ := hc4
        have HB4 : Hid _ := HBt.out _ hb4
        clear hc4 hb4 hd
        go_wp2_with fail
        go_ret
        exact ⟨rfl, ⟨_, _, _, _, _, HC4.out, HRn.out⟩, HB4.out⟩
    · by_cases h3 : j = 3
      · subst h3
        have HRn : Hid _ := HR.out.drop k
        have HDl : Hid _ := netDrop A base C.fb g x C.Fx (k : Int) hg HX.out w3 HWx.out HFb.out HCx.out.net
        rw [dropR_at HXk.out] at HDl
        go_wp2_with fail
        refine (show Calls _ _ _ _ _ from HDl.out).mono ?_
        rintro e w4 ⟨rfl, hd⟩
        obtain ⟨hc4, hb4⟩ := CircZ.did HCx.out HCz.out hd
        have HC4 : Hid _ := hc4
        have HB4 : Hid _ := HBt.out _ hb4
        clear hc4 hb4 hd
        go_wp2_with fail
        go_ret
        exact ⟨rfl, ⟨_, _, _, _, _, HC4.out, HRn.out⟩, HB4.out⟩
      · by_cases h4 : j = 4
        · subst h4
          have HRn : Hid _ := HR.out.copy HY.out
          have HDl : Hid _ := netCopy A base C.fb g x C.Fx (k : Int) hg HX.out w3 HWx.out HFb.out HCx.out.net
          rw [copyR_at HXk.out] at HDl
          go_wp2_with fail
          refine (show Calls _ _ _ _ _ from HDl.out).mono ?_
          rintro e w4 ⟨rfl, hd⟩
          obtain ⟨hc4, hb4⟩ := CircZ.did HCx.out HCz.out hd
          have HC4 : Hid _ := hc4
          have HB4 : Hid _ := HBt.out _ hb4
          clear hc4 hb4 hd
          go_wp2_with fail
          go_ret
          exact ⟨rfl, ⟨_, _, _, _, _, HC4.out, HRn.out⟩, HB4.out⟩
        · have g2 : (j == 2) = false := by simp [h2]
          have g3 : (j == 3) = false := by simp [h3]
          have g4 : (j == 4) = false := by simp [h4]
          have HRn : Hid _ := HR.out.spoil to
          have HSp : Hid (∀ y', Below w3.heap.size w3 y' → Calls Tryz.prog 81 #[.pointer (some ⟨rb, 0, none⟩), .int .i64 (k : Int), .int .i64 b, .int .i64 v] y' fun e w' => e = .returned (.bool true) ∧ CircZ z w' rb g (x.refuse to) sd sn ∧ Below z y' w') := fun y' hy' => by
            have ht := HR.out.text hg _ (List.mem_of_getElem? HXk.out)
            have hto : to < g.n := by
              obtain ⟨q, e1, e2⟩ := ht.1
              have e1' : (to : Int) = (q : Int) := e1
              omega
            refine spoils_any A base z rb g x sd sn k to (y.text g) b v hb hv hg HX.out (HRn.out.ok hg (by omega)) ?_ hto HXk.out ht.2.2.2 ht.2.2.1 ht.2.1 y' (HWx.out.low hy') hz (HCX.out.low hy')
            have h5 := HR.out.few
            rw [HR.out.enc, List.length_map]
            omega
          go_wp2_with fail
          refine (show Calls _ _ _ _ _ from HSp.out _ (Below.refl _ _)).mono ?_
          rintro e w4 ⟨rfl, hc4, hb4⟩
          have HC4 : Hid _ := hc4
          have HB4 : Hid _ := HBt.out _ hb4
          clear hc4 hb4
          go_wp2_with fail
          go_ret
          exact ⟨rfl, ⟨_, _, _, _, _, HC4.out, HRn.out⟩, HB4.out⟩
end Go.Proofs.YtabecbjfamphbaaGreatDoor
