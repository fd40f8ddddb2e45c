/-
  Texts that the proofs of this seat share, joined: Wa, Wb, HDec, S7, RefGood0, Cb.
-/
import Derived.Test.YtabecbjfamphbaaGreatDoorB37
import Derived.Test.YtabecbjfamphbaaGreatDoorBou05
import Derived.Test.YtabecbjfamphbaaGreatDoorB27
import Derived.Test.YtabecbjfamphbaaGreatDoorBou03
import Derived.Test.YtabecbjfamphbaaGreatDoorB03
import Derived.Test.YtabecbjfamphbaaGreatDoorB19
/- A net into which anything may come, as plain data. -/
namespace Go.Proofs.YtabecbjfamphbaaGreatDoor
open Go.RowKit Go.Stop Go.Extern

/-- A packet that is a frame of the group. -/
def PkOk (g : Gr) (t : Pk) : Prop := (∃ q : Nat, t.to = q ∧ q < g.n) ∧ t.text.size ≤ 100 ∧ rAll g.n g.W g.B g.L t.text = none
/-- A net behind m steps. -/
structure Wld (g : Gr) (x : MNet) (m : Nat) : Prop where
  nd : ∀ p, p < g.n → (x.nd p).Ok g p
  bag : ∀ t ∈ x.bag, PkOk g t
  ref : ∀ p, p < g.n → 0 ≤ x.ref p ∧ x.ref p ≤ (m : Int)
  few : x.bag.length ≤ 520 * m
theorem Wld.ok {g : Gr} {x : MNet} {m : Nat} (h : Wld g x m) (hm : m ≤ 10000000) : x.Ok g :=
  ⟨h.nd, fun t ht => ⟨(h.bag t ht).1, (h.bag t ht).2.1⟩, fun p hp => ⟨(h.ref p hp).1, by have := (h.ref p hp).2; omega⟩, by have := h.few; omega⟩
theorem pkOk_enc {g : Gr} (hg : g.Ok) {y : Nat × Msg} (h1 : y.1 < g.n) (h2 : y.2.Ok g) : PkOk g (encP g y) := by
  obtain ⟨r1, r2, _⟩ := text_read hg h2
  exact ⟨⟨y.1, rfl, h1⟩, r2, r1⟩
theorem pass_ok {g : Gr} (hg : g.Ok) {p : Nat} (hp : p < g.n) {f : Fm} (hf : f.Ok g) (fr : Nat) : ∀ t ∈ (passM g p f fr).map (encP g), PkOk g t := fun t ht => by
  obtain ⟨y, hy, rfl⟩ := List.mem_map.1 ht
  obtain ⟨e1, e2, _⟩ := mem_passM hy
  exact pkOk_enc hg e2 (by rw [e1]; exact ⟨hp, hf⟩)
theorem tick_ok {g : Gr} (hg : g.Ok) {p : Nat} (hp : p < g.n) {s : NS} (hs : s.Ok g p) : ∀ t ∈ s.tick g p, PkOk g t := fun t ht => by
  rw [tick_enc] at ht
  obtain ⟨y, hy, rfl⟩ := List.mem_map.1 ht
  unfold tickM at hy
  obtain ⟨q, hq, hy⟩ := List.mem_flatMap.1 hy
  have hqn := List.mem_range.1 hq
  split at hy
  · cases hy
  · rcases List.mem_append.1 hy with h1 | h1
    · obtain ⟨f, hf, rfl⟩ := List.mem_map.1 h1
      exact pkOk_enc hg hqn ⟨hp, hs.st f (List.mem_filter.1 hf).1⟩
    · rw [List.mem_singleton] at h1
      subst h1
      exact pkOk_enc hg hqn ⟨hp, hs.clk.shp.elen p hp, fun o ho => hs.clk.bd p o hp ho⟩
/-- What comes of a text that is heard. -/
structure HearOk (g : Gr) (p : Nat) (s : NS) (t : ByteArray) (r : HR) : Prop where
  ok : r.s.Ok g p
  five : r.k = 5 ↔ rAll g.n g.W g.B g.L t ≠ none
  range : r.k = 0 ∨ (5 ≤ r.k ∧ r.k ≤ 8)
  not : r.k ≠ 0 → r.s = s ∧ r.ps = []
  ps : ∀ t ∈ r.ps, PkOk g t
  few : r.ps.length ≤ g.n
theorem hear_ok {g : Gr} (hg : g.Ok) {p : Nat} (hp : p < g.n) {s : NS} (hs : s.Ok g p) (t : ByteArray) : HearOk g p s t (s.hear g p t) := by
  have h0 := hs.hear hp t
  have hnot : ∀ {k : Nat}, k ≠ 5 → ¬ (k = 5) := fun h => h
  refine ⟨h0, ?_, ?_, ?_, ?_, ?_⟩ <;> unfold NS.hear <;> cases e : rAll g.n g.W g.B g.L t with
  | some v => simp
  | none =>
    simp only
    have hK : s.newK g p (dataOf g.n t) = 0 ∨ s.newK g p (dataOf g.n t) = 7 ∨ s.newK g p (dataOf g.n t) = 8 := by
      unfold NS.newK
      split
      · simp
      · split
        · simp
        · split <;> simp
    have hps : byt t 2 = 1 → (∀ u ∈ passL (textM g p (dataOf g.n t)) p (byt t 5) (byt t 4) g.n, PkOk g u) ∧ (passL (textM g p (dataOf g.n t)) p (byt t 5) (byt t 4) g.n).length ≤ g.n := fun h2 => by
      obtain ⟨h5, h6⟩ := data_ok e h2
      have he := passL_enc g p (dataOf g.n t) (byt t 4)
      rw [show (dataOf g.n t).org = ((byt t 5 : Nat) : Int) from rfl] at he
      rw [he]
      exact ⟨pass_ok hg hp h5 _, by rw [List.length_map]; exact passM_length⟩
    generalize s.newK g p (dataOf g.n t) = K at *
    by_cases h4 : byt t 4 = p
    · simp [h4]
    · by_cases h2 : byt t 2 = 1
      · have hps2 := hps h2
        by_cases h5 : byt t 5 = p
        · simp [h4, h2, h5]
        · by_cases hk0 : K = 0
          · simp [h4, h2, h5, hk0]
            try exact hps2.1
            try exact hps2.2
          · simp only [if_neg h4, if_pos h2, if_neg h5, if_neg hk0]
            first | (simp; done) | omega | (simp; omega)
      · simp [h4, h2]
section
variable {g : Gr} {x : MNet} {m : Nat}
theorem Wld.more (h : Wld g x m) : Wld g x (m + 1) := ⟨h.nd, h.bag, fun p hp => ⟨(h.ref p hp).1, by have := (h.ref p hp).2; omega⟩, by have := h.few; omega⟩
theorem Wld.drop (h : Wld g x m) (k : Nat) : Wld g { x with bag := x.bag.eraseIdx k } (m + 1) :=
  ⟨h.nd, fun t ht => h.bag t (List.mem_of_mem_eraseIdx ht), fun p hp => ⟨(h.ref p hp).1, by have := (h.ref p hp).2; show x.ref p ≤ _; omega⟩, by have := h.few; have := List.length_eraseIdx_le x.bag k; show (x.bag.eraseIdx k).length ≤ _; omega⟩
theorem Wld.tick (h : Wld g x m) (hg : g.Ok) {p : Nat} (hp : p < g.n) : Wld g (x.tick g p) (m + 1) :=
  ⟨h.nd, fun t ht => by
    rcases List.mem_append.1 ht with h1 | h1
    · exact h.bag t h1
    · exact tick_ok hg hp (h.nd p hp) t h1, fun q hq => ⟨(h.ref q hq).1, by have := (h.ref q hq).2; show x.ref q ≤ _; omega⟩, by
      have h1 := h.few
      have h2 := tick_few hg (h.nd p hp)
      show (x.bag ++ (x.nd p).tick g p).length ≤ _
      rw [List.length_append]
      omega⟩
theorem Wld.put {b : List Pk} (h : Wld g x m) {p : Nat} {s : NS} (hs : s.Ok g p) (hb : ∀ t ∈ b, PkOk g t) (hl : b.length ≤ 520 * (m + 1)) : Wld g { x.put p s with bag := b } (m + 1) :=
  ⟨fun q hq => by
    show (if q = p then s else x.nd q).Ok g q
    split
    · rename_i e; subst e; exact hs
    · exact h.nd q hq, hb, fun q hq => ⟨(h.ref q hq).1, by have := (h.ref q hq).2; show x.ref q ≤ _; omega⟩, hl⟩
theorem Wld.refuse {b : List Pk} (h : Wld g x m) {p : Nat} {s : NS} (hs : s.Ok g p) (hb : ∀ t ∈ b, PkOk g t) (hl : b.length ≤ 520 * (m + 1)) : Wld g (MNet.refuse { x.put p s with bag := b } p) (m + 1) :=
  ⟨(h.put hs hb hl).nd, hb, fun q hq => by
    have h1 := h.ref q hq
    show 0 ≤ (if q = p then x.ref p + 1 else x.ref q) ∧ (if q = p then x.ref p + 1 else x.ref q) ≤ _
    split
    · rename_i e; subst e; constructor <;> omega
    · constructor <;> omega, hl⟩
theorem Wld.deliver (h : Wld g x m) (hg : g.Ok) (k : Nat) {to : Nat} (t : ByteArray) (hto : to < g.n) : HearOk g to (x.nd to) t ((x.nd to).hear g to t) ∧ Wld g (x.deliver g k ⟨(to : Int), t⟩) (m + 1) := by
  have hh := hear_ok hg hto (h.nd to hto) t
  refine ⟨hh, ?_⟩
  have hb : ∀ u ∈ x.bag.eraseIdx k ++ ((x.nd to).hear g to t).ps, PkOk g u := fun u hu => by
    rcases List.mem_append.1 hu with h1 | h1
    · exact h.bag u (List.mem_of_mem_eraseIdx h1)
    · exact hh.ps u h1
  have hl : (x.bag.eraseIdx k ++ ((x.nd to).hear g to t).ps).length ≤ 520 * (m + 1) := by
    have h1 := h.few
    have h2 := List.length_eraseIdx_le x.bag k
    have h3 := hh.few
    have h4 := hg.n.2
    rw [List.length_append]
    omega
  unfold MNet.deliver
  show Wld g (let r := (x.nd ((to : Int).toNat)).hear g ((to : Int).toNat) t; let z : MNet := { x.put ((to : Int).toNat) r.s with bag := x.bag.eraseIdx k ++ r.ps }; if r.k = 0 then z else z.refuse ((to : Int).toNat)) _
  rw [Int.toNat_natCast]
  simp only
  split
  · exact h.put hh.ok hb hl
  · exact h.refuse hh.ok hb hl
/-- A text that nobody sent comes to a node. -/
theorem Wld.forge (h : Wld g x m) (hg : g.Ok) {p : Nat} (hp : p < g.n) (t : ByteArray) : HearOk g p (x.nd p) t ((x.nd p).hear g p t) ∧ Wld g (MNet.deliver g { x with bag := x.bag ++ [(⟨(p : Int), t⟩ : Pk)] } x.bag.length ⟨(p : Int), t⟩) (m + 1) := by
  have hh := hear_ok hg hp (h.nd p hp) t
  refine ⟨hh, ?_⟩
  have he : (x.bag ++ [(⟨(p : Int), t⟩ : Pk)]).eraseIdx x.bag.length = x.bag := by
    rw [List.eraseIdx_append_of_length_le (Nat.le_refl _)]
    simp
  have hb : ∀ u ∈ x.bag ++ ((x.nd p).hear g p t).ps, PkOk g u := fun u hu => by
    rcases List.mem_append.1 hu with h1 | h1
    · exact h.bag u h1
    · exact hh.ps u h1
  have hl : (x.bag ++ ((x.nd p).hear g p t).ps).length ≤ 520 * (m + 1) := by
    have h1 := h.few
    have h3 := hh.few
    have h4 := hg.n.2
    rw [List.length_append]
    omega
  unfold MNet.deliver
  show Wld g (let r := (x.nd ((p : Int).toNat)).hear g ((p : Int).toNat) t; let z : MNet := { x.put ((p : Int).toNat) r.s with bag := (x.bag ++ [(⟨(p : Int), t⟩ : Pk)]).eraseIdx x.bag.length ++ r.ps }; if r.k = 0 then z else z.refuse ((p : Int).toNat)) _
  rw [Int.toNat_natCast]
  simp only
  rw [he]
  split
  · exact h.put hh.ok hb hl
  · exact h.refuse hh.ok hb hl
theorem Wld.say (h : Wld g x m) (hg : g.Ok) {p : Nat} (hp : p < g.n) (body : ByteArray) : Wld g (x.sayR g p body).x (m + 1) := by
  rw [sayR_eq hp]
  show Wld g (x.say g p body) (m + 1)
  by_cases hK : (x.nd p).sayK g p body.size = 0
  · obtain ⟨h1, h2, h3⟩ := sayK_zero hK
    have he : (x.nd p).say g p body = ⟨0, vw (x.nd p).vs p p + 1, NS.sayL g p ((x.nd p).word g p body), (x.nd p).said g p ((x.nd p).word g p body)⟩ := if_pos hK
    have hwo := NS.word_ok (h.nd p hp) hg hp h1 h2 h3
    have hso := (h.nd p hp).said hp hwo rfl rfl (by show vw (x.nd p).vs p p + 1 ≤ _; omega)
    have hx : x.say g p body = { x.put p ((x.nd p).said g p ((x.nd p).word g p body)) with bag := x.bag ++ NS.sayL g p ((x.nd p).word g p body) } := by
      unfold MNet.say
      rw [he]
    rw [hx, sayL_enc g p _ rfl]
    refine h.put hso (fun u hu => ?_) ?_
    · rcases List.mem_append.1 hu with h4 | h4
      · exact h.bag u h4
      · exact pass_ok hg hp hwo _ u h4
    · have h4 := h.few
      have h5 := passM_length (g := g) (p := p) (f := (x.nd p).word g p body) (fr := p)
      have h6 := hg.n.2
      rw [List.length_append, List.length_map]
      omega
  · have he : (x.nd p).say g p body = ⟨(x.nd p).sayK g p body.size, 0, [], x.nd p⟩ := if_neg hK
    have hx : x.say g p body = x := by
      unfold MNet.say
      rw [he]
      have e : (fun q => if q = p then x.nd p else x.nd q) = x.nd := upd_self x.nd p
      simp only [MNet.put, e, List.append_nil]
    rw [hx]
    exact h.more
end
end Go.Proofs.YtabecbjfamphbaaGreatDoor

/- hearsaykeep: few. -/
namespace Go.Proofs.YtabecbjfamphbaaGreatDoor
open Go.RowKit Go.Stop Go.Extern

theorem kept_win {g : Gr} {p : Nat} {s : NS} (h : s.Ok g p) (hg : g.Ok) (o : Nat) : (cntW s.kept o : Int) ≤ g.W := by
  rw [cntW_kept]
  have h1 := h.few o
  have h2 := hg.W
  omega
set_option maxRecDepth 100000 in
set_option maxHeartbeats 1000000 in
theorem few_any (A : Nat → Addr) (base z rb : Nat) (g : Gr) (x : MNet) (sd : List Sd) (sn : List Sn) (p : Nat) (hg : g.Ok) (hx : x.Ok g) (hp : p < g.n) (w : World) (hw : Sl w A base) (h : CircZ z w rb g x sd sn) :
    Calls Tryz.prog 25 #[.pointer (some ⟨rb, 0, none⟩), .int .i64 p] w fun e w' => e = .returned (.bool true) ∧ Below w.heap.size w w' := by
  obtain ⟨C, hC, _⟩ := h.how
  have HC : Hid (Circ w rb g x sd sn C) := hC
  have HSt : Hid _ := netStore A base C.fb g x C.Fx p hg hx w hw hC.net
  rw [store_net hp] at HSt
  have HWn : Hid (∀ o, (cntW (x.nd p).kept o : Int) ≤ g.W) := kept_win (hx.nd p hp) hg
  have hlk := kept_few (hx.nd p hp) hg
  have HOr : Hid _ := kept_org (hx.nd p hp)
  have hn8 := hg.n.2
  have c4 := hC.c4
  clear h hx hw hC
  go_enter Tryz.func25, Tryz.ntmps25
  go_wp2_with fail
  refine (show Calls _ _ _ _ _ from HSt.out).mono ?_
  rintro e w1 ⟨⟨v1, rfl, hv1⟩, hb1⟩
  obtain ⟨al, cl, hsh⟩ := rowShaped hv1.own
  subst hsh
  have HB1 : Hid (Below w.heap.size w w1) := hb1
  have HC1 : Hid (Circ w1 rb g x sd sn C) := HC.out.low hb1
  have HCn : Hid _ := counts_any rb g.n al cl w.heap.size (x.nd p).kept w1 hn8 (by omega) HOr.out HC1.out.c0 hv1
  clear hv1 hb1 c4
  generalize (x.nd p).kept = ks at *
  go_wp2_with fail
  refine (show Calls _ _ _ _ _ from HCn.out).mono ?_
  rintro e w2 ⟨⟨cb, rfl, hcb, hrow⟩, hb2⟩
  have HRow : Hid (RowI w2 cb (cnts g.n ks)) := hrow
  have HB2 : Hid (Below w.heap.size w w2) := bthen HB1.out hb2
  have HC2 : Hid (Circ w2 rb g x sd sn C) := HC1.out.low hb2
  clear hrow hb2 hcb
  go_wp2_with fail
  go_loopw [8] (fun c wr => ∃ q : Nat, q ≤ g.n ∧ c = .int .i64 q ∧ Below w2.heap.size w2 wr) (fun c _ => g.n - (intOf c).toNat)
  case atStart => exact ⟨0, Nat.zero_le _, rfl, Below.refl _ _⟩
  case round =>
    obtain ⟨q, hqn, rfl, hb⟩ := hrel
    have HB : Hid (Below w2.heap.size w2 wr) := hb
    have c0 := (HC2.out.low hb).c0
    have c1 := (HC2.out.low hb).c1
    clear hb
    by_cases hq : q < g.n
    · have hqi : (q : Int) < (g.n : Int) := by omega
      have hc := RowI.cell (RowI.below HRow.out HB.out (RowI.lt HRow.out)) (j := q) (by rw [cnts_length]; exact hq)
      rw [cnts_get hq] at hc
      have hnw : ¬ g.W < (cntW ks q : Int) := by have := HWn.out q; omega
      generalize cntW ks q = cc at *
      go_wp2_with fail
      go_quiet (fail)
      go_wp2_with fail
      go_roundw
      case rel => exact ⟨q + 1, by omega, by go_num, by first | exact HB.out | exact HB.out.drew | exact below_drewN HB.out _⟩
      case measure => simp [intOf]; omega
    · have hqn' : q = g.n := by omega
      subst hqn'
      go_wp2_with fail
      go_ret
      exact ⟨rfl, bthen HB2.out HB.out⟩
end Go.Proofs.YtabecbjfamphbaaGreatDoor

/- The face's Decode. -/
namespace Go.Proofs.YtabecbjfamphbaaGreatDoor
open Go.RowKit Go.Stop Go.Extern

/-- The place that an error tells. -/
def IsPl (v : Value) (p : Int) : Prop :=
  (v = .nilIface ∧ p = 0) ∨ (∃ a s, v = .iface 208 (.agg #[.string s, .iface 298 (.pointer (some a))]) ∧ p = 0) ∨ (∃ t u, v = .iface 247 (.agg #[.int .i64 p, .iface t u]))
theorem place_any (v : Value) (p : Int) (h : IsPl v p) (w : World) (hT : ErrT w) : Calls Tryz.prog 141 #[v] w fun e w' => e = .returned (.int .i64 p) ∧ Below w.heap.size w w' := by
  rcases h with ⟨rfl, rfl⟩ | ⟨a, s, rfl, rfl⟩ | ⟨t, u, rfl⟩
  · exact place_nil w
  · exact place_why a s w hT
  · exact place_at p t u w hT
def placeOf : Option (Option Int) → Int
  | some (some p) => p
  | _ => 0
theorem IsF.pl {a1 : Addr} {v : Value} {r : Option (Option Int)} (h : IsF a1 v r) : IsPl v (placeOf r) := by
  rcases h.how with ⟨rfl, rfl⟩ | ⟨rfl, s, rfl⟩ | ⟨p, s, rfl, rfl⟩
  · exact Or.inl ⟨rfl, rfl⟩
  · exact Or.inr (Or.inl ⟨_, _, rfl, rfl⟩)
  · exact Or.inr (Or.inr ⟨_, _, rfl⟩)
theorem Got.keep {w w' : World} {base base' n : Nat} {K F O S Lw : Int} {vs : List Int} {body : ByteArray} {fv : Value} (h : Got w base n K F O S Lw vs body fv) (hk : ∀ g zs, base ≤ g → RowI w g zs → RowI w' g zs) (hb : base' ≤ base) : Got w' base' n K F O S Lw vs body fv := by
  obtain ⟨⟨g, hg, hf, hr⟩⟩ := h
  exact ⟨⟨g, Nat.le_trans hb hg, hf, hk g _ hg hr⟩⟩
theorem Read.keep {w w' : World} {base base' n : Nat} {s : ByteArray} {fv : Value} (h : Read w base n s fv) (hk : ∀ g zs, base ≤ g → RowI w g zs → RowI w' g zs) (hb : base' ≤ base) : Read w' base' n s fv := by
  rcases h with ⟨h1, h2⟩ | ⟨h1, h2⟩
  · exact Or.inl ⟨h1, h2.keep hk hb⟩
  · exact Or.inr ⟨h1, h2.keep hk hb⟩

set_option maxRecDepth 100000 in
set_option maxHeartbeats 2000000 in
theorem hDecode_of (a0 a1 : Addr) (N W B L : Int) (s : ByteArray) (T : Prop) (n : Nat) (p k : Int) (w : World) (hw : Sent w a0 a1) (hT : ErrT w)
    (hD : ∀ x, Sent x a0 a1 → Calls Tryz.prog 140 #[.agg #[.int .i64 N, .int .i64 W, .int .i64 B, .int .i64 L], .string s] x
      fun e w' => (∃ fv v, e = .returned (.tuple #[fv, v]) ∧ FrV fv ∧ IsErr a0 a1 v k ∧ IsPl v p ∧ (¬ T → fv = fz) ∧ (T → Read w' x.heap.size n s fv)) ∧ Below x.heap.size x w') :
    Calls Tryz.prog 85 #[.agg #[.int .i64 N, .int .i64 W, .int .i64 B, .int .i64 L], .string s] w
      fun e w' => (∃ fv, e = .returned (.tuple #[fv, .int .i64 p, .int .i64 k]) ∧ (¬ T → fv = fz) ∧ (T → Read w' w.heap.size n s fv)) ∧ Below w.heap.size w w' := by
  have HW : Hid (Sent w a0 a1) := hw
  have HT : Hid (ErrT w) := hT
  have HX : Hid _ := hD
  clear hw hT hD
  have HP0 : Hid _ := pen_start w N W B L 26 45
  go_enter Tryz.func85, Tryz.ntmps85
  go_wp2_with fail
  refine (HX.out _ ((HW.out.alloc _).alloc _)).mono ?_
  rintro e w1 ⟨⟨fv, v, rfl, hfv, herr, hpl, hno, hyes⟩, hb⟩
  obtain ⟨K', F', O', S', L', ad, len, cap, bd, rfl⟩ := hfv
  have HErr : Hid (IsErr a0 a1 v k) := herr
  have HPl : Hid (IsPl v p) := hpl
  have HNo : Hid _ := hno
  have HYes : Hid _ := hyes
  have HA1 : Hid (Below w.heap.size w w1) := bthen (below2 _ _ _) hb
  have HS1 : Hid (Slots (w.heap.size + 1) w1) := (HP0.out.below hb HP0.out.z).s
  have hz1 : w.heap.size + 1 < w1.heap.size := (HP0.out.below hb HP0.out.z).z
  clear herr hpl hno hyes hb
  go_wp2_with fail
  have hal : Below w1.heap.size w1 (w1.alloc (.cells #[.int .i64 K', .int .i64 F', .int .i64 O', .int .i64 S', .int .i64 L', .slice ad len cap, .string bd] 45)) := (Below.refl _ _).alloc (Nat.le_refl _) _
  have hsev := seven_alloc w1 (.int .i64 K') (.int .i64 F') (.int .i64 O') (.int .i64 S') (.int .i64 L') (.slice ad len cap) (.string bd) 45
  have hbig : w1.heap.size < (w1.alloc (.cells #[.int .i64 K', .int .i64 F', .int .i64 O', .int .i64 S', .int .i64 L', .slice ad len cap, .string bd] 45)).heap.size := by simp
  generalize w1.alloc (.cells #[.int .i64 K', .int .i64 F', .int .i64 O', .int .i64 S', .int .i64 L', .slice ad len cap, .string bd] 45) = X at *
  have HAL : Hid (Below w1.heap.size w1 X) := hal
  have HAX : Hid (Below w.heap.size w X) := bthen HA1.out hal
  have HSX : Hid (Slots (w.heap.size + 1) X) := HS1.out.below hal hz1
  have HQX : Hid (Seven w1.heap.size X _ _ _ _ _ _ _) := hsev
  have hxz : w.heap.size + 1 < X.heap.size := by omega
  obtain ⟨q0, q1, q2, q3, q4, q5, q6, qz⟩ := hsev
  clear hal
  have HSXd : Hid (Slots (w.heap.size + 1) X.drew) := HSX.out.below (c := X.heap.size) (Below.refl _ _).drew hxz
  have HQXd : Hid (Seven w1.heap.size X.drew _ _ _ _ _ _ _) := HQX.out.below (c := X.heap.size) (Below.refl _ _).drew qz
  go_region_with (first
    | (go_at_call 141; refine (place_any v p HPl.out X.drew (HT.out.below HAX.out.drew)).mono ?_; rintro e w2 ⟨rfl, hb2⟩; have HA2 : Hid (Below w.heap.size w w2) := bthen HAX.out.drew hb2; have HS2 : Hid (Slots (w.heap.size + 1) w2) := HSXd.out.below hb2 HSXd.out.z; have HQ2 : Hid _ := HQXd.out.below hb2 HQXd.out.z; have hQ2 := HQ2.out; obtain ⟨p0, p1, p2, p3, p4, p5, p6, pz⟩ := hQ2; have HB2 : Hid _ := hb2; clear hb2)
    | (go_at_call 53; refine (number_any a0 a1 v k HErr.out _ (HW.out.below HA2.out)).mono ?_; rintro e w3 ⟨rfl, hb3⟩; have HA3 : Hid (Below w.heap.size w w3) := bthen HA2.out hb3; have HS3 : Hid (Slots (w.heap.size + 1) w3) := HS2.out.below hb3 HS2.out.z; have HQ3 : Hid _ := HQ2.out.below hb3 HQ2.out.z; have hQ3 := HQ3.out; obtain ⟨o0, o1, o2, o3, o4, o5, o6, oz⟩ := hQ3; have HB3 : Hid _ := hb3; have fr3 := HS3.out.f; obtain ⟨u0, hu0⟩ := HS3.out.r 0 (by omega); obtain ⟨u1, hu1⟩ := HS3.out.r 1 (by omega); obtain ⟨u2, hu2⟩ := HS3.out.r 2 (by omega); obtain ⟨u3, hu3⟩ := HS3.out.r 3 (by omega); obtain ⟨u4, hu4⟩ := HS3.out.r 4 (by omega); obtain ⟨u5, hu5⟩ := HS3.out.r 5 (by omega); obtain ⟨u6, hu6⟩ := HS3.out.r 6 (by omega); clear hb3))
  all_goals
    go_wp2
    have hB13 : Below w1.heap.size w1 w3 := bthen (bthen HAL.out.drew HB2.out) HB3.out
    obtain ⟨r0, r1, r2, r3, r4, r5, r6⟩ := Slots.seven HS3.out (.int .i64 K') (.int .i64 F') (.int .i64 O') (.int .i64 S') (.int .i64 L') (.slice ad len cap) (.string bd) _ rfl
    refine bodyPost_ret (v := .tuple #[.agg #[.int .i64 K', .int .i64 F', .int .i64 O', .int .i64 S', .int .i64 L', .slice ad len cap, .string bd], .int .i64 p, .int .i64 k]) (by simp [results, Tryz.results85, go_sem, r0, r1, r2, r3, r4, r5, r6]) rfl ⟨⟨_, rfl, HNo.out, fun h => (HYes.out h).keep (fun g zs hg hr => (hr.below hB13 hr.lt).set7 (by simp at hg; omega) _ _ _ _ _ _ _) (by simp; omega)⟩, below_set7 HA3.out (by omega) _ _ _ _ _ _ _⟩
theorem hDecode_no (a0 a1 : Addr) (N W B L : Int) (s : ByteArray) (w : World) (hw : Sent w a0 a1) (hT : ErrT w) (hG : okG N W B L = false) :
    Calls Tryz.prog 85 #[.agg #[.int .i64 N, .int .i64 W, .int .i64 B, .int .i64 L], .string s] w fun e w' => e = .returned (.tuple #[fz, .int .i64 0, .int .i64 1]) ∧ Below w.heap.size w w' := by
  refine (hDecode_of a0 a1 N W B L s False 0 0 1 w hw hT fun x hx => (wireDecode_no a0 a1 N W B L s x hx hG).mono ?_).mono ?_
  · rintro e w' ⟨⟨t, rfl⟩, hb⟩
    exact ⟨⟨_, _, rfl, ⟨_, _, _, _, _, _, _, _, _, rfl⟩, ⟨Or.inr (Or.inl ⟨_, rfl, rfl⟩)⟩, Or.inr (Or.inl ⟨_, _, rfl, rfl⟩), fun _ => rfl, fun h => h.elim⟩, hb⟩
  · rintro e w' ⟨⟨fv, rfl, h1, -⟩, hb⟩
    rw [h1 (fun h => h)]
    exact ⟨rfl, hb⟩
theorem hDecode_yes (a0 a1 : Addr) (n : Nat) (W B L : Int) (s : ByteArray) (w : World) (hw : Sent w a0 a1) (hT : ErrT w) (hG : okG n W B L = true) (hs : s.size ≤ maxLen) :
    Calls Tryz.prog 85 #[.agg #[.int .i64 (n : Int), .int .i64 W, .int .i64 B, .int .i64 L], .string s] w
      fun e w' => (∃ fv, e = .returned (.tuple #[fv, .int .i64 (placeOf (rAll n W B L s)), .int .i64 (if rAll n W B L s = none then 0 else 5)]) ∧ (¬ rAll n W B L s = none → fv = fz) ∧ (rAll n W B L s = none → Read w' w.heap.size n s fv)) ∧ Below w.heap.size w w' := by
  refine hDecode_of a0 a1 n W B L s (rAll n W B L s = none) n _ _ w hw hT fun x hx => (wireDecode_yes a0 a1 n W B L s x hx hG hs).mono ?_
  rintro e w' ⟨⟨fv, v, rfl, hfv, hv, hno, hyes⟩, hb⟩
  refine ⟨⟨fv, v, rfl, hfv, hv.err, hv.pl, ?_, hyes⟩, hb⟩
  intro h
  cases hr : rAll n W B L s with
  | none => exact absurd hr h
  | some x => exact hno x hr
end Go.Proofs.YtabecbjfamphbaaGreatDoor

/- A frame's seven cells over draws. -/
namespace Go.Proofs.YtabecbjfamphbaaGreatDoor
open Go.RowKit Go.Stop Go.Extern

theorem Seven.drewN {g : Nat} {x : World} {v0 v1 v2 v3 v4 v5 v6 : Value} (h : Seven g x v0 v1 v2 v3 v4 v5 v6) (n : Nat) : Seven g (x.drewN n) v0 v1 v2 v3 v4 v5 v6 := h.below (c := x.heap.size) (below_drewN (Below.refl _ _) n) h.z
end Go.Proofs.YtabecbjfamphbaaGreatDoor

/- A slice of numbers of the call's own. -/
namespace Go.Proofs.YtabecbjfamphbaaGreatDoor
open Go.RowKit Go.Stop Go.Extern

/-- A slice of numbers of the call's own. -/
def OwnI (w : World) (base : Nat) (v : Value) (l : List Int) : Prop := w.ownsRow base 3 1 v l.length (l.map (Value.int .i64))
theorem OwnI.alloc {w : World} {base : Nat} {v : Value} {l : List Int} (h : OwnI w base v l) (o : Obj) : OwnI (w.alloc o) base v l := World.ownsRow.alloc h o
theorem OwnI.block {w : World} {base : Nat} {v : Value} {l : List Int} (h : OwnI w base v l) : ∀ k, v.ownBlock = some k → base ≤ k := by
  intro k hk
  rcases h.2 with ⟨rfl, _⟩ | ⟨g, cap, cur, rfl, hg, _⟩
  · cases hk
  · cases hk; exact hg
theorem OwnI.snoc {w w' : World} {base : Nat} {v v' : Value} {l : List Int} (y : Int) (o : Obj) (_h : OwnI w base v l) (h' : w'.ownsRow base 3 1 v' (l.length + 1) (l.map (Value.int .i64) ++ [Value.int .i64 y])) (hg : (w.alloc o).grownBy w' v.ownBlock) (hb : base ≤ w.heap.size) : OwnI w' base v' (l ++ [y]) ∧ Below base w w' := by
  refine ⟨?_, ((Below.refl _ _).alloc hb o).grown hg (by simp; omega) _h.block⟩
  unfold OwnI
  rw [List.map_append, List.length_append]
  exact h'
theorem OwnI.other {w : World} {base : Nat} {v : Value} {l : List Int} (h : OwnI w base v l) {a : Addr} (ha : a.block < base) (u : Value) : OwnI (w.setCell a u) base v l := ownsRow_setCell_below h ha u
theorem OwnI.mono {w : World} {base base' : Nat} {v : Value} {l : List Int} (h : OwnI w base v l) (hb : base' ≤ base) : OwnI w base' v l := by
  refine ⟨h.1, ?_⟩
  rcases h.2 with h | ⟨g, cap, cur, h1, h2, h3⟩
  · exact Or.inl h
  · exact Or.inr ⟨g, cap, cur, h1, Nat.le_trans hb h2, h3⟩
theorem OwnI.shape {w : World} {base : Nat} {v : Value} {l : List Int} (h : OwnI w base v l) : ∃ a c, v = .slice a l.length c := by
  rcases h.2 with ⟨rfl, h0⟩ | ⟨g, cap, cur, rfl, _⟩
  · rw [h0]; exact ⟨none, 0, rfl⟩
  · exact ⟨_, _, rfl⟩
theorem OwnI.set7 {w : World} {base b : Nat} {v : Value} {l : List Int} (h : OwnI w base v l) (hb : b < base) (v0 v1 v2 v3 v4 v5 v6 : Value) :
    OwnI (((((((w.setCell ⟨b, 0, none⟩ v0).setCell ⟨b, 1, none⟩ v1).setCell ⟨b, 2, none⟩ v2).setCell ⟨b, 3, none⟩ v3).setCell ⟨b, 4, none⟩ v4).setCell ⟨b, 5, none⟩ v5).setCell ⟨b, 6, none⟩ v6) base v l :=
  ((((((h.other hb _).other hb _).other hb _).other hb _).other hb _).other hb _).other hb _
theorem OwnI.ints {w : World} {base : Nat} {v : Value} {l : List Int} {n : Nat} (h : OwnI w base v l) (hn : l.length = n) : ∃ ad cap, v = .slice ad n cap ∧ Ints w ad n l := by
  subst hn
  rcases h.2 with ⟨rfl, h0⟩ | ⟨g, cap, cur, rfl, hg, hh, hr⟩
  · rw [List.length_eq_zero_iff.1 h0]
    exact ⟨none, 0, rfl, ⟨rfl, fun _ hi => absurd hi (Nat.not_lt_zero _)⟩⟩
  · refine ⟨_, cap, rfl, rfl, fun i hi => ⟨g, 0, rfl, lt_of_some hh, ?_⟩⟩
    have hc := World.ownsRow.cellAt h i (by simpa using hi)
    rw [Nat.zero_add, hc, List.getElem?_map, List.getElem?_eq_getElem hi, List.getD_eq_getElem?_getD, List.getElem?_eq_getElem hi]
    rfl
end Go.Proofs.YtabecbjfamphbaaGreatDoor

/- A group's cells; no numbers. -/
namespace Go.Proofs.YtabecbjfamphbaaGreatDoor
open Go.RowKit Go.Stop Go.Extern

theorem cbox (w : World) (N W B L : Int) (t : TypeId) : (w.alloc (.cells #[.int .i64 N, .int .i64 W, .int .i64 B, .int .i64 L] t)).cell? ⟨w.heap.size, 0, none⟩ = some (.int .i64 N) ∧ (w.alloc (.cells #[.int .i64 N, .int .i64 W, .int .i64 B, .int .i64 L] t)).cell? ⟨w.heap.size, 1, none⟩ = some (.int .i64 W) ∧ (w.alloc (.cells #[.int .i64 N, .int .i64 W, .int .i64 B, .int .i64 L] t)).cell? ⟨w.heap.size, 2, none⟩ = some (.int .i64 B) ∧ (w.alloc (.cells #[.int .i64 N, .int .i64 W, .int .i64 B, .int .i64 L] t)).cell? ⟨w.heap.size, 3, none⟩ = some (.int .i64 L) := by
  refine ⟨?_, ?_, ?_, ?_⟩ <;> simp
theorem ints_nil (w : World) : Ints w none 0 [] := ⟨rfl, fun _ hi => absurd hi (Nat.not_lt_zero _)⟩
end Go.Proofs.YtabecbjfamphbaaGreatDoor
