/-
  Texts that the proof needs, joined: Vb, Vc, Vd, Ve, Vf, Vg, Vh, Vi, Vj.
-/
import Derived.Test.YtabecbjfamphbaaGreatDoorT35
import Derived.Test.YtabecbjfamphbaaGreatDoorT22
/- The law's world: what both nodes answer, call for call. -/
namespace Go.Proofs.YtabecbjfamphbaaGreatDoor
open Go.RowKit Go.Stop Go.Extern

set_option maxHeartbeats 1000000 in
theorem lpick_any (c n : Int) (w : World) (hc : I64 c) (hn : 0 < n) (hn2 : n ≤ 9223372036854775807) :
    Calls Tryz.prog 69 #[.int .i64 c, .int .i64 n] w fun e w' => e = .returned (.int .i64 (pk c n)) ∧ w' = w := by
  obtain ⟨h1, h2⟩ := hc
  by_cases h0 : c < 0
  · have e1 : pk c n = -(Int.tmod (c + 1) n) := by unfold pk; rw [if_pos h0, ← Int.neg_tmod, Int.tmod_eq_emod_of_nonneg (by omega)]
    have hb := pk_bd c n hn
    rw [e1] at hb ⊢
    go_enter Tryz.func69, Tryz.ntmps69
    go_wp2_with fail
    go_ret
    exact ⟨rfl, rfl⟩
  · have e1 : pk c n = c % n := by unfold pk; rw [if_neg h0]
    have hb := pk_bd c n hn
    rw [e1] at hb ⊢
    go_enter Tryz.func69, Tryz.ntmps69
    go_wp2_with fail
    go_ret
    exact ⟨rfl, rfl⟩
theorem ints_any {w : World} {base n cap : Nat} {a : Option Addr} {vs : List Int} (h : w.ownsRow base 3 1 (.slice a n cap) n (irow vs)) : Ints w a n vs := by
  have hl : vs.length = n := by have := h.1; simp [irow] at this; exact this
  rcases h.2 with ⟨e, _⟩ | ⟨g, cap', cur, e, _⟩
  · cases e
    exact ⟨hl, fun i hi => absurd hi (Nat.not_lt_zero _)⟩
  · cases e
    exact ints_of_row h
theorem view_few {g : Gr} (hg : g.Ok) {p : Nat} {s : NS} (hs : s.Ok g p) (q : Int) : (s.view g q).length ≤ 8 ∧ ((s.view g q).length = 0 ∨ viewK g.n q = 0) := by
  have hn := hg.n
  unfold NS.view viewK isNode
  by_cases h : 0 ≤ q ∧ q < g.n
  · have e : decide (0 ≤ q ∧ q < (g.n : Int)) = true := by simpa using h
    rw [e]
    have hl := hs.clk.shp.elen q.toNat (by omega)
    simp only [if_true]
    exact ⟨by omega, Or.inr trivial⟩
  · have e : decide (0 ≤ q ∧ q < (g.n : Int)) = false := by simpa using h
    rw [e]
    exact ⟨by simp, Or.inl (by simp)⟩
/-- The law's world behind a call of a node. -/
def KW (A : Nat → Addr) (base : Nat) (R : Nat → Prop) (wb t u m : Nat) (ks : List Kn) (w w' : World) : Prop := (∃ ks' O' F', LW A base R w' wb (t + 1) (u + 1) (m + 1) ks' O' F' ∧ ks'.length = ks.length) ∧ Kp3 R wb w w'
theorem KW.of {A : Nat → Addr} {base : Nat} {R : Nat → Prop} {wb t u m : Nat} {ks : List Kn} {w0 w w' : World} (h : KW A base R wb t u m ks w w') (hs : Kp3 R wb w0 w) : KW A base R wb t u m ks w0 w' := ⟨h.1, hs.trans h.2⟩
theorem KW.less {A : Nat → Addr} {base : Nat} {R R' : Nat → Prop} {wb t u m : Nat} {ks : List Kn} {w w' : World} (h : KW A base R wb t u m ks w w') (hR : ∀ j, R' j → R j) (rb : ∀ j, j < base → R' j) : KW A base R' wb t u m ks w w' := by
  obtain ⟨⟨ks', O', F', h1, h2⟩, h3⟩ := h
  exact ⟨⟨ks', O', F', h1.less hR rb, h2⟩, h3.less hR⟩
section
variable {A : Nat → Addr} {base : Nat} {R : Nat → Prop} {w X : World} {wb t u m : Nat} {ks : List Kn} {O : Nat → Prop} {F : Nat → Nat → Prop} {i : Nat} {k : Kn}
theorem LW.pairHear (h : LW A base R w wb t u m ks O F) (hi : ks[i]? = some k) (ht : t ≤ 240000) (hu : u ≤ 240000) (hm : m ≤ 100000000) (hbX : Below w.heap.size w X) (x : ByteArray) (hx : x.size ≤ maxLen) :
    ∃ (D : World → Value → Prop) (n kk : Nat), (n = 0 ∨ (kk = 0 ∧ ((n : Int) == 0) = false)) ∧ n ≤ 1000 ∧
      (Calls Tryz.prog 59 #[.pointer (some ⟨k.fb, 0, none⟩), .string x] X fun e w1 => ∃ a c, e = .returned (.tuple #[.slice a n c, .int .i64 (kk : Int)]) ∧ D w1 (.slice a n c)) ∧
      (∀ w1 v, D w1 v → ∀ j o val, w.heap.size ≤ j → X.cell? ⟨j, o, none⟩ = some val → w1.cell? ⟨j, o, none⟩ = some val) ∧
      (∀ w1 v, D w1 v → Calls Tryz.prog 171 #[.pointer (some ⟨k.rb, 0, none⟩), .string x] w1 fun e w2 => ∃ a c, e = .returned (.tuple #[.slice a n c, .int .i64 (kk : Int)]) ∧
        Calls Tryz.prog 109 #[.pointer (some ⟨wb, 0, none⟩), v, .slice a n c] w2 fun e w' => e = .returned (.bool true) ∧ KW A base R wb t u m ks w w') := by
  have hil : i < ks.length := (List.getElem?_eq_some_iff.1 hi).1
  have hL := h.low hbX
  have hk := hL.kn i k hi
  obtain ⟨b, F1, F2, h1, h2, h3, h4, h5, h6⟩ := hk.how
  have hR := hear_ok hk.g hk.p hk.s x
  have hn := hk.g.n
  have hfew := hR.few
  refine ⟨fun w1 v => Did X w1 b k.g k.p F1 (k.s.hear k.g k.p x).s v (k.s.hear k.g k.p x).ps, (k.s.hear k.g k.p x).ps.length, (k.s.hear k.g k.p x).k, ?_, by omega, ?_, ?_, ?_⟩
  · by_cases e : (k.s.hear k.g k.p x).ps.length = 0
    · exact Or.inl e
    · refine Or.inr ⟨?_, by simp; exact fun hc => e (by rw [hc]; rfl)⟩
      by_cases e' : (k.s.hear k.g k.p x).k = 0
      · exact e'
      · exact absurd (by rw [(hR.not e').2]; rfl) e
  · refine (faceHear A base k.fb b k.g k.p k.s F1 x hk.g hk.p hk.s hx X h1 hL.sl (fun j hj => hL.bf i hil j ((h6 j).2 (Or.inr (Or.inl hj)))) h2).mono ?_
    rintro e w1 ⟨v, rfl, hd⟩
    obtain ⟨a, c, rfl⟩ := rowShaped hd.pks.own
    exact ⟨a, c, rfl, hd⟩
  · intro w1 v hd j o val hj hc
    exact hd.rest.cell hc (fun hF => by have := h.lt hil ((h6 j).2 (Or.inr (Or.inl hF))); omega)
  · intro w1 v hd
    have hr0 : RefAt w1 k.rb k.g k.p k.s m F2 := h3.alike hd.rest (fun j hj hc => (h4 j hc).1 hj)
    refine (rhear_any k.rb k.g k.p k.s m F2 x hk.g hk.p hx hm w1 hr0).mono ?_
    rintro e w2 ⟨v2, rfl, hr⟩
    obtain ⟨a, c, rfl⟩ := rowShaped hr.pks.own
    refine ⟨a, c, rfl, ?_⟩
    obtain ⟨sm, ⟨F', l1, l2⟩, p1, p2⟩ := hL.both hi h1 h2 h4 h5 h6 hR.ok hd hr
    refine (l1.sends ht hu (by omega) (fun y hy => (hR.ps y hy).2.1) p1 p2 ⟨fun j hj => hL.rl j hj, fun j hj => hL.bk.lt j hj⟩ (fun j h1 h2 i' hi' => l2 j h1 h2 i' (by simpa using hi'))).mono ?_
    rintro e w' ⟨rfl, ⟨O', hw'⟩, sm'⟩
    exact ⟨rfl, ⟨_, O', F', hw', by simp⟩, (h.same hbX).trans (sm.trans sm')⟩
theorem LW.pairSay (h : LW A base R w wb t u m ks O F) (hi : ks[i]? = some k) (ht : t ≤ 240000) (hu : u ≤ 240000) (hm : m ≤ 100000000) (hbX : Below w.heap.size w X) (x : ByteArray) :
    ∃ (D : World → Value → Prop) (n kk : Nat) (q : Int), (n = 0 ∨ (kk = 0 ∧ ((n : Int) == 0) = false)) ∧ n ≤ 1000 ∧
      (Calls Tryz.prog 54 #[.pointer (some ⟨k.fb, 0, none⟩), .string x] X fun e w1 => ∃ a c, e = .returned (.tuple #[.int .i64 q, .slice a n c, .int .i64 (kk : Int)]) ∧ D w1 (.slice a n c)) ∧
      (∀ w1 v, D w1 v → ∀ j o val, w.heap.size ≤ j → X.cell? ⟨j, o, none⟩ = some val → w1.cell? ⟨j, o, none⟩ = some val) ∧
      (∀ w1 v, D w1 v → Calls Tryz.prog 108 #[.pointer (some ⟨k.rb, 0, none⟩), .string x] w1 fun e w2 => ∃ a c, e = .returned (.tuple #[.int .i64 q, .slice a n c, .int .i64 (kk : Int)]) ∧
        Calls Tryz.prog 109 #[.pointer (some ⟨wb, 0, none⟩), v, .slice a n c] w2 fun e w' => e = .returned (.bool true) ∧ KW A base R wb t u m ks w w') := by
  have hil : i < ks.length := (List.getElem?_eq_some_iff.1 hi).1
  have hL := h.low hbX
  have hk := hL.kn i k hi
  obtain ⟨b, F1, F2, h1, h2, h3, h4, h5, h6⟩ := hk.how
  have hR := hk.s.say hk.g hk.p x
  have hP := say_pk hk.g hk.p hk.s x
  have hn := hk.g.n
  have hfew := say_few k.g k.p k.s x
  have hnot : (k.s.say k.g k.p x).k ≠ 0 → (k.s.say k.g k.p x).ps = [] := by
    unfold NS.say
    split
    · intro hc
      exact absurd rfl hc
    · intro _
      rfl
  refine ⟨fun w1 v => Did X w1 b k.g k.p F1 (k.s.say k.g k.p x).s v (k.s.say k.g k.p x).ps, (k.s.say k.g k.p x).ps.length, (k.s.say k.g k.p x).k, (k.s.say k.g k.p x).q, ?_, by omega, ?_, ?_, ?_⟩
  · by_cases e : (k.s.say k.g k.p x).ps.length = 0
    · exact Or.inl e
    · refine Or.inr ⟨?_, by simp; exact fun hc => e (by rw [hc]; rfl)⟩
      by_cases e' : (k.s.say k.g k.p x).k = 0
      · exact e'
      · exact absurd (by rw [hnot e']; rfl) e
  · refine (faceSay A base k.fb b k.g k.p k.s F1 x hk.g hk.p hk.s X h1 hL.sl (fun j hj => hL.bf i hil j ((h6 j).2 (Or.inr (Or.inl hj)))) h2).mono ?_
    rintro e w1 ⟨v, rfl, hd⟩
    obtain ⟨a, c, rfl⟩ := rowShaped hd.pks.own
    exact ⟨a, c, rfl, hd⟩
  · intro w1 v hd j o val hj hc
    exact hd.rest.cell hc (fun hF => by have := h.lt hil ((h6 j).2 (Or.inr (Or.inl hF))); omega)
  · intro w1 v hd
    have hr0 : RefAt w1 k.rb k.g k.p k.s m F2 := h3.alike hd.rest (fun j hj hc => (h4 j hc).1 hj)
    refine (rsay_any k.rb k.g k.p k.s m F2 x hk.g hk.p hm w1 hr0).mono ?_
    rintro e w2 ⟨v2, rfl, hr⟩
    obtain ⟨a, c, rfl⟩ := rowShaped hr.pks.own
    refine ⟨a, c, rfl, ?_⟩
    obtain ⟨sm, ⟨F', l1, l2⟩, p1, p2⟩ := hL.both hi h1 h2 h4 h5 h6 hR hd hr
    refine (l1.sends ht hu (by omega) (fun y hy => (hP y hy).2.1) p1 p2 ⟨fun j hj => hL.rl j hj, fun j hj => hL.bk.lt j hj⟩ (fun j h1 h2 i' hi' => l2 j h1 h2 i' (by simpa using hi'))).mono ?_
    rintro e w' ⟨rfl, ⟨O', hw'⟩, sm'⟩
    exact ⟨rfl, ⟨_, O', F', hw', by simp⟩, (h.same hbX).trans (sm.trans sm')⟩
theorem LW.pairTick (h : LW A base R w wb t u m ks O F) (hi : ks[i]? = some k) (ht : t ≤ 240000) (hu : u ≤ 240000) (hm : m ≤ 100000000) (hbX : Below w.heap.size w X) :
    ∃ (D : World → Value → Prop) (n : Nat), n ≤ 1000 ∧
      (Calls Tryz.prog 56 #[.pointer (some ⟨k.fb, 0, none⟩)] X fun e w1 => ∃ a c, e = .returned (.slice a n c) ∧ D w1 (.slice a n c)) ∧
      (∀ w1 v, D w1 v → ∀ j o val, w.heap.size ≤ j → X.cell? ⟨j, o, none⟩ = some val → w1.cell? ⟨j, o, none⟩ = some val) ∧
      (∀ w1 v, D w1 v → Calls Tryz.prog 111 #[.pointer (some ⟨k.rb, 0, none⟩)] w1 fun e w2 => ∃ a c, e = .returned (.slice a n c) ∧
        Calls Tryz.prog 109 #[.pointer (some ⟨wb, 0, none⟩), v, .slice a n c] w2 fun e w' => e = .returned (.bool true) ∧ KW A base R wb t u m ks w w') := by
  have hil : i < ks.length := (List.getElem?_eq_some_iff.1 hi).1
  have hL := h.low hbX
  have hk := hL.kn i k hi
  obtain ⟨b, F1, F2, h1, h2, h3, h4, h5, h6⟩ := hk.how
  have hfew := tick_few hk.g hk.s
  refine ⟨fun w1 v => Pks w1 X.heap.size v (k.s.tick k.g k.p) ∧ Below X.heap.size X w1, (k.s.tick k.g k.p).length, by omega, ?_, ?_, ?_⟩
  · refine (faceTick A base k.fb b k.g k.p k.s F1 hk.g hk.p hk.s X h1 hL.sl h2).mono ?_
    rintro e w1 ⟨⟨v, rfl, hp⟩, hb⟩
    obtain ⟨a, c, rfl⟩ := rowShaped hp.own
    exact ⟨a, c, rfl, hp, hb⟩
  · intro w1 v hd j o val hj hc
    exact (hd.2.cell (p := ⟨j, o, none⟩) (lt_of_cell hc)).trans hc
  · intro w1 v ⟨hp, hb⟩
    refine (refTick k.rb k.g k.p k.s m F2 hk.g hk.p hm w1 (h3.low hb)).mono ?_
    rintro e w2 ⟨⟨v2, rfl, hp2⟩, hb2⟩
    obtain ⟨a, c, rfl⟩ := rowShaped hp2.own
    refine ⟨a, c, rfl, ?_⟩
    have l1 := (hL.low hb).low hb2
    refine (l1.sends ht hu (by omega) (fun y hy => (tick_ok hk.g hk.p hk.s y hy).2.1) (hp.alike (Alike.of_below hb2 (fun _ => False)) (fun _ _ _ h => h)) hp2 ⟨fun j hj => hL.rl j hj, fun j hj => hL.bk.lt j hj⟩ (fun j h1 _ i' hi' hc => by have := hL.lt hi' hc; omega)).mono ?_
    rintro e w' ⟨rfl, ⟨O', hw'⟩, sm'⟩
    exact ⟨rfl, ⟨_, O', _, hw'.more (Nat.le_refl _) (Nat.le_refl _) (Nat.le_succ _), rfl⟩, (h.same hbX).trans ((hL.same hb).trans (((hL.low hb).same hb2).trans sm'))⟩
theorem LW.pairWords (h : LW A base R w wb t u m ks O F) (ht : t ≤ 240000) (hbX : Below w.heap.size w X) {w1 w2 : World} {v v2 : Value} {ws : List Wd} (hws : ws.length ≤ 1000000) (hp : Wrd w1 X.heap.size v ws) (hb : Below X.heap.size X w1) (hp2 : Wrd w2 w1.heap.size v2 ws) (hb2 : Below w1.heap.size w1 w2) :
    Calls Tryz.prog 113 #[v, v2] w2 fun e w3 => e = .returned (.bool true) ∧ Calls Tryz.prog 114 #[.pointer (some ⟨wb, 0, none⟩), v] w3 fun e w' => e = .returned (.tuple #[]) ∧ KW A base R wb t u m ks w w' := by
  have hL := h.low hbX
  obtain ⟨a, c, rfl⟩ := rowShaped hp.own
  obtain ⟨a2, c2, rfl⟩ := rowShaped hp2.own
  have hp' : Wrd w2 X.heap.size (.slice a ws.length c) ws := ⟨row_low hp.own hb2⟩
  refine (lsameWords_any _ _ a a2 c c2 ws hws w2 hp' hp2).mono ?_
  rintro e w3 ⟨rfl, hb3⟩
  refine ⟨rfl, ?_⟩
  have l1 := ((hL.low hb).low hb2).low hb3
  refine (l1.keepsW ht hws (⟨row_low hp'.own hb3⟩ : Wrd w3 X.heap.size (.slice a ws.length c) ws) ⟨fun j hj => hL.rl j hj, fun j hj => hL.bk.lt j hj, fun i' hi' j hj => hL.lt hi' hj⟩).mono ?_
  rintro e w' ⟨rfl, ⟨O', hw'⟩, sm'⟩
  exact ⟨rfl, ⟨_, O', _, hw'.more (Nat.le_refl _) (Nat.le_succ _) (Nat.le_succ _), rfl⟩, (h.same hbX).trans ((hL.same hb).trans (((hL.low hb).same hb2).trans ((((hL.low hb).low hb2).same hb3).trans sm')))⟩
theorem LW.pairInts (h : LW A base R w wb t u m ks O F) (ht : t ≤ 240000) (hbX : Below w.heap.size w X) {w1 w2 : World} {v v2 : Value} {n : Nat} {vs : List Int} (hws : n ≤ 1000) (hp : w1.ownsRow X.heap.size 3 1 v n (irow vs)) (hb : Below X.heap.size X w1) (hp2 : w2.ownsRow w1.heap.size 3 1 v2 n (irow vs)) (hb2 : Below w1.heap.size w1 w2) :
    Calls Tryz.prog 117 #[v, v2] w2 fun e w3 => e = .returned (.bool true) ∧ Calls Tryz.prog 118 #[.pointer (some ⟨wb, 0, none⟩), v] w3 fun e w' => e = .returned (.tuple #[]) ∧ KW A base R wb t u m ks w w' := by
  have hL := h.low hbX
  obtain ⟨a, c, rfl⟩ := rowShaped hp
  obtain ⟨a2, c2, rfl⟩ := rowShaped hp2
  have hp' := row_low hp hb2
  refine (sameInts_true a a2 n c c2 vs w2 (ints_any hp') (ints_any hp2) hws).mono ?_
  rintro e w3 ⟨rfl, hb3⟩
  refine ⟨rfl, ?_⟩
  have l1 := ((hL.low hb).low hb2).low hb3
  refine (l1.keepsI ht (by omega) (row_low hp' hb3) ⟨fun j hj => hL.rl j hj, fun j hj => hL.bk.lt j hj, fun i' hi' j hj => hL.lt hi' hj⟩).mono ?_
  rintro e w' ⟨rfl, ⟨O', hw'⟩, sm'⟩
  exact ⟨rfl, ⟨_, O', _, hw'.more (Nat.le_refl _) (Nat.le_succ _) (Nat.le_succ _), rfl⟩, (h.same hbX).trans ((hL.same hb).trans (((hL.low hb).same hb2).trans ((((hL.low hb).low hb2).same hb3).trans sm')))⟩
theorem LW.pairHeard (h : LW A base R w wb t u m ks O F) (hi : ks[i]? = some k) (ht : t ≤ 240000) (hbX : Below w.heap.size w X) :
    ∃ (D : World → Value → Prop) (n : Nat),
      (Calls Tryz.prog 30 #[.pointer (some ⟨k.fb, 0, none⟩)] X fun e w1 => ∃ a c, e = .returned (.slice a n c) ∧ D w1 (.slice a n c)) ∧
      (∀ w1 v, D w1 v → ∀ j o val, w.heap.size ≤ j → X.cell? ⟨j, o, none⟩ = some val → w1.cell? ⟨j, o, none⟩ = some val) ∧
      (∀ w1 v, D w1 v → Calls Tryz.prog 112 #[.pointer (some ⟨k.rb, 0, none⟩)] w1 fun e w2 => ∃ a c, e = .returned (.slice a n c) ∧
        Calls Tryz.prog 113 #[v, .slice a n c] w2 fun e w3 => e = .returned (.bool true) ∧ Calls Tryz.prog 114 #[.pointer (some ⟨wb, 0, none⟩), v] w3 fun e w' => e = .returned (.tuple #[]) ∧ KW A base R wb t u m ks w w') := by
  have hL := h.low hbX
  have hk := hL.kn i k hi
  obtain ⟨b, F1, F2, h1, h2, h3, h4, h5, h6⟩ := hk.how
  have hfew := hk.s.clk.short hk.g hk.p
  refine ⟨fun w1 v => Wrd w1 X.heap.size v k.s.hs ∧ Below X.heap.size X w1, k.s.hs.length, ?_, ?_, ?_⟩
  · refine (faceHeard k.fb b k.g k.p k.s F1 hk.g hk.p hk.s X h1 h2).mono ?_
    rintro e w1 ⟨⟨v, rfl, hp⟩, hb⟩
    obtain ⟨a, c, rfl⟩ := rowShaped hp.own
    exact ⟨a, c, rfl, hp, hb⟩
  · intro w1 v hd j o val hj hc
    exact (hd.2.cell (p := ⟨j, o, none⟩) (lt_of_cell hc)).trans hc
  · intro w1 v ⟨hp, hb⟩
    refine (refHeard k.rb k.g k.p k.s m F2 hk.g hk.p w1 (h3.low hb)).mono ?_
    rintro e w2 ⟨⟨v2, rfl, hp2⟩, hb2⟩
    obtain ⟨a, c, rfl⟩ := rowShaped hp2.own
    exact ⟨a, c, rfl, h.pairWords ht hbX (by omega) hp hb hp2 hb2⟩
theorem LW.pairStore (h : LW A base R w wb t u m ks O F) (hi : ks[i]? = some k) (ht : t ≤ 240000) (hm : m ≤ 100000000) (hbX : Below w.heap.size w X) :
    ∃ (D : World → Value → Prop) (n : Nat),
      (Calls Tryz.prog 32 #[.pointer (some ⟨k.fb, 0, none⟩)] X fun e w1 => ∃ a c, e = .returned (.slice a n c) ∧ D w1 (.slice a n c)) ∧
      (∀ w1 v, D w1 v → ∀ j o val, w.heap.size ≤ j → X.cell? ⟨j, o, none⟩ = some val → w1.cell? ⟨j, o, none⟩ = some val) ∧
      (∀ w1 v, D w1 v → Calls Tryz.prog 115 #[.pointer (some ⟨k.rb, 0, none⟩)] w1 fun e w2 => ∃ a c, e = .returned (.slice a n c) ∧
        Calls Tryz.prog 113 #[v, .slice a n c] w2 fun e w3 => e = .returned (.bool true) ∧ Calls Tryz.prog 114 #[.pointer (some ⟨wb, 0, none⟩), v] w3 fun e w' => e = .returned (.tuple #[]) ∧ KW A base R wb t u m ks w w') := by
  have hL := h.low hbX
  have hk := hL.kn i k hi
  obtain ⟨b, F1, F2, h1, h2, h3, h4, h5, h6⟩ := hk.how
  have hfew := kept_few hk.s hk.g
  refine ⟨fun w1 v => Wrd w1 X.heap.size v k.s.kept ∧ Below X.heap.size X w1, k.s.kept.length, ?_, ?_, ?_⟩
  · refine (faceStore k.fb b k.g k.p k.s F1 hk.g hk.s X h1 h2).mono ?_
    rintro e w1 ⟨⟨v, rfl, hp⟩, hb⟩
    obtain ⟨a, c, rfl⟩ := rowShaped hp.own
    exact ⟨a, c, rfl, hp, hb⟩
  · intro w1 v hd j o val hj hc
    exact (hd.2.cell (p := ⟨j, o, none⟩) (lt_of_cell hc)).trans hc
  · intro w1 v ⟨hp, hb⟩
    refine (refStore k.rb k.g k.p k.s m F2 hk.g hk.p hm w1 (h3.low hb)).mono ?_
    rintro e w2 ⟨⟨v2, rfl, hp2⟩, hb2⟩
    obtain ⟨a, c, rfl⟩ := rowShaped hp2.own
    exact ⟨a, c, rfl, h.pairWords ht hbX (by omega) hp hb hp2 hb2⟩
theorem LW.pairClock (h : LW A base R w wb t u m ks O F) (hi : ks[i]? = some k) (ht : t ≤ 240000) (hbX : Below w.heap.size w X) :
    ∃ (D : World → Value → Prop) (n : Nat),
      (Calls Tryz.prog 33 #[.pointer (some ⟨k.fb, 0, none⟩)] X fun e w1 => ∃ a c, e = .returned (.slice a n c) ∧ D w1 (.slice a n c)) ∧
      (∀ w1 v, D w1 v → ∀ j o val, w.heap.size ≤ j → X.cell? ⟨j, o, none⟩ = some val → w1.cell? ⟨j, o, none⟩ = some val) ∧
      (∀ w1 v, D w1 v → Calls Tryz.prog 116 #[.pointer (some ⟨k.rb, 0, none⟩)] w1 fun e w2 => ∃ a c, e = .returned (.slice a n c) ∧
        Calls Tryz.prog 117 #[v, .slice a n c] w2 fun e w3 => e = .returned (.bool true) ∧ Calls Tryz.prog 118 #[.pointer (some ⟨wb, 0, none⟩), v] w3 fun e w' => e = .returned (.tuple #[]) ∧ KW A base R wb t u m ks w w') := by
  have hL := h.low hbX
  have hk := hL.kn i k hi
  obtain ⟨b, F1, F2, h1, h2, h3, h4, h5, h6⟩ := hk.how
  have hn := hk.g.n
  refine ⟨fun w1 v => w1.ownsRow X.heap.size 3 1 v k.g.n (irow (k.s.vs.getD k.p [])) ∧ Below X.heap.size X w1, k.g.n, ?_, ?_, ?_⟩
  · refine (faceClock k.fb b k.g k.p k.s F1 hk.g hk.p X h1 h2).mono ?_
    rintro e w1 ⟨⟨v, rfl, hp⟩, hb⟩
    obtain ⟨a, c, rfl⟩ := rowShaped hp
    exact ⟨a, c, rfl, hp, hb⟩
  · intro w1 v hd j o val hj hc
    exact (hd.2.cell (p := ⟨j, o, none⟩) (lt_of_cell hc)).trans hc
  · intro w1 v ⟨hp, hb⟩
    refine (refClock k.rb k.g k.p k.s m F2 hk.g hk.p w1 (h3.low hb)).mono ?_
    rintro e w2 ⟨⟨v2, rfl, hp2⟩, hb2⟩
    obtain ⟨a, c, rfl⟩ := rowShaped hp2
    exact ⟨a, c, rfl, h.pairInts ht hbX (by omega) hp hb hp2 hb2⟩
theorem LW.pairView (h : LW A base R w wb t u m ks O F) (hi : ks[i]? = some k) (ht : t ≤ 240000) (hm : m ≤ 100000000) (hbX : Below w.heap.size w X) (q : Int) :
    ∃ (D : World → Value → Prop) (n kk : Nat), (n = 0 ∨ (kk = 0 ∧ ((n : Int) == 0) = false)) ∧ n ≤ 1000 ∧
      (Calls Tryz.prog 119 #[.pointer (some ⟨k.fb, 0, none⟩), .int .i64 q] X fun e w1 => ∃ a c, e = .returned (.tuple #[.slice a n c, .int .i64 (kk : Int)]) ∧ D w1 (.slice a n c)) ∧
      (∀ w1 v, D w1 v → ∀ j o val, w.heap.size ≤ j → X.cell? ⟨j, o, none⟩ = some val → w1.cell? ⟨j, o, none⟩ = some val) ∧
      (∀ w1 v, D w1 v → Calls Tryz.prog 120 #[.pointer (some ⟨k.rb, 0, none⟩), .int .i64 q] w1 fun e w2 => ∃ a c, e = .returned (.tuple #[.slice a n c, .int .i64 (kk : Int)]) ∧
        Calls Tryz.prog 117 #[v, .slice a n c] w2 fun e w3 => e = .returned (.bool true) ∧ Calls Tryz.prog 118 #[.pointer (some ⟨wb, 0, none⟩), v] w3 fun e w' => e = .returned (.tuple #[]) ∧ KW A base R wb t u m ks w w') := by
  have hL := h.low hbX
  have hk := hL.kn i k hi
  obtain ⟨b, F1, F2, h1, h2, h3, h4, h5, h6⟩ := hk.how
  obtain ⟨hfew, hor⟩ := view_few hk.g hk.s q
  refine ⟨fun w1 v => w1.ownsRow X.heap.size 3 1 v (k.s.view k.g q).length (irow (k.s.view k.g q)) ∧ Below X.heap.size X w1, (k.s.view k.g q).length, viewK k.g.n q, ?_, by omega, ?_, ?_, ?_⟩
  · by_cases e : (k.s.view k.g q).length = 0
    · exact Or.inl e
    · exact Or.inr ⟨hor.resolve_left e, by simp; exact fun hc => e (by rw [hc]; rfl)⟩
  · refine (faceView A base k.fb b k.g k.p k.s F1 q hk.g hk.s X h1 hL.sl h2).mono ?_
    rintro e w1 ⟨⟨v, rfl, hp⟩, hb⟩
    obtain ⟨a, c, rfl⟩ := rowShaped hp
    exact ⟨a, c, rfl, hp, hb⟩
  · intro w1 v hd j o val hj hc
    exact (hd.2.cell (p := ⟨j, o, none⟩) (lt_of_cell hc)).trans hc
  · intro w1 v ⟨hp, hb⟩
    refine (refView k.rb k.g k.p k.s m F2 q hk.g hk.p hm w1 (h3.low hb)).mono ?_
    rintro e w2 ⟨⟨v2, rfl, hp2⟩, hb2⟩
    obtain ⟨a, c, rfl⟩ := rowShaped hp2
    exact ⟨a, c, rfl, h.pairInts ht hbX (by omega) hp hb hp2 hb2⟩
end
end Go.Proofs.YtabecbjfamphbaaGreatDoor

/- The law's world: hears. -/
namespace Go.Proofs.YtabecbjfamphbaaGreatDoor
open Go.RowKit Go.Stop Go.Extern

set_option maxRecDepth 100000 in
set_option maxHeartbeats 2000000 in
theorem hears_any (A : Nat → Addr) (base : Nat) (R : Nat → Prop) (wb t u m : Nat) (ks : List Kn) (O : Nat → Prop) (F : Nat → Nat → Prop) (i : Nat) (k : Kn) (x : ByteArray) (hi : ks[i]? = some k) (ht : t ≤ 240000) (hu : u ≤ 240000) (hm : m ≤ 100000000) (hx : x.size ≤ maxLen) (w : World) (h : LW A base R w wb t u m ks O F) :
    Calls Tryz.prog 110 #[.pointer (some ⟨wb, 0, none⟩), .agg #[.pointer (some ⟨k.fb, 0, none⟩), .pointer (some ⟨k.rb, 0, none⟩)], .string x] w fun e w' => e = .returned (.bool true) ∧ KW A base R wb t u m ks w w' := by
  have d1 : (w.alloc (.cells #[.pointer (some ⟨k.fb, 0, none⟩), .pointer (some ⟨k.rb, 0, none⟩)] 123)).cell? ⟨w.heap.size, 1, none⟩ = some (.pointer (some ⟨k.rb, 0, none⟩)) := cell_of_row _ _ 1 _ _ (0, 0) (heap_alloc_new _ _)
  obtain ⟨D, n, kk, hz, hn, hF, hC, hR⟩ := h.pairHear hi ht hu hm (below1 w (.cells #[.pointer (some ⟨k.fb, 0, none⟩), .pointer (some ⟨k.rb, 0, none⟩)] 123)) x hx
  have HF : Hid _ := hF
  have HC : Hid _ := fun w1 v hd => hC w1 v hd w.heap.size 1 _ (Nat.le_refl _) d1
  have HR : Hid _ := hR
  obtain ⟨fb, rb, g, p, s⟩ := k
  clear h hi hF hC hR d1
  generalize KW A base R wb t u m ks w = KK at *
  go_enter Tryz.func110, Tryz.ntmps110
  go_wp2_with fail
  generalize w.alloc (.cells #[.pointer (some ⟨fb, 0, none⟩), .pointer (some ⟨rb, 0, none⟩)] 123) = X at *
  refine (show Calls _ _ _ _ _ from HF.out).mono ?_
  rintro e w1 ⟨a, c, rfl, hd⟩
  have d1 := HC.out w1 _ hd
  have HD : Hid _ := hd
  clear hd
  go_wp2_with fail
  refine (show Calls _ _ _ _ _ from HR.out w1 _ HD.out).mono ?_
  rintro e w2 ⟨a2, c2, rfl, hS⟩
  have HS : Hid _ := hS
  clear hS
  go_wp2_with fail
  refine (show Calls _ _ _ _ _ from HS.out).mono ?_
  rintro e w' ⟨rfl, hK⟩
  have HK : Hid _ := hK
  clear hK d1
  have ek : ((kk : Int) == kk) = true := by simp
  rcases hz with rfl | ⟨rfl, hl0⟩
  all_goals
    go_wp2_with (go_at_call 107; refine (num_any _ _).mono ?_; rintro e w'' ⟨rfl, rfl⟩)
    go_ret
    exact ⟨rfl, HK.out⟩
end Go.Proofs.YtabecbjfamphbaaGreatDoor

/- The law's world: a call of a node (Say). -/
namespace Go.Proofs.YtabecbjfamphbaaGreatDoor
open Go.RowKit Go.Stop Go.Extern

set_option maxRecDepth 100000 in
set_option maxHeartbeats 4000000 in
theorem knotSay (A : Nat → Addr) (base : Nat) (R : Nat → Prop) (wb t u m : Nat) (ks : List Kn) (O : Nat → Prop) (F : Nat → Nat → Prop) (i : Nat) (k : Kn) (on oa : Int) (ox : ByteArray) (N W B L f0 f1 f2 f3 f4 : Int) (fa : Option Addr) (fl fc : Nat) (fs : ByteArray) (hi : ks[i]? = some k) (ht : t ≤ 240000) (hu : u ≤ 240000) (hm : m ≤ 100000000) (w : World) (h : LW A base R w wb t u m ks O F) :
    Calls Tryz.prog 68 #[.pointer (some ⟨wb, 0, none⟩), .agg #[.pointer (some ⟨k.fb, 0, none⟩), .pointer (some ⟨k.rb, 0, none⟩)], .agg #[.int .i64 11, .int .i64 on, .int .i64 oa, .string ox, .int .i64 N, .int .i64 W, .int .i64 B, .int .i64 L, .int .i64 f0, .int .i64 f1, .int .i64 f2, .int .i64 f3, .int .i64 f4, .slice fa fl fc, .string fs]] w fun e w' => e = .returned (.bool true) ∧ KW A base R wb t u m ks w w' := by
  obtain ⟨X, hX⟩ : ∃ X, X = ((w.alloc (.cells #[.pointer (some ⟨k.fb, 0, none⟩), .pointer (some ⟨k.rb, 0, none⟩)] 123)).alloc (.cells #[.int .i64 11, .int .i64 on, .int .i64 oa, .string ox, .int .i64 N, .int .i64 W, .int .i64 B, .int .i64 L, .int .i64 f0, .int .i64 f1, .int .i64 f2, .int .i64 f3, .int .i64 f4, .slice fa fl fc, .string fs] 81)) := ⟨_, rfl⟩
  have hbX : Below w.heap.size w X := by rw [hX]; exact bthen (below1 _ _) (below1 _ _)
  have q0 : X.cell? ⟨w.heap.size, 0, none⟩ = some (.pointer (some ⟨k.fb, 0, none⟩)) := by rw [hX]; exact (Below.cell (below1 _ _) (p := ⟨w.heap.size, 0, none⟩) (by simp)).trans (cell_of_row _ _ 0 _ _ (0, 0) (heap_alloc_new _ _))
  have q1 : X.cell? ⟨w.heap.size, 1, none⟩ = some (.pointer (some ⟨k.rb, 0, none⟩)) := by rw [hX]; exact (Below.cell (below1 _ _) (p := ⟨w.heap.size, 1, none⟩) (by simp)).trans (cell_of_row _ _ 1 _ _ (0, 0) (heap_alloc_new _ _))
  have hsz : (w.alloc (.cells #[.pointer (some ⟨k.fb, 0, none⟩), .pointer (some ⟨k.rb, 0, none⟩)] 123)).heap.size = w.heap.size + 1 := by simp
  have qo : ∀ j, X.cell? ⟨w.heap.size + 1, j, none⟩ = #[Value.int .i64 11, .int .i64 on, .int .i64 oa, .string ox, .int .i64 N, .int .i64 W, .int .i64 B, .int .i64 L, .int .i64 f0, .int .i64 f1, .int .i64 f2, .int .i64 f3, .int .i64 f4, .slice fa fl fc, .string fs][j]? := fun j => by rw [hX, ← hsz]; exact cell_of_row _ _ j _ _ (0, 0) (heap_alloc_new _ _)
  have o3 : X.cell? ⟨w.heap.size + 1, 3, none⟩ = some (.string ox) := qo 3
  obtain ⟨D, n, kk, q, hz, hn, hF, hC, hR⟩ := h.pairSay hi ht hu hm hbX ox
  have HF : Hid _ := hF
  have HC1 : Hid _ := fun w1 v hd => hC w1 v hd w.heap.size 1 _ (Nat.le_refl _) q1
  have HC3 : Hid _ := fun w1 v hd => hC w1 v hd (w.heap.size + 1) 3 _ (Nat.le_succ _) o3
  have HR : Hid _ := hR
  obtain ⟨fb, rb, g, p, s⟩ := k
  subst hX
  clear h hi hF hC hR qo q0 q1 o3 hbX hsz
  generalize KW A base R wb t u m ks w = KK at *
  go_enter Tryz.func68, Tryz.ntmps68
  go_wp2_with fail
  generalize (w.alloc (.cells #[.pointer (some ⟨fb, 0, none⟩), .pointer (some ⟨rb, 0, none⟩)] 123)).alloc (.cells #[.int .i64 11, .int .i64 on, .int .i64 oa, .string ox, .int .i64 N, .int .i64 W, .int .i64 B, .int .i64 L, .int .i64 f0, .int .i64 f1, .int .i64 f2, .int .i64 f3, .int .i64 f4, .slice fa fl fc, .string fs] 81) = X at *
  refine (show Calls _ _ _ _ _ from HF.out).mono ?_
  rintro e w1 ⟨a, c, rfl, hd⟩
  have q1 := HC1.out w1 _ hd
  have o3 := HC3.out w1 _ hd
  have HD : Hid _ := hd
  clear hd
  go_wp2_with fail
  refine (show Calls _ _ _ _ _ from HR.out w1 _ HD.out).mono ?_
  rintro e w2 ⟨a2, c2, rfl, hS⟩
  have HS : Hid _ := hS
  clear hS
  go_wp2_with fail
  refine (show Calls _ _ _ _ _ from HS.out).mono ?_
  rintro e w' ⟨rfl, hK⟩
  have HK : Hid _ := hK
  clear hK q1 o3
  have ek : ((kk : Int) == kk) = true := by simp
  have eq : ((q : Int) == q) = true := by simp
  rcases hz with rfl | ⟨rfl, hl0⟩
  all_goals
    go_wp2_with (go_at_call 107; refine (num_any _ _).mono ?_; rintro e w'' ⟨rfl, rfl⟩)
    go_ret
    exact ⟨rfl, HK.out⟩
end Go.Proofs.YtabecbjfamphbaaGreatDoor

/- The law's world: a call of a node (Tick). -/
namespace Go.Proofs.YtabecbjfamphbaaGreatDoor
open Go.RowKit Go.Stop Go.Extern

set_option maxRecDepth 100000 in
set_option maxHeartbeats 4000000 in
theorem knotTick (A : Nat → Addr) (base : Nat) (R : Nat → Prop) (wb t u m : Nat) (ks : List Kn) (O : Nat → Prop) (F : Nat → Nat → Prop) (i : Nat) (k : Kn) (on oa : Int) (ox : ByteArray) (N W B L f0 f1 f2 f3 f4 : Int) (fa : Option Addr) (fl fc : Nat) (fs : ByteArray) (hi : ks[i]? = some k) (ht : t ≤ 240000) (hu : u ≤ 240000) (hm : m ≤ 100000000) (w : World) (h : LW A base R w wb t u m ks O F) :
    Calls Tryz.prog 68 #[.pointer (some ⟨wb, 0, none⟩), .agg #[.pointer (some ⟨k.fb, 0, none⟩), .pointer (some ⟨k.rb, 0, none⟩)], .agg #[.int .i64 14, .int .i64 on, .int .i64 oa, .string ox, .int .i64 N, .int .i64 W, .int .i64 B, .int .i64 L, .int .i64 f0, .int .i64 f1, .int .i64 f2, .int .i64 f3, .int .i64 f4, .slice fa fl fc, .string fs]] w fun e w' => e = .returned (.bool true) ∧ KW A base R wb t u m ks w w' := by
  obtain ⟨X, hX⟩ : ∃ X, X = ((w.alloc (.cells #[.pointer (some ⟨k.fb, 0, none⟩), .pointer (some ⟨k.rb, 0, none⟩)] 123)).alloc (.cells #[.int .i64 14, .int .i64 on, .int .i64 oa, .string ox, .int .i64 N, .int .i64 W, .int .i64 B, .int .i64 L, .int .i64 f0, .int .i64 f1, .int .i64 f2, .int .i64 f3, .int .i64 f4, .slice fa fl fc, .string fs] 81)) := ⟨_, rfl⟩
  have hbX : Below w.heap.size w X := by rw [hX]; exact bthen (below1 _ _) (below1 _ _)
  have q0 : X.cell? ⟨w.heap.size, 0, none⟩ = some (.pointer (some ⟨k.fb, 0, none⟩)) := by rw [hX]; exact (Below.cell (below1 _ _) (p := ⟨w.heap.size, 0, none⟩) (by simp)).trans (cell_of_row _ _ 0 _ _ (0, 0) (heap_alloc_new _ _))
  have q1 : X.cell? ⟨w.heap.size, 1, none⟩ = some (.pointer (some ⟨k.rb, 0, none⟩)) := by rw [hX]; exact (Below.cell (below1 _ _) (p := ⟨w.heap.size, 1, none⟩) (by simp)).trans (cell_of_row _ _ 1 _ _ (0, 0) (heap_alloc_new _ _))
  have hsz : (w.alloc (.cells #[.pointer (some ⟨k.fb, 0, none⟩), .pointer (some ⟨k.rb, 0, none⟩)] 123)).heap.size = w.heap.size + 1 := by simp
  have qo : ∀ j, X.cell? ⟨w.heap.size + 1, j, none⟩ = #[Value.int .i64 14, .int .i64 on, .int .i64 oa, .string ox, .int .i64 N, .int .i64 W, .int .i64 B, .int .i64 L, .int .i64 f0, .int .i64 f1, .int .i64 f2, .int .i64 f3, .int .i64 f4, .slice fa fl fc, .string fs][j]? := fun j => by rw [hX, ← hsz]; exact cell_of_row _ _ j _ _ (0, 0) (heap_alloc_new _ _)
  obtain ⟨D, n, hn, hF, hC, hR⟩ := h.pairTick hi ht hu hm hbX
  have HF : Hid _ := hF
  have HC1 : Hid _ := fun w1 v hd => hC w1 v hd w.heap.size 1 _ (Nat.le_refl _) q1
  have HR : Hid _ := hR
  obtain ⟨fb, rb, g, p, s⟩ := k
  subst hX
  clear h hi hF hC hR qo q0 q1 hbX hsz
  generalize KW A base R wb t u m ks w = KK at *
  go_enter Tryz.func68, Tryz.ntmps68
  go_wp2_with fail
  generalize (w.alloc (.cells #[.pointer (some ⟨fb, 0, none⟩), .pointer (some ⟨rb, 0, none⟩)] 123)).alloc (.cells #[.int .i64 14, .int .i64 on, .int .i64 oa, .string ox, .int .i64 N, .int .i64 W, .int .i64 B, .int .i64 L, .int .i64 f0, .int .i64 f1, .int .i64 f2, .int .i64 f3, .int .i64 f4, .slice fa fl fc, .string fs] 81) = X at *
  refine (show Calls _ _ _ _ _ from HF.out).mono ?_
  rintro e w1 ⟨a, c, rfl, hd⟩
  have q1 := HC1.out w1 _ hd
  have HD : Hid _ := hd
  clear hd
  go_wp2_with fail
  refine (show Calls _ _ _ _ _ from HR.out w1 _ HD.out).mono ?_
  rintro e w2 ⟨a2, c2, rfl, hS⟩
  have HS : Hid _ := hS
  clear hS
  go_wp2_with fail
  refine (show Calls _ _ _ _ _ from HS.out).mono ?_
  rintro e w' ⟨rfl, hK⟩
  have HK : Hid _ := hK
  clear hK q1
  go_wp2_with fail
  go_ret
  exact ⟨rfl, HK.out⟩
end Go.Proofs.YtabecbjfamphbaaGreatDoor

/- The law's world: a call of a node (Heard). -/
namespace Go.Proofs.YtabecbjfamphbaaGreatDoor
open Go.RowKit Go.Stop Go.Extern

set_option maxRecDepth 100000 in
set_option maxHeartbeats 4000000 in
theorem knotHeard (A : Nat → Addr) (base : Nat) (R : Nat → Prop) (wb t u m : Nat) (ks : List Kn) (O : Nat → Prop) (F : Nat → Nat → Prop) (i : Nat) (k : Kn) (on oa : Int) (ox : ByteArray) (N W B L f0 f1 f2 f3 f4 : Int) (fa : Option Addr) (fl fc : Nat) (fs : ByteArray) (hi : ks[i]? = some k) (ht : t ≤ 240000) (_hu : u ≤ 240000) (_hm : m ≤ 100000000) (w : World) (h : LW A base R w wb t u m ks O F) :
    Calls Tryz.prog 68 #[.pointer (some ⟨wb, 0, none⟩), .agg #[.pointer (some ⟨k.fb, 0, none⟩), .pointer (some ⟨k.rb, 0, none⟩)], .agg #[.int .i64 15, .int .i64 on, .int .i64 oa, .string ox, .int .i64 N, .int .i64 W, .int .i64 B, .int .i64 L, .int .i64 f0, .int .i64 f1, .int .i64 f2, .int .i64 f3, .int .i64 f4, .slice fa fl fc, .string fs]] w fun e w' => e = .returned (.bool true) ∧ KW A base R wb t u m ks w w' := by
  obtain ⟨X, hX⟩ : ∃ X, X = ((w.alloc (.cells #[.pointer (some ⟨k.fb, 0, none⟩), .pointer (some ⟨k.rb, 0, none⟩)] 123)).alloc (.cells #[.int .i64 15, .int .i64 on, .int .i64 oa, .string ox, .int .i64 N, .int .i64 W, .int .i64 B, .int .i64 L, .int .i64 f0, .int .i64 f1, .int .i64 f2, .int .i64 f3, .int .i64 f4, .slice fa fl fc, .string fs] 81)) := ⟨_, rfl⟩
  have hbX : Below w.heap.size w X := by rw [hX]; exact bthen (below1 _ _) (below1 _ _)
  have q0 : X.cell? ⟨w.heap.size, 0, none⟩ = some (.pointer (some ⟨k.fb, 0, none⟩)) := by rw [hX]; exact (Below.cell (below1 _ _) (p := ⟨w.heap.size, 0, none⟩) (by simp)).trans (cell_of_row _ _ 0 _ _ (0, 0) (heap_alloc_new _ _))
  have q1 : X.cell? ⟨w.heap.size, 1, none⟩ = some (.pointer (some ⟨k.rb, 0, none⟩)) := by rw [hX]; exact (Below.cell (below1 _ _) (p := ⟨w.heap.size, 1, none⟩) (by simp)).trans (cell_of_row _ _ 1 _ _ (0, 0) (heap_alloc_new _ _))
  have hsz : (w.alloc (.cells #[.pointer (some ⟨k.fb, 0, none⟩), .pointer (some ⟨k.rb, 0, none⟩)] 123)).heap.size = w.heap.size + 1 := by simp
  have qo : ∀ j, X.cell? ⟨w.heap.size + 1, j, none⟩ = #[Value.int .i64 15, .int .i64 on, .int .i64 oa, .string ox, .int .i64 N, .int .i64 W, .int .i64 B, .int .i64 L, .int .i64 f0, .int .i64 f1, .int .i64 f2, .int .i64 f3, .int .i64 f4, .slice fa fl fc, .string fs][j]? := fun j => by rw [hX, ← hsz]; exact cell_of_row _ _ j _ _ (0, 0) (heap_alloc_new _ _)
  obtain ⟨D, n, hF, hC, hR⟩ := h.pairHeard hi ht hbX
  have HF : Hid _ := hF
  have HC1 : Hid _ := fun w1 v hd => hC w1 v hd w.heap.size 1 _ (Nat.le_refl _) q1
  have HR : Hid _ := hR
  obtain ⟨fb, rb, g, p, s⟩ := k
  subst hX
  clear h hi hF hC hR qo q0 q1 hbX hsz
  generalize KW A base R wb t u m ks w = KK at *
  go_enter Tryz.func68, Tryz.ntmps68
  go_wp2_with fail
  generalize (w.alloc (.cells #[.pointer (some ⟨fb, 0, none⟩), .pointer (some ⟨rb, 0, none⟩)] 123)).alloc (.cells #[.int .i64 15, .int .i64 on, .int .i64 oa, .string ox, .int .i64 N, .int .i64 W, .int .i64 B, .int .i64 L, .int .i64 f0, .int .i64 f1, .int .i64 f2, .int .i64 f3, .int .i64 f4, .slice fa fl fc, .string fs] 81) = X at *
  refine (show Calls _ _ _ _ _ from HF.out).mono ?_
  rintro e w1 ⟨a, c, rfl, hd⟩
  have q1 := HC1.out w1 _ hd
  have HD : Hid _ := hd
  clear hd
  go_wp2_with fail
  refine (show Calls _ _ _ _ _ from HR.out w1 _ HD.out).mono ?_
  rintro e w2 ⟨a2, c2, rfl, hS⟩
  have HS : Hid _ := hS
  clear hS
  go_wp2_with fail
  refine (show Calls _ _ _ _ _ from HS.out).mono ?_
  rintro e w3 ⟨rfl, hK⟩
  have HK : Hid _ := hK
  clear hK q1
  go_wp2_with fail
  refine (show Calls _ _ _ _ _ from HK.out).mono ?_
  rintro e w' ⟨rfl, hL⟩
  have HL : Hid _ := hL
  clear hL
  go_wp2_with fail
  go_ret
  exact ⟨rfl, HL.out⟩
end Go.Proofs.YtabecbjfamphbaaGreatDoor

/- The law's world: a call of a node (Clock). -/
namespace Go.Proofs.YtabecbjfamphbaaGreatDoor
open Go.RowKit Go.Stop Go.Extern

set_option maxRecDepth 100000 in
set_option maxHeartbeats 4000000 in
theorem knotClock (A : Nat → Addr) (base : Nat) (R : Nat → Prop) (wb t u m : Nat) (ks : List Kn) (O : Nat → Prop) (F : Nat → Nat → Prop) (i : Nat) (k : Kn) (on oa : Int) (ox : ByteArray) (N W B L f0 f1 f2 f3 f4 : Int) (fa : Option Addr) (fl fc : Nat) (fs : ByteArray) (hi : ks[i]? = some k) (ht : t ≤ 240000) (_hu : u ≤ 240000) (_hm : m ≤ 100000000) (w : World) (h : LW A base R w wb t u m ks O F) :
    Calls Tryz.prog 68 #[.pointer (some ⟨wb, 0, none⟩), .agg #[.pointer (some ⟨k.fb, 0, none⟩), .pointer (some ⟨k.rb, 0, none⟩)], .agg #[.int .i64 16, .int .i64 on, .int .i64 oa, .string ox, .int .i64 N, .int .i64 W, .int .i64 B, .int .i64 L, .int .i64 f0, .int .i64 f1, .int .i64 f2, .int .i64 f3, .int .i64 f4, .slice fa fl fc, .string fs]] w fun e w' => e = .returned (.bool true) ∧ KW A base R wb t u m ks w w' := by
  obtain ⟨X, hX⟩ : ∃ X, X = ((w.alloc (.cells #[.pointer (some ⟨k.fb, 0, none⟩), .pointer (some ⟨k.rb, 0, none⟩)] 123)).alloc (.cells #[.int .i64 16, .int .i64 on, .int .i64 oa, .string ox, .int .i64 N, .int .i64 W, .int .i64 B, .int .i64 L, .int .i64 f0, .int .i64 f1, .int .i64 f2, .int .i64 f3, .int .i64 f4, .slice fa fl fc, .string fs] 81)) := ⟨_, rfl⟩
  have hbX : Below w.heap.size w X := by rw [hX]; exact bthen (below1 _ _) (below1 _ _)
  have q0 : X.cell? ⟨w.heap.size, 0, none⟩ = some (.pointer (some ⟨k.fb, 0, none⟩)) := by rw [hX]; exact (Below.cell (below1 _ _) (p := ⟨w.heap.size, 0, none⟩) (by simp)).trans (cell_of_row _ _ 0 _ _ (0, 0) (heap_alloc_new _ _))
  have q1 : X.cell? ⟨w.heap.size, 1, none⟩ = some (.pointer (some ⟨k.rb, 0, none⟩)) := by rw [hX]; exact (Below.cell (below1 _ _) (p := ⟨w.heap.size, 1, none⟩) (by simp)).trans (cell_of_row _ _ 1 _ _ (0, 0) (heap_alloc_new _ _))
  have hsz : (w.alloc (.cells #[.pointer (some ⟨k.fb, 0, none⟩), .pointer (some ⟨k.rb, 0, none⟩)] 123)).heap.size = w.heap.size + 1 := by simp
  have qo : ∀ j, X.cell? ⟨w.heap.size + 1, j, none⟩ = #[Value.int .i64 16, .int .i64 on, .int .i64 oa, .string ox, .int .i64 N, .int .i64 W, .int .i64 B, .int .i64 L, .int .i64 f0, .int .i64 f1, .int .i64 f2, .int .i64 f3, .int .i64 f4, .slice fa fl fc, .string fs][j]? := fun j => by rw [hX, ← hsz]; exact cell_of_row _ _ j _ _ (0, 0) (heap_alloc_new _ _)
  obtain ⟨D, n, hF, hC, hR⟩ := h.pairClock hi ht hbX
  have HF : Hid _ := hF
  have HC1 : Hid _ := fun w1 v hd => hC w1 v hd w.heap.size 1 _ (Nat.le_refl _) q1
  have HR : Hid _ := hR
  obtain ⟨fb, rb, g, p, s⟩ := k
  subst hX
  clear h hi hF hC hR qo q0 q1 hbX hsz
  generalize KW A base R wb t u m ks w = KK at *
  go_enter Tryz.func68, Tryz.ntmps68
  go_wp2_with fail
  generalize (w.alloc (.cells #[.pointer (some ⟨fb, 0, none⟩), .pointer (some ⟨rb, 0, none⟩)] 123)).alloc (.cells #[.int .i64 16, .int .i64 on, .int .i64 oa, .string ox, .int .i64 N, .int .i64 W, .int .i64 B, .int .i64 L, .int .i64 f0, .int .i64 f1, .int .i64 f2, .int .i64 f3, .int .i64 f4, .slice fa fl fc, .string fs] 81) = X at *
  refine (show Calls _ _ _ _ _ from HF.out).mono ?_
  rintro e w1 ⟨a, c, rfl, hd⟩
  have q1 := HC1.out w1 _ hd
  have HD : Hid _ := hd
  clear hd
  go_wp2_with fail
  refine (show Calls _ _ _ _ _ from HR.out w1 _ HD.out).mono ?_
  rintro e w2 ⟨a2, c2, rfl, hS⟩
  have HS : Hid _ := hS
  clear hS
  go_wp2_with fail
  refine (show Calls _ _ _ _ _ from HS.out).mono ?_
  rintro e w3 ⟨rfl, hK⟩
  have HK : Hid _ := hK
  clear hK q1
  go_wp2_with fail
  refine (show Calls _ _ _ _ _ from HK.out).mono ?_
  rintro e w' ⟨rfl, hL⟩
  have HL : Hid _ := hL
  clear hL
  go_wp2_with fail
  go_ret
  exact ⟨rfl, HL.out⟩
end Go.Proofs.YtabecbjfamphbaaGreatDoor

/- The law's world: a call of a node (Store). -/
namespace Go.Proofs.YtabecbjfamphbaaGreatDoor
open Go.RowKit Go.Stop Go.Extern

set_option maxRecDepth 100000 in
set_option maxHeartbeats 4000000 in
theorem knotStore (A : Nat → Addr) (base : Nat) (R : Nat → Prop) (wb t u m : Nat) (ks : List Kn) (O : Nat → Prop) (F : Nat → Nat → Prop) (i : Nat) (k : Kn) (on oa : Int) (ox : ByteArray) (N W B L f0 f1 f2 f3 f4 : Int) (fa : Option Addr) (fl fc : Nat) (fs : ByteArray) (hi : ks[i]? = some k) (ht : t ≤ 240000) (_hu : u ≤ 240000) (hm : m ≤ 100000000) (w : World) (h : LW A base R w wb t u m ks O F) :
    Calls Tryz.prog 68 #[.pointer (some ⟨wb, 0, none⟩), .agg #[.pointer (some ⟨k.fb, 0, none⟩), .pointer (some ⟨k.rb, 0, none⟩)], .agg #[.int .i64 18, .int .i64 on, .int .i64 oa, .string ox, .int .i64 N, .int .i64 W, .int .i64 B, .int .i64 L, .int .i64 f0, .int .i64 f1, .int .i64 f2, .int .i64 f3, .int .i64 f4, .slice fa fl fc, .string fs]] w fun e w' => e = .returned (.bool true) ∧ KW A base R wb t u m ks w w' := by
  obtain ⟨X, hX⟩ : ∃ X, X = ((w.alloc (.cells #[.pointer (some ⟨k.fb, 0, none⟩), .pointer (some ⟨k.rb, 0, none⟩)] 123)).alloc (.cells #[.int .i64 18, .int .i64 on, .int .i64 oa, .string ox, .int .i64 N, .int .i64 W, .int .i64 B, .int .i64 L, .int .i64 f0, .int .i64 f1, .int .i64 f2, .int .i64 f3, .int .i64 f4, .slice fa fl fc, .string fs] 81)) := ⟨_, rfl⟩
  have hbX : Below w.heap.size w X := by rw [hX]; exact bthen (below1 _ _) (below1 _ _)
  have q0 : X.cell? ⟨w.heap.size, 0, none⟩ = some (.pointer (some ⟨k.fb, 0, none⟩)) := by rw [hX]; exact (Below.cell (below1 _ _) (p := ⟨w.heap.size, 0, none⟩) (by simp)).trans (cell_of_row _ _ 0 _ _ (0, 0) (heap_alloc_new _ _))
  have q1 : X.cell? ⟨w.heap.size, 1, none⟩ = some (.pointer (some ⟨k.rb, 0, none⟩)) := by rw [hX]; exact (Below.cell (below1 _ _) (p := ⟨w.heap.size, 1, none⟩) (by simp)).trans (cell_of_row _ _ 1 _ _ (0, 0) (heap_alloc_new _ _))
  have hsz : (w.alloc (.cells #[.pointer (some ⟨k.fb, 0, none⟩), .pointer (some ⟨k.rb, 0, none⟩)] 123)).heap.size = w.heap.size + 1 := by simp
  have qo : ∀ j, X.cell? ⟨w.heap.size + 1, j, none⟩ = #[Value.int .i64 18, .int .i64 on, .int .i64 oa, .string ox, .int .i64 N, .int .i64 W, .int .i64 B, .int .i64 L, .int .i64 f0, .int .i64 f1, .int .i64 f2, .int .i64 f3, .int .i64 f4, .slice fa fl fc, .string fs][j]? := fun j => by rw [hX, ← hsz]; exact cell_of_row _ _ j _ _ (0, 0) (heap_alloc_new _ _)
  obtain ⟨D, n, hF, hC, hR⟩ := h.pairStore hi ht hm hbX
  have HF : Hid _ := hF
  have HC1 : Hid _ := fun w1 v hd => hC w1 v hd w.heap.size 1 _ (Nat.le_refl _) q1
  have HR : Hid _ := hR
  obtain ⟨fb, rb, g, p, s⟩ := k
  subst hX
  clear h hi hF hC hR qo q0 q1 hbX hsz
  generalize KW A base R wb t u m ks w = KK at *
  go_enter Tryz.func68, Tryz.ntmps68
  go_wp2_with fail
  generalize (w.alloc (.cells #[.pointer (some ⟨fb, 0, none⟩), .pointer (some ⟨rb, 0, none⟩)] 123)).alloc (.cells #[.int .i64 18, .int .i64 on, .int .i64 oa, .string ox, .int .i64 N, .int .i64 W, .int .i64 B, .int .i64 L, .int .i64 f0, .int .i64 f1, .int .i64 f2, .int .i64 f3, .int .i64 f4, .slice fa fl fc, .string fs] 81) = X at *
  refine (show Calls _ _ _ _ _ from HF.out).mono ?_
  rintro e w1 ⟨a, c, rfl, hd⟩
  have q1 := HC1.out w1 _ hd
  have HD : Hid _ := hd
  clear hd
  go_wp2_with fail
  refine (show Calls _ _ _ _ _ from HR.out w1 _ HD.out).mono ?_
  rintro e w2 ⟨a2, c2, rfl, hS⟩
  have HS : Hid _ := hS
  clear hS
  go_wp2_with fail
  refine (show Calls _ _ _ _ _ from HS.out).mono ?_
  rintro e w3 ⟨rfl, hK⟩
  have HK : Hid _ := hK
  clear hK q1
  go_wp2_with fail
  refine (show Calls _ _ _ _ _ from HK.out).mono ?_
  rintro e w' ⟨rfl, hL⟩
  have HL : Hid _ := hL
  clear hL
  go_wp2_with fail
  go_ret
  exact ⟨rfl, HL.out⟩
end Go.Proofs.YtabecbjfamphbaaGreatDoor

/- The law's world: a call of a node (View). -/
namespace Go.Proofs.YtabecbjfamphbaaGreatDoor
open Go.RowKit Go.Stop Go.Extern

set_option maxRecDepth 100000 in
set_option maxHeartbeats 4000000 in
theorem knotView (A : Nat → Addr) (base : Nat) (R : Nat → Prop) (wb t u m : Nat) (ks : List Kn) (O : Nat → Prop) (F : Nat → Nat → Prop) (i : Nat) (k : Kn) (on oa : Int) (ox : ByteArray) (N W B L f0 f1 f2 f3 f4 : Int) (fa : Option Addr) (fl fc : Nat) (fs : ByteArray) (hi : ks[i]? = some k) (ht : t ≤ 240000) (_hu : u ≤ 240000) (hm : m ≤ 100000000) (w : World) (h : LW A base R w wb t u m ks O F) :
    Calls Tryz.prog 68 #[.pointer (some ⟨wb, 0, none⟩), .agg #[.pointer (some ⟨k.fb, 0, none⟩), .pointer (some ⟨k.rb, 0, none⟩)], .agg #[.int .i64 17, .int .i64 on, .int .i64 oa, .string ox, .int .i64 N, .int .i64 W, .int .i64 B, .int .i64 L, .int .i64 f0, .int .i64 f1, .int .i64 f2, .int .i64 f3, .int .i64 f4, .slice fa fl fc, .string fs]] w fun e w' => e = .returned (.bool true) ∧ KW A base R wb t u m ks w w' := by
  obtain ⟨X, hX⟩ : ∃ X, X = ((w.alloc (.cells #[.pointer (some ⟨k.fb, 0, none⟩), .pointer (some ⟨k.rb, 0, none⟩)] 123)).alloc (.cells #[.int .i64 17, .int .i64 on, .int .i64 oa, .string ox, .int .i64 N, .int .i64 W, .int .i64 B, .int .i64 L, .int .i64 f0, .int .i64 f1, .int .i64 f2, .int .i64 f3, .int .i64 f4, .slice fa fl fc, .string fs] 81)) := ⟨_, rfl⟩
  have hbX : Below w.heap.size w X := by rw [hX]; exact bthen (below1 _ _) (below1 _ _)
  have q0 : X.cell? ⟨w.heap.size, 0, none⟩ = some (.pointer (some ⟨k.fb, 0, none⟩)) := by rw [hX]; exact (Below.cell (below1 _ _) (p := ⟨w.heap.size, 0, none⟩) (by simp)).trans (cell_of_row _ _ 0 _ _ (0, 0) (heap_alloc_new _ _))
  have q1 : X.cell? ⟨w.heap.size, 1, none⟩ = some (.pointer (some ⟨k.rb, 0, none⟩)) := by rw [hX]; exact (Below.cell (below1 _ _) (p := ⟨w.heap.size, 1, none⟩) (by simp)).trans (cell_of_row _ _ 1 _ _ (0, 0) (heap_alloc_new _ _))
  have hsz : (w.alloc (.cells #[.pointer (some ⟨k.fb, 0, none⟩), .pointer (some ⟨k.rb, 0, none⟩)] 123)).heap.size = w.heap.size + 1 := by simp
  have qo : ∀ j, X.cell? ⟨w.heap.size + 1, j, none⟩ = #[Value.int .i64 17, .int .i64 on, .int .i64 oa, .string ox, .int .i64 N, .int .i64 W, .int .i64 B, .int .i64 L, .int .i64 f0, .int .i64 f1, .int .i64 f2, .int .i64 f3, .int .i64 f4, .slice fa fl fc, .string fs][j]? := fun j => by rw [hX, ← hsz]; exact cell_of_row _ _ j _ _ (0, 0) (heap_alloc_new _ _)
  have o2 : X.cell? ⟨w.heap.size + 1, 2, none⟩ = some (.int .i64 oa) := qo 2
  obtain ⟨D, n, kk, hz, hn, hF, hC, hR⟩ := h.pairView hi ht hm hbX oa
  have HF : Hid _ := hF
  have HC1 : Hid _ := fun w1 v hd => hC w1 v hd w.heap.size 1 _ (Nat.le_refl _) q1
  have HC2 : Hid _ := fun w1 v hd => hC w1 v hd (w.heap.size + 1) 2 _ (Nat.le_succ _) o2
  have HR : Hid _ := hR
  obtain ⟨fb, rb, g, p, s⟩ := k
  subst hX
  clear h hi hF hC hR qo q0 q1 o2 hbX hsz
  generalize KW A base R wb t u m ks w = KK at *
  go_enter Tryz.func68, Tryz.ntmps68
  go_wp2_with fail
  generalize (w.alloc (.cells #[.pointer (some ⟨fb, 0, none⟩), .pointer (some ⟨rb, 0, none⟩)] 123)).alloc (.cells #[.int .i64 17, .int .i64 on, .int .i64 oa, .string ox, .int .i64 N, .int .i64 W, .int .i64 B, .int .i64 L, .int .i64 f0, .int .i64 f1, .int .i64 f2, .int .i64 f3, .int .i64 f4, .slice fa fl fc, .string fs] 81) = X at *
  refine (show Calls _ _ _ _ _ from HF.out).mono ?_
  rintro e w1 ⟨a, c, rfl, hd⟩
  have q1 := HC1.out w1 _ hd
  have o2 := HC2.out w1 _ hd
  have HD : Hid _ := hd
  clear hd
  go_wp2_with fail
  refine (show Calls _ _ _ _ _ from HR.out w1 _ HD.out).mono ?_
  rintro e w2 ⟨a2, c2, rfl, hS⟩
  have HS : Hid _ := hS
  clear hS
  go_wp2_with fail
  refine (show Calls _ _ _ _ _ from HS.out).mono ?_
  rintro e w3 ⟨rfl, hK⟩
  have HK : Hid _ := hK
  clear hK q1 o2
  go_wp2_with fail
  refine (show Calls _ _ _ _ _ from HK.out).mono ?_
  rintro e w' ⟨rfl, hL⟩
  have HL : Hid _ := hL
  clear hL
  have ek : ((kk : Int) == kk) = true := by simp
  rcases hz with rfl | ⟨rfl, hl0⟩
  all_goals
    go_wp2_with (go_at_call 107; refine (num_any _ _).mono ?_; rintro e w'' ⟨rfl, rfl⟩)
    go_ret
    exact ⟨rfl, HL.out⟩
end Go.Proofs.YtabecbjfamphbaaGreatDoor

/- The law's world: a call of a node (Hear). -/
namespace Go.Proofs.YtabecbjfamphbaaGreatDoor
open Go.RowKit Go.Stop Go.Extern

set_option maxRecDepth 100000 in
set_option maxHeartbeats 4000000 in
theorem knotHear (A : Nat → Addr) (base : Nat) (R : Nat → Prop) (wb t u m : Nat) (ks : List Kn) (O : Nat → Prop) (F : Nat → Nat → Prop) (i : Nat) (k : Kn) (on oa : Int) (ox : ByteArray) (N W B L f0 f1 f2 f3 f4 : Int) (fa : Option Addr) (fl fc : Nat) (fs : ByteArray) (hi : ks[i]? = some k) (ht : t ≤ 240000) (hu : u ≤ 240000) (hm : m ≤ 100000000) (hx : ox.size ≤ maxLen) (w : World) (h : LW A base R w wb t u m ks O F) :
    Calls Tryz.prog 68 #[.pointer (some ⟨wb, 0, none⟩), .agg #[.pointer (some ⟨k.fb, 0, none⟩), .pointer (some ⟨k.rb, 0, none⟩)], .agg #[.int .i64 12, .int .i64 on, .int .i64 oa, .string ox, .int .i64 N, .int .i64 W, .int .i64 B, .int .i64 L, .int .i64 f0, .int .i64 f1, .int .i64 f2, .int .i64 f3, .int .i64 f4, .slice fa fl fc, .string fs]] w fun e w' => e = .returned (.bool true) ∧ KW A base R wb t u m ks w w' := by
  obtain ⟨X, hX⟩ : ∃ X, X = ((w.alloc (.cells #[.pointer (some ⟨k.fb, 0, none⟩), .pointer (some ⟨k.rb, 0, none⟩)] 123)).alloc (.cells #[.int .i64 12, .int .i64 on, .int .i64 oa, .string ox, .int .i64 N, .int .i64 W, .int .i64 B, .int .i64 L, .int .i64 f0, .int .i64 f1, .int .i64 f2, .int .i64 f3, .int .i64 f4, .slice fa fl fc, .string fs] 81)) := ⟨_, rfl⟩
  have hbX : Below w.heap.size w X := by rw [hX]; exact bthen (below1 _ _) (below1 _ _)
  have q0 : X.cell? ⟨w.heap.size, 0, none⟩ = some (.pointer (some ⟨k.fb, 0, none⟩)) := by rw [hX]; exact (Below.cell (below1 _ _) (p := ⟨w.heap.size, 0, none⟩) (by simp)).trans (cell_of_row _ _ 0 _ _ (0, 0) (heap_alloc_new _ _))
  have q1 : X.cell? ⟨w.heap.size, 1, none⟩ = some (.pointer (some ⟨k.rb, 0, none⟩)) := by rw [hX]; exact (Below.cell (below1 _ _) (p := ⟨w.heap.size, 1, none⟩) (by simp)).trans (cell_of_row _ _ 1 _ _ (0, 0) (heap_alloc_new _ _))
  have hsz : (w.alloc (.cells #[.pointer (some ⟨k.fb, 0, none⟩), .pointer (some ⟨k.rb, 0, none⟩)] 123)).heap.size = w.heap.size + 1 := by simp
  have qo : ∀ j, X.cell? ⟨w.heap.size + 1, j, none⟩ = #[Value.int .i64 12, .int .i64 on, .int .i64 oa, .string ox, .int .i64 N, .int .i64 W, .int .i64 B, .int .i64 L, .int .i64 f0, .int .i64 f1, .int .i64 f2, .int .i64 f3, .int .i64 f4, .slice fa fl fc, .string fs][j]? := fun j => by rw [hX, ← hsz]; exact cell_of_row _ _ j _ _ (0, 0) (heap_alloc_new _ _)
  have HH : Hid _ := (hears_any A base R wb t u m ks O F i k ox hi ht hu hm hx X (h.low hbX)).mono fun e w' hh => (⟨hh.1, hh.2.of (h.same hbX)⟩ : e = .returned (.bool true) ∧ KW A base R wb t u m ks w w')
  obtain ⟨fb, rb, g, p, s⟩ := k
  subst hX
  clear h hi qo q0 q1 hbX hsz
  generalize KW A base R wb t u m ks w = KK at *
  go_enter Tryz.func68, Tryz.ntmps68
  go_wp2_with fail
  generalize (w.alloc (.cells #[.pointer (some ⟨fb, 0, none⟩), .pointer (some ⟨rb, 0, none⟩)] 123)).alloc (.cells #[.int .i64 12, .int .i64 on, .int .i64 oa, .string ox, .int .i64 N, .int .i64 W, .int .i64 B, .int .i64 L, .int .i64 f0, .int .i64 f1, .int .i64 f2, .int .i64 f3, .int .i64 f4, .slice fa fl fc, .string fs] 81) = X at *
  refine (show Calls _ _ _ _ _ from HH.out).mono ?_
  rintro e w' ⟨rfl, hK⟩
  have HK : Hid _ := hK
  clear hK
  go_wp2_with fail
  go_ret
  exact ⟨rfl, HK.out⟩
end Go.Proofs.YtabecbjfamphbaaGreatDoor
