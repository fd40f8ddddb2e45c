/-
  Texts that the proof needs, joined: Xf, Xg, Xh, Xi, Wa, Ya, Yb, Yc.
-/
import Derived.Test.YtabecbjfamphbaaGreatDoorS36
import Derived.BigRegion
import Derived.Test.YtabecbjfamphbaaGreatDoorS21
import Derived.Test.YtabecbjfamphbaaGreatDoorS22
import Derived.Test.YtabecbjfamphbaaGreatDoorS23
import Derived.Test.YtabecbjfamphbaaGreatDoorS31
/- The document's net: Drop, Copy, Send, whatever is asked. -/
namespace Go.Proofs.YtabecbjfamphbaaGreatDoor
open Go.RowKit Go.Stop Go.Extern

theorem at_yes {x : MNet} {k : Int} {t : Pk} (h : x.at k = some t) : x.peekR k = ⟨t, 0⟩ := by
  unfold MNet.peekR
  rw [h]
theorem at_not {x : MNet} {k : Int} (h : x.at k = none) : x.peekR k = ⟨⟨0, ⟨#[]⟩⟩, 1⟩ := by
  unfold MNet.peekR
  rw [h]
set_option maxRecDepth 100000 in
set_option maxHeartbeats 1000000 in
theorem rnetDrop (nb : Nat) (g : Gr) (x : MNet) (m : Nat) (F : Nat → Prop) (k : Int) (hx : x.Ok g) (w : World) (h : RNetAt w nb g x m F) :
    Calls Tryz.prog 125 #[.pointer (some ⟨nb, 0, none⟩), .int .i64 k] w fun e w' => e = .returned (.int .i64 ((x.dropR k).k : Int)) ∧ RNDid w w' nb g F (x.dropR k).x (m + 1) := by
  unfold MNet.dropR
  cases hk : x.at k with
  | some t =>
    obtain ⟨q, rfl, hq⟩ := at_some hk
    obtain ⟨G, hN, hF⟩ := h
    refine (rdrop_yes nb g x m G q t hq hx w hN).mono ?_
    rintro e w' ⟨rfl, hg⟩
    obtain ⟨ba', bc', h1⟩ := (RNs.start hN hF).bag hg
    have eq : (q : Int).toNat = q := by omega
    simp only [eq]
    exact ⟨rfl, (h1.more (Nat.le_succ m)).did⟩
  | none =>
    have HPk : Hid _ := rnetPeek nb g x m F k w h
    rw [at_not hk] at HPk
    have HNone : Hid (∀ y, Below w.heap.size w y → RNDid w y nb g F x (m + 1)) := fun y hy => RNDid.none h hy
    clear h hx hk
    go_enter Tryz.func125, Tryz.ntmps125
    go_wp2_with fail
    refine (show Calls _ _ _ _ _ from HPk.out).mono ?_
    rintro e w1 ⟨rfl, hb1⟩
    have HD : Hid _ := HNone.out _ (bthen hb1 (below1 w1 (.cells #[.int .i64 0, .string ⟨#[]⟩] 109)))
    clear hb1
    go_wp2_with fail
    go_ret
    exact ⟨rfl, HD.out⟩
set_option maxRecDepth 100000 in
set_option maxHeartbeats 2000000 in
theorem rnetCopy (nb : Nat) (g : Gr) (x : MNet) (m : Nat) (F : Nat → Prop) (k : Int) (hx : x.Ok g) (w : World) (h : RNetAt w nb g x m F) :
    Calls Tryz.prog 126 #[.pointer (some ⟨nb, 0, none⟩), .int .i64 k] w fun e w' => e = .returned (.int .i64 ((x.copyR k).k : Int)) ∧ RNDid w w' nb g F (x.copyR k).x (m + 1) := by
  have HPk : Hid _ := rnetPeek nb g x m F k w h
  have HNone : Hid (∀ y, Below w.heap.size w y → RNDid w y nb g F x (m + 1)) := fun y hy => RNDid.none h hy
  unfold MNet.copyR
  cases hk : x.at k with
  | some t =>
    rw [at_yes hk] at HPk
    obtain ⟨tn, tx⟩ := t
    simp only at HPk ⊢
    obtain ⟨G, hN, hF⟩ := h
    have hlx := hx.len
    obtain ⟨i0, hi, hz0, hz1, hz2⟩ := info_parts Tryz.packetInfo
    have hone : ∀ u ∈ ([.int .i64 tn, .string tx] : List Value), u.oneCell' = true := by
      intro u hu
      simp at hu
      rcases hu with rfl | rfl <;> rfl
    have HEnd : Hid (∀ y z, Below w.heap.size w y → Grw 238 y z nb 5 109 2 G.ba (x.bag.length + 1) (prow x.bag ++ [.int .i64 tn, .string tx]) → RNDid w z nb g F { x with bag := x.bag ++ [⟨tn, tx⟩] } (m + 1)) := fun y z hy hg => by
      have hg' : Grw 238 y z nb 5 109 2 G.ba (x.bag ++ [(⟨tn, tx⟩ : Pk)]).length (prow (x.bag ++ [(⟨tn, tx⟩ : Pk)])) := by
        rw [List.length_append, prow_append]
        exact hg
      obtain ⟨ba', bc', h1⟩ := ((RNs.start hN hF).low hy).bag hg'
      exact (h1.more (Nat.le_succ m)).did
    have HAt : Hid (∀ y, Below w.heap.size w y → RNt y nb g x m G) := fun y hy => hN.low hy
    generalize ({ x with bag := x.bag ++ [⟨tn, tx⟩] } : MNet) = x' at *
    clear hN hF hx hk
    go_enter Tryz.func126, Tryz.ntmps126
    go_wp2_with fail
    refine (show Calls _ _ _ _ _ from HPk.out).mono ?_
    rintro e w1 ⟨rfl, hb1⟩
    have HBX : Hid (Below w.heap.size w (w1.alloc (.cells #[.int .i64 tn, .string tx] 109))) := bthen hb1 (below1 _ _)
    have e0 : ∀ i, (w1.alloc (.cells #[.int .i64 tn, .string tx] 109)).cell? ⟨w1.heap.size, i, none⟩ = #[Value.int .i64 tn, .string tx][i]? := fun i => cell_of_row _ _ i _ _ (0, 0) (heap_alloc_new _ _)
    have q0 : (w1.alloc (.cells #[.int .i64 tn, .string tx] 109)).cell? ⟨w1.heap.size, 0, none⟩ = some (.int .i64 tn) := e0 0
    have q1 : (w1.alloc (.cells #[.int .i64 tn, .string tx] 109)).cell? ⟨w1.heap.size, 1, none⟩ = some (.string tx) := e0 1
    clear hb1 e0
    go_wp2_with fail
    generalize w1.alloc (.cells #[.int .i64 tn, .string tx] 109) = X at *
    have hNX := HAt.out X HBX.out
    have c5 := hNX.c5
    have fz := frozen_ty hNX.ty 5
    have hbX : nb < X.heap.size := lt_of_cell c5
    have HTy : Hid _ := hNX.ty
    have HOw : Hid _ := hNX.bo
    have HO : Hid (∀ y : World, Below X.heap.size X y → y.ownsRow 0 109 2 (.slice G.ba x.bag.length G.bc) x.bag.length (prow x.bag)) := fun y hy => row_low hNX.bo hy
    have hnb : some nb ≠ (Value.slice G.ba x.bag.length G.bc).ownBlock := fun he => by
      obtain ⟨cur, e⟩ := hNX.ty
      obtain ⟨_, e'⟩ := own_block hNX.bo (own_on hNX.bo he.symm)
      exact ty_ne e e' (by decide) rfl
    have HEn : Hid (∀ z, Grw 238 X z nb 5 109 2 G.ba (x.bag.length + 1) (prow x.bag ++ [.int .i64 tn, .string tx]) → RNDid w z nb g F x' (m + 1)) := fun z hg => HEnd.out X z HBX.out hg
    clear hNX HEnd HAt HNone
    generalize G.ba = ba at *
    generalize G.bc = bc at *
    generalize hbag : x.bag = bag at *
    generalize hbl : bag.length = bl at *
    go_region_law
      (refine step_append_lies _ rfl (.tmp 20) (.tmp 22) 54 rfl 0 109 i0 _ 2 24 Tryz.underlying54 hi hz0 hz1 hz2 rfl (by decide) (.slice ba bl bc) bl (prow bag) (by simp [Act.eval]) (HO.out _ (by first | exact (below1 _ _).drew | exact ((Below.refl _ _).drew).trans (below1 _ _) | exact below1 _ _)) ⟨X.heap.size, 0, none⟩ 1 1 [.int .i64 tn, .string tx] (by simp [Act.eval]) rfl (World.news_of_block (heap_alloc_new X _)) hone (by decide) (by unfold maxLen; omega) (by omega) (Nat.zero_le _) _ rfl ?_; intro g' cap' v1 hown hgrow hat hlt2; have HO1 : Hid (World.ownsRow v1 0 109 2 (.slice (some ⟨g', 0, none⟩) (bl + 1) cap') (bl + 1) (prow bag ++ [.int .i64 tn, .string tx])) := hown; have HX : Hid (∃ x0 : World, ∃ H : Nat, Below X.heap.size X x0 ∧ x0.grownBy v1 (Value.slice ba bl bc).ownBlock ∧ ((Value.slice ba bl bc).ownBlock = some g' ∨ g' = H) ∧ X.heap.size ≤ H) := ⟨_, _, (by first | exact (below1 _ _).drew | exact ((Below.refl _ _).drew).trans (below1 _ _) | exact below1 _ _), hgrow, hat, (by simp)⟩; have c11 : v1.cell? ⟨nb, 5, none⟩ = some (.slice ba bl bc) := (hgrow.cell_far ⟨nb, 5, none⟩ (by simp; omega) hnb).trans ((Below.cell (B := X.heap.size) (w := X) (by first | exact (below1 _ _).drew | exact ((Below.refl _ _).drew).trans (below1 _ _) | exact below1 _ _) (p := ⟨nb, 5, none⟩) hbX).trans c5); have f11 : v1.frozen? ⟨nb, 5, none⟩ = false := (hgrow.frozen_far ⟨nb, 5, none⟩ (by simp; omega) hnb).trans ((Below.frozen (B := X.heap.size) (w := X) (by first | exact (below1 _ _).drew | exact ((Below.refl _ _).drew).trans (below1 _ _) | exact below1 _ _) (p := ⟨nb, 5, none⟩) hbX).trans fz); clear hown hgrow hat hlt2)
    all_goals
      have HG2 : Hid (Grw 238 X (v1.setCell ⟨nb, 5, none⟩ (.slice (some ⟨g', 0, none⟩) (bl + 1) cap')) nb 5 109 2 ba (bl + 1) (prow bag ++ [.int .i64 tn, .string tx])) := by
        obtain ⟨x0, H, hx0, hgr, hat, hH⟩ := HX.out
        exact grw_in (t := 238) (i := 5) (u := .slice ba bl bc) HTy.out (by decide) HOw.out hx0 hgr hat hH HO1.out c11
      go_wp2_with fail
      go_ret
      exact ⟨rfl, HEn.out _ HG2.out⟩
  | none =>
    rw [at_not hk] at HPk
    clear h hx hk
    go_enter Tryz.func126, Tryz.ntmps126
    go_wp2_with fail
    refine (show Calls _ _ _ _ _ from HPk.out).mono ?_
    rintro e w1 ⟨rfl, hb1⟩
    have HD : Hid _ := HNone.out _ (bthen hb1 (below1 w1 (.cells #[.int .i64 0, .string ⟨#[]⟩] 109)))
    clear hb1
    go_wp2_with fail
    go_ret
    exact ⟨rfl, HD.out⟩
set_option maxRecDepth 100000 in
set_option maxHeartbeats 2000000 in
theorem rnetSend (nb : Nat) (g : Gr) (x : MNet) (m : Nat) (F : Nat → Prop) (p : Int) (s : ByteArray) (hx : x.Ok g) (w : World) (h : RNetAt w nb g x m F) :
    Calls Tryz.prog 127 #[.pointer (some ⟨nb, 0, none⟩), .int .i64 p, .string s] w fun e w' => e = .returned (.int .i64 ((x.sendR g p s).k : Int)) ∧ RNDid w w' nb g F (x.sendR g p s).x (m + 1) := by
  have HNo : Hid (Calls Tryz.prog 165 #[.agg #[.int .i64 (g.n : Int), .int .i64 g.W, .int .i64 g.B, .int .i64 g.L], .int .i64 p] w fun e w' => e = .returned (.bool (isNode g.n p)) ∧ Below w.heap.size w w') := node_any (g.n : Int) g.W g.B g.L p w
  have HNone : Hid (∀ y, Below w.heap.size w y → RNDid w y nb g F x (m + 1)) := fun y hy => RNDid.none h hy
  obtain ⟨G, hN, hF⟩ := h
  have c0 := hN.c0
  have c1 := hN.c1
  have c2 := hN.c2
  have c3 := hN.c3
  unfold MNet.sendR
  by_cases hi : isNode g.n p = true
  · rw [if_pos hi]
    rw [hi] at HNo
    by_cases hs : s.size ≤ 100
    · rw [if_pos hs]
      have hlx := hx.len
      obtain ⟨i0, hi, hz0, hz1, hz2⟩ := info_parts Tryz.packetInfo
      have hone : ∀ u ∈ ([.int .i64 p, .string s] : List Value), u.oneCell' = true := by
        intro u hu
        simp at hu
        rcases hu with rfl | rfl <;> rfl
      have HEnd : Hid (∀ y z, Below w.heap.size w y → Grw 238 y z nb 5 109 2 G.ba (x.bag.length + 1) (prow x.bag ++ [.int .i64 p, .string s]) → RNDid w z nb g F { x with bag := x.bag ++ [⟨p, s⟩] } (m + 1)) := fun y z hy hg => by
        have hg' : Grw 238 y z nb 5 109 2 G.ba (x.bag ++ [(⟨p, s⟩ : Pk)]).length (prow (x.bag ++ [(⟨p, s⟩ : Pk)])) := by
          rw [List.length_append, prow_append]
          exact hg
        obtain ⟨ba', bc', h1⟩ := ((RNs.start hN hF).low hy).bag hg'
        exact (h1.more (Nat.le_succ m)).did
      have HAt : Hid (∀ y, Below w.heap.size w y → RNt y nb g x m G) := fun y hy => hN.low hy
      have hsi : ¬ ((100 : Int) < (s.size : Int)) := by omega
      have hsb : decide ((100 : Int) < (s.size : Int)) = false := decide_eq_false hsi
      generalize ({ x with bag := x.bag ++ [⟨p, s⟩] } : MNet) = x' at *
      clear hN hF hx
      go_enter Tryz.func127, Tryz.ntmps127
      go_wp2_with fail
      refine (show Calls _ _ _ _ _ from HNo.out).mono ?_
      rintro e X ⟨rfl, hb1⟩
      have hNX := HAt.out X hb1
      have c5 := hNX.c5
      have fz := frozen_ty hNX.ty 5
      have hbX : nb < X.heap.size := lt_of_cell c5
      have HTy : Hid _ := hNX.ty
      have HOw : Hid _ := hNX.bo
      have HO : Hid (∀ y : World, Below X.heap.size X y → y.ownsRow 0 109 2 (.slice G.ba x.bag.length G.bc) x.bag.length (prow x.bag)) := fun y hy => row_low hNX.bo hy
      have hnb : some nb ≠ (Value.slice G.ba x.bag.length G.bc).ownBlock := fun he => by
        obtain ⟨cur, e⟩ := hNX.ty
        obtain ⟨_, e'⟩ := own_block hNX.bo (own_on hNX.bo he.symm)
        exact ty_ne e e' (by decide) rfl
      have HEn : Hid (∀ z, Grw 238 X z nb 5 109 2 G.ba (x.bag.length + 1) (prow x.bag ++ [.int .i64 p, .string s]) → RNDid w z nb g F x' (m + 1)) := fun z hg => HEnd.out X z hb1 hg
      clear hNX HEnd HAt HNone hb1 c0 c1 c2 c3
      generalize G.ba = ba at *
      generalize G.bc = bc at *
      generalize hbag : x.bag = bag at *
      generalize hbl : bag.length = bl at *
      go_wp2_with (at_builtin; refine wpList_append_lies _ rfl (.tmp 23) (.tmp 27) 54 rfl 0 109 i0 _ 2 24 Tryz.underlying54 hi hz0 hz1 hz2 rfl (by decide) (.slice ba bl bc) bl (prow bag) rfl (HO.out _ (below1 _ _)) ⟨X.heap.size, 0, none⟩ 1 1 [.int .i64 p, .string s] rfl rfl (World.news_of_block (heap_alloc_new X _)) hone (by decide) (by unfold maxLen; omega) (by omega) (Nat.zero_le _) _ rfl ?_)
      intro g' cap' v1 hown hgrow hat hlt2
      have c11 : v1.cell? ⟨nb, 5, none⟩ = some (.slice ba bl bc) := (hgrow.cell_far ⟨nb, 5, none⟩ (by simp; omega) hnb).trans ((Below.cell (B := X.heap.size) (w := X) (below1 _ _) (p := ⟨nb, 5, none⟩) hbX).trans c5)
      have f11 : v1.frozen? ⟨nb, 5, none⟩ = false := (hgrow.frozen_far ⟨nb, 5, none⟩ (by simp; omega) hnb).trans ((Below.frozen (B := X.heap.size) (w := X) (below1 _ _) (p := ⟨nb, 5, none⟩) hbX).trans fz)
      have HG2 : Hid (Grw 238 X (v1.setCell ⟨nb, 5, none⟩ (.slice (some ⟨g', 0, none⟩) (bl + 1) cap')) nb 5 109 2 ba (bl + 1) (prow bag ++ [.int .i64 p, .string s])) := grw_in (t := 238) (i := 5) (u := .slice ba bl bc) HTy.out (by decide) HOw.out (below1 _ _) hgrow hat (by simp) hown c11
      clear hown hgrow hat hlt2
      go_wp2_with fail
      go_ret
      exact ⟨rfl, HEn.out _ HG2.out⟩
    · rw [if_neg hs]
      have hsi : (100 : Int) < (s.size : Int) := by omega
      have hsb : decide ((100 : Int) < (s.size : Int)) = true := decide_eq_true hsi
      clear hN hF hx hi
      go_enter Tryz.func127, Tryz.ntmps127
      go_wp2_with fail
      refine (show Calls _ _ _ _ _ from HNo.out).mono ?_
      rintro e w1 ⟨rfl, hb1⟩
      have HD : Hid _ := HNone.out w1 hb1
      clear hb1
      go_wp2_with fail
      go_ret
      exact ⟨rfl, HD.out⟩
  · have hi' : isNode g.n p = false := by simpa using hi
    rw [if_neg hi]
    rw [hi'] at HNo
    clear hN hF hi hi' hx
    go_enter Tryz.func127, Tryz.ntmps127
    go_wp2_with fail
    refine (show Calls _ _ _ _ _ from HNo.out).mono ?_
    rintro e w1 ⟨rfl, hb1⟩
    have HD : Hid _ := HNone.out w1 hb1
    clear hb1
    go_wp2_with fail
    go_ret
    exact ⟨rfl, HD.out⟩
end Go.Proofs.YtabecbjfamphbaaGreatDoor

/- The document's net: Deliver. -/
namespace Go.Proofs.YtabecbjfamphbaaGreatDoor
open Go.RowKit Go.Stop Go.Extern

set_option maxRecDepth 100000 in
set_option maxHeartbeats 4000000 in
theorem rdeliver_yes (nb : Nat) (g : Gr) (x : MNet) (m : Nat) (F : Nat → Prop) (G : RNLay) (k pt : Nat) (tx : ByteArray) (hk : x.bag[k]? = some ⟨(pt : Int), tx⟩) (hg : g.Ok) (hx : x.Ok g) (hm : m ≤ 100000000) (w : World) (hN : RNt w nb g x m G) (hF : ∀ j, G.foot nb g.n j → F j) :
    Calls Tryz.prog 124 #[.pointer (some ⟨nb, 0, none⟩), .int .i64 (k : Int)] w fun e w' => e = .returned (.int .i64 (((x.nd pt).hear g pt tx).k : Int)) ∧ RNDid w w' nb g F (x.deliver g k ⟨(pt : Int), tx⟩) (m + 1) := by
  obtain ⟨⟨p', hp1, hp2⟩, hts⟩ := hx.bag _ (List.mem_of_getElem? hk)
  have hpt : pt < g.n := by
    have : (pt : Int) = p' := hp1
    omega
  have hts' : tx.size ≤ 100 := hts
  have hlx := hx.len
  have hn8 := hg.n
  have HPk : Hid (Calls Tryz.prog 129 #[.pointer (some ⟨nb, 0, none⟩), .int .i64 (k : Int)] w fun e w' => e = .returned (.tuple #[.agg #[.int .i64 (pt : Int), .string tx], .int .i64 0]) ∧ Below w.heap.size w w') := by
    have h := rnetPeek nb g x m F (k : Int) w ⟨G, hN, hF⟩
    have e : x.peekR (k : Int) = ⟨⟨(pt : Int), tx⟩, 0⟩ := by
      unfold MNet.peekR MNet.at
      rw [if_pos (by omega)]
      simp [hk]
    rw [e] at h
    exact h
  obtain ⟨gn, e1, r0⟩ := hN.at hpt
  obtain ⟨gf, e2, r1, _⟩ := hN.refAt hpt
  have hkb : k < x.bag.length := (List.getElem?_eq_some_iff.1 hk).1
  have hel : (x.bag.eraseIdx k).length ≤ x.bag.length := List.length_eraseIdx_le _ _
  have HSt : Hid (∀ w1, Below w.heap.size w w1 → Calls Tryz.prog 125 #[.pointer (some ⟨nb, 0, none⟩), .int .i64 (k : Int)] (w1.alloc (.cells #[.int .i64 (pt : Int), .string tx] 109)) fun e w2 => e = .returned (.int .i64 0) ∧ (w2.cell? ⟨nb, 4, none⟩ = some (.slice (some ⟨gn, 0, none⟩) g.n G.nc) ∧ w2.cell? ⟨gn, pt, none⟩ = some (.pointer (some ⟨G.rb pt, 0, none⟩)) ∧ w2.cell? ⟨w1.heap.size, 0, none⟩ = some (.int .i64 (pt : Int)) ∧ w2.cell? ⟨w1.heap.size, 1, none⟩ = some (.string tx)) ∧
      ∀ y2, Below w2.heap.size w2 y2 → Calls Tryz.prog 171 #[.pointer (some ⟨G.rb pt, 0, none⟩), .string tx] y2 fun e w3 => ∃ a n c, e = .returned (.tuple #[.slice a n c, .int .i64 (((x.nd pt).hear g pt tx).k : Int)]) ∧ (w3.cell? ⟨nb, 4, none⟩ = some (.slice (some ⟨gn, 0, none⟩) g.n G.nc) ∧ w3.cell? ⟨gn, pt, none⟩ = some (.pointer (some ⟨G.rb pt, 0, none⟩)) ∧ w3.cell? ⟨w1.heap.size, 0, none⟩ = some (.int .i64 (pt : Int)) ∧ w3.cell? ⟨w1.heap.size, 1, none⟩ = some (.string tx)) ∧ (w3.cell? ⟨nb, 6, none⟩ = some (.slice (some ⟨gf, 0, none⟩) g.n G.fc) ∧ w3.cell? ⟨gf, pt, none⟩ = some (.int .i64 (x.ref pt)) ∧ w3.frozen? ⟨gf, pt, none⟩ = false) ∧
        (((x.nd pt).hear g pt tx).k = 0 → Calls Tryz.prog 177 #[.pointer (some ⟨nb, 0, none⟩), .slice a n c] w3 fun e w' => e = .returned (.tuple #[]) ∧ RNDid w w' nb g F (x.deliver g k ⟨(pt : Int), tx⟩) (m + 1)) ∧
        (((x.nd pt).hear g pt tx).k ≠ 0 → ∀ y, Below w3.heap.size w3 y → Calls Tryz.prog 177 #[.pointer (some ⟨nb, 0, none⟩), .slice a n c] (y.setCell ⟨gf, pt, none⟩ (.int .i64 (x.ref pt + 1))) fun e w' => e = .returned (.tuple #[]) ∧ RNDid w w' nb g F (x.deliver g k ⟨(pt : Int), tx⟩) (m + 1))) := fun w1 hb1 => by
    have hbX : Below w.heap.size w (w1.alloc (.cells #[.int .i64 (pt : Int), .string tx] 109)) := bthen hb1 (below1 _ _)
    have hs0 := (RNs.start hN hF).low hbX
    have hs1 := hb1.size
    have hbl : ∀ j, G.foot nb g.n j → j < w.heap.size := fun j hj => hN.lt hj
    refine (rdrop_yes nb g x m G k _ hk hx _ hs0.n).mono ?_
    rintro e w2 ⟨rfl, hgr⟩
    obtain ⟨ba2, bc2, hs2⟩ := hs0.bag hgr
    have hbx : ∀ i, w2.cell? ⟨w1.heap.size, i, none⟩ = #[Value.int .i64 (pt : Int), .string tx][i]? := fun i => by
      have e0 := cell_of_row (w1.alloc (.cells #[.int .i64 (pt : Int), .string tx] 109)) w1.heap.size i _ _ (0, 0) (heap_alloc_new _ _)
      rw [← e0]
      refine World.cell?_of_block (hgr.rest.block w1.heap.size (by simp) (fun hc => ?_))
      rcases hc with e | hc
      · have := hbl nb (Or.inl rfl)
        omega
      · have := hbl _ (Or.inr (Or.inr (Or.inl hc)))
        omega
    have c4' := hs2.n.c4
    obtain ⟨gn', e1', r0'⟩ := hs2.n.at hpt
    have egn : gn' = gn := by
      have : (some ⟨gn', 0, none⟩ : Option Addr) = some ⟨gn, 0, none⟩ := e1'.symm.trans e1
      cases this
      rfl
    subst egn
    have c4'' : w2.cell? ⟨nb, 4, none⟩ = some (.slice (some ⟨gn', 0, none⟩) g.n G.nc) := by
      have h := c4'
      simp only [e1] at h
      exact h
    refine ⟨rfl, ⟨c4'', r0', hbx 0, hbx 1⟩, fun y2 hy2 => ?_⟩
    have hs2y := hs2.low hy2
    refine (rhear_any (G.rb pt) g pt (x.nd pt) m (G.Fp pt) tx hg hpt (by unfold maxLen; omega) hm y2 (hs2y.n.nd pt hpt)).mono ?_
    rintro e w3 ⟨v, rfl, hd⟩
    obtain ⟨a, c, rfl⟩ := rowShaped hd.pks.own
    obtain ⟨Fp', hs3⟩ := hs2y.node hpt (Nat.le_succ m) hd
    have hnF : ∀ j, j < w.heap.size → ¬ (j = nb ∨ onB G.na j) ∨ ¬ G.Fp pt j := fun j _ => by
      by_cases h : G.Fp pt j
      · have := hN.off pt hpt j h
        exact Or.inl (fun hc => by
          rcases hc with e | hc
          · exact this.1 e
          · exact this.2.1 hc)
      · exact Or.inr h
    have hFnb : ¬ G.Fp pt nb := fun hc => (hN.off pt hpt nb hc).1 rfl
    have hFgn : ¬ G.Fp pt gn' := fun hc => (hN.off pt hpt gn' hc).2.1 ⟨0, e1⟩
    have hFbx : ¬ G.Fp pt w1.heap.size := fun hc => by
      have := hbl _ (Or.inr (Or.inr (Or.inr (Or.inr ⟨pt, hpt, hc⟩))))
      omega
    have up : ∀ {b i : Nat} {v : Value}, w2.cell? ⟨b, i, none⟩ = some v → ¬ G.Fp pt b → w3.cell? ⟨b, i, none⟩ = some v := fun h1 h2 => hd.rest.cell ((hy2.cell (lt_of_cell h1)).trans h1) h2
    obtain ⟨gf', e2', r1', fz'⟩ := hs3.n.refAt hpt
    have egf : gf' = gf := by
      have : (some ⟨gf', 0, none⟩ : Option Addr) = some ⟨gf, 0, none⟩ := e2'.symm.trans e2
      cases this
      rfl
    subst egf
    have c6' : w3.cell? ⟨nb, 6, none⟩ = some (.slice (some ⟨gf', 0, none⟩) g.n G.fc) := by
      have h := hs3.n.c6
      simp only [e2] at h
      exact h
    have hfew := hear_few g pt (x.nd pt) tx
    have hba2 : ∀ j, onB ba2 j → j < y2.heap.size := fun j hj => hs2y.n.lt (Or.inr (Or.inr (Or.inl hj)))
    have hgfl : gf' < y2.heap.size := hs2y.n.lt (k := gf') (Or.inr (Or.inr (Or.inr (Or.inl ⟨0, e2⟩))))
    refine ⟨a, _, c, rfl, ⟨up c4'' hFnb, up r0' hFgn, up (hbx 0) hFbx, up (hbx 1) hFbx⟩, ⟨c6', r1', fz'⟩, fun hk0 => ?_, fun hk0 y hy => ?_⟩
    · have hl := hs3.lays hd.pks hba2 (by show (x.bag.eraseIdx k).length + _ ≤ _; omega)
      refine hl.mono ?_
      rintro e w' ⟨rfl, hr⟩
      refine ⟨rfl, ?_⟩
      have ed : x.deliver g k ⟨(pt : Int), tx⟩ = { x.put pt ((x.nd pt).hear g pt tx).s with bag := x.bag.eraseIdx k ++ ((x.nd pt).hear g pt tx).ps } := by
        unfold MNet.deliver
        simp only [Int.toNat_natCast]
        rw [if_pos hk0]
      rw [ed]
      exact hr
    · have hs4 := (hs3.low hy).refuse (p := pt) hpt e2'
      have hpk : Pks (y.setCell ⟨gf', pt, none⟩ (.int .i64 (x.ref pt + 1))) y2.heap.size (.slice a ((x.nd pt).hear g pt tx).ps.length c) ((x.nd pt).hear g pt tx).ps := (hd.pks.alike (Alike.of_below hy (fun _ => False)) (fun _ _ _ h => h)).alike (Alike.setCell y ⟨gf', pt, none⟩ _) (fun j hj _ he => by
        have : j = gf' := he
        omega)
      have hl := hs4.lays hpk hba2 (by show (x.bag.eraseIdx k).length + _ ≤ _; omega)
      refine hl.mono ?_
      rintro e w' ⟨rfl, hr⟩
      refine ⟨rfl, ?_⟩
      have ed : x.deliver g k ⟨(pt : Int), tx⟩ = ({ x.put pt ((x.nd pt).hear g pt tx).s with bag := x.bag.eraseIdx k ++ ((x.nd pt).hear g pt tx).ps } : MNet).refuse pt := by
        unfold MNet.deliver
        simp only [Int.toNat_natCast]
        rw [if_neg hk0]
      rw [ed]
      exact hr
  have hpi : (pt : Int) < (g.n : Int) := by omega
  have hrb := hx.ref pt hpt
  have hwr : IntKind.i64.wrap (x.ref pt + 1) = x.ref pt + 1 := by rw [IntKind.wrap_i64]; omega
  generalize x.deliver g k ⟨(pt : Int), tx⟩ = x' at *
  generalize ((x.nd pt).hear g pt tx).k = kk at *
  generalize x.ref pt = rp at *
  clear hN hF hk hx hts r0 r1 e1 e2 hp1 hp2
  go_enter Tryz.func124, Tryz.ntmps124
  go_wp2_with fail
  refine (show Calls _ _ _ _ _ from HPk.out).mono ?_
  rintro e w1 ⟨rfl, hb1⟩
  have HDr : Hid _ := HSt.out w1 hb1
  clear hb1
  go_wp2_with fail
  refine (show Calls _ _ _ _ _ from HDr.out).mono ?_
  rintro e w2 ⟨rfl, hS2, hh⟩
  have HS2 : Hid _ := hS2
  have HH : Hid _ := hh
  clear hh hS2
  obtain ⟨s0, s1, s2, s3⟩ := HS2.out
  go_wp2_with fail
  go_region_held3 (fun v => v.cell? ⟨nb, 4, none⟩ = some (.slice (some ⟨gn, 0, none⟩) g.n G.nc) ∧ v.cell? ⟨gn, pt, none⟩ = some (.pointer (some ⟨G.rb pt, 0, none⟩)) ∧ v.cell? ⟨w1.heap.size, 0, none⟩ = some (.int .i64 (pt : Int)) ∧ v.cell? ⟨w1.heap.size, 1, none⟩ = some (.string tx)) (first | (exact HS2.out) | (exact HS3.out) | go_keep)
    (first | (go_at_call 171; refine (show Calls _ _ _ _ _ from HH.out _ (by first | exact (Below.refl _ _).drew | exact Below.refl _ _ | exact below_drewN (Below.refl _ _) _)).mono ?_; rintro e w3 ⟨a, n, c, rfl, hS3, hR3, hl0, hl1⟩; have HS3 : Hid _ := hS3; have HR3 : Hid _ := hR3; have HL0 : Hid _ := hl0; have HL1 : Hid _ := hl1; clear hS3 hR3 hl0 hl1))
  obtain ⟨s0', s1', s2', s3'⟩ := HS3.out
  obtain ⟨d6, dr, df⟩ := HR3.out
  by_cases hk0 : kk = 0
  · subst hk0
    have HLa : Hid _ := HL0.out rfl
    go_wp2_with fail
    refine (show Calls _ _ _ _ _ from HLa.out).mono ?_
    rintro e w4 ⟨rfl, hD⟩
    have HD : Hid _ := hD
    clear hD
    go_wp2_with fail
    go_ret
    exact ⟨rfl, HD.out⟩
  · have hki : ((kk : Int) == 0) = false := by simp; omega
    have hkj : ((kk : Int) != 0) = true := by simp; omega
    have HLa : Hid _ := HL1.out hk0
    go_wp2_with fail
    go_region
    all_goals
      go_wp2_with fail
      refine (show Calls _ _ _ _ _ from HLa.out _ (by first | exact (Below.refl _ _).drew | exact Below.refl _ _ | exact below_drewN (Below.refl _ _) _)).mono ?_
      rintro e w4 ⟨rfl, hD⟩
      have HD : Hid _ := hD
      clear hD
      go_wp2_with fail
      go_ret
      exact ⟨rfl, HD.out⟩
set_option maxRecDepth 100000 in
set_option maxHeartbeats 1000000 in
theorem rnetDeliver (nb : Nat) (g : Gr) (x : MNet) (m : Nat) (F : Nat → Prop) (k : Int) (hg : g.Ok) (hx : x.Ok g) (hm : m ≤ 100000000) (w : World) (h : RNetAt w nb g x m F) :
    Calls Tryz.prog 124 #[.pointer (some ⟨nb, 0, none⟩), .int .i64 k] w fun e w' => e = .returned (.int .i64 ((x.deliverR g k).k : Int)) ∧ RNDid w w' nb g F (x.deliverR g k).x (m + 1) := by
  unfold MNet.deliverR
  cases hk : x.at k with
  | some t =>
    obtain ⟨q, rfl, hq⟩ := at_some hk
    obtain ⟨⟨p', hp1, hp2⟩, _⟩ := hx.bag _ (List.mem_of_getElem? hq)
    obtain ⟨tn, tx⟩ := t
    have hp1' : tn = (p' : Int) := hp1
    subst hp1'
    obtain ⟨G, hN, hF⟩ := h
    have eq : (q : Int).toNat = q := by omega
    have ep : (p' : Int).toNat = p' := by omega
    simp only [eq, ep]
    exact rdeliver_yes nb g x m F G q p' tx hq hg hx hm w hN hF
  | none =>
    have HPk : Hid _ := rnetPeek nb g x m F k w h
    rw [at_not hk] at HPk
    have HNone : Hid (∀ y, Below w.heap.size w y → RNDid w y nb g F x (m + 1)) := fun y hy => RNDid.none h hy
    clear h hx hk
    go_enter Tryz.func124, Tryz.ntmps124
    go_wp2_with fail
    refine (show Calls _ _ _ _ _ from HPk.out).mono ?_
    rintro e w1 ⟨rfl, hb1⟩
    have HD : Hid _ := HNone.out _ (bthen hb1 (below1 w1 (.cells #[.int .i64 0, .string ⟨#[]⟩] 109)))
    clear hb1
    go_wp2_with fail
    go_ret
    exact ⟨rfl, HD.out⟩
end Go.Proofs.YtabecbjfamphbaaGreatDoor

/- The document's net as it is made. -/
namespace Go.Proofs.YtabecbjfamphbaaGreatDoor
open Go.RowKit Go.Stop Go.Extern

/-- The document's net when it has k nodes. -/
structure RPre (w : World) (nb : Nat) (g : Gr) (k : Nat) (G : RNLay) : Prop where
  ty : ∃ cur, w.heap[nb]? = some (.cells cur 238 (0, 0))
  c0 : w.cell? ⟨nb, 0, none⟩ = some (.int .i64 (g.n : Int))
  c1 : w.cell? ⟨nb, 1, none⟩ = some (.int .i64 g.W)
  c2 : w.cell? ⟨nb, 2, none⟩ = some (.int .i64 g.B)
  c3 : w.cell? ⟨nb, 3, none⟩ = some (.int .i64 g.L)
  c4 : w.cell? ⟨nb, 4, none⟩ = some (.slice G.na k G.nc)
  no : w.ownsRow 0 121 1 (.slice G.na k G.nc) k (nprow G.rb k)
  c5 : w.cell? ⟨nb, 5, none⟩ = some (.slice none 0 0)
  c6 : w.cell? ⟨nb, 6, none⟩ = some (.slice G.fa k G.fc)
  fo : w.ownsRow 0 3 1 (.slice G.fa k G.fc) k (irow (refs (MNet.new g) k))
  nd : ∀ p, p < k → RefAt w (G.rb p) g p (NS.new g) 0 (G.Fp p)
  tp : ∀ p, p < k → ∀ j, G.Fp p j → ∃ cur t, w.heap[j]? = some (.cells cur t (0, 0)) ∧ t ≠ 109
  dis : ∀ p q, p < k → q < k → p ≠ q → ∀ j, G.Fp p j → ¬ G.Fp q j
  off : ∀ p, p < k → ∀ j, G.Fp p j → j ≠ nb ∧ ¬ onB G.na j ∧ ¬ onB G.fa j
  ba : G.ba = none ∧ G.bc = 0
theorem RPre.lt {w : World} {nb : Nat} {g : Gr} {k : Nat} {G : RNLay} (h : RPre w nb g k G) {j : Nat} (hj : G.foot nb k j) : j < w.heap.size := by
  rcases hj with rfl | hk | hk | hk | ⟨p, hp, hk⟩
  · obtain ⟨_, e⟩ := h.ty
    exact lt_of_some e
  · obtain ⟨_, e⟩ := own_block h.no hk
    exact lt_of_some e
  · rw [h.ba.1] at hk
    obtain ⟨_, e⟩ := hk
    cases e
  · obtain ⟨_, e⟩ := own_block h.fo hk
    exact lt_of_some e
  · obtain ⟨_, _, e, _⟩ := h.tp p hp j hk
    exact lt_of_some e
theorem refs_more (g : Gr) (k : Nat) : irow (refs (MNet.new g) (k + 1)) = irow (refs (MNet.new g) k) ++ [.int .i64 0] := by
  unfold refs
  rw [List.range_succ, List.map_append]
  simp [irow, MNet.new]
theorem nprow_more (rb : Nat → Nat) (k b : Nat) : nprow (fun p => if p = k then b else rb p) (k + 1) = nprow rb k ++ [.pointer (some ⟨b, 0, none⟩)] := by
  unfold nprow
  rw [List.range_succ, List.map_append]
  congr 1
  · refine List.map_congr_left fun p hp => ?_
    have : p ≠ k := by have := List.mem_range.1 hp; omega
    simp [this]
  · simp
/-- A node more. -/
theorem RPre.step {w w1 w2 w3 : World} {nb : Nat} {g : Gr} {k : Nat} {G : RNLay} (h : RPre w nb g k G) (hb : Below w.heap.size w w1) {b : Nat} {F' : Nat → Prop} (hr : RefAt w1 b g k (NS.new g) 0 F') (hF : ∀ j, F' j → w.heap.size ≤ j)
    (hg4 : Grw 238 w1 w2 nb 4 121 1 G.na (k + 1) (nprow G.rb k ++ [.pointer (some ⟨b, 0, none⟩)])) (hg6 : Grw 238 w2 w3 nb 6 3 1 G.fa (k + 1) (irow (refs (MNet.new g) k) ++ [.int .i64 0])) :
    ∃ G', RPre w3 nb g (k + 1) G' ∧ ∀ j, G'.foot nb (k + 1) j → G.foot nb k j ∨ w.heap.size ≤ j := by
  obtain ⟨F0, t1, t2, _, t4⟩ := hr.tight
  obtain ⟨⟨na', nc', n4, no', nn⟩, r4, o4, ty4⟩ := hg4
  obtain ⟨⟨fa', fc', n6, fo', fn⟩, r6, o6, ty6⟩ := hg6
  have hlt : ∀ {j}, G.foot nb k j → j < w.heap.size := fun hj => h.lt hj
  have hs0 := hb.size
  have hs1 := r4.size
  have hs2 := r6.size
  have hnb : nb < w.heap.size := hlt (Or.inl rfl)
  have hF0 : ∀ j, F0 j → w.heap.size ≤ j ∧ j < w1.heap.size := fun j hj => ⟨hF j (t1 j hj), by
    obtain ⟨_, _, e, _⟩ := t4 j hj
    exact lt_of_some e⟩
  have hna : ∀ j, onB G.na j → j < w.heap.size := fun j hj => hlt (Or.inr (Or.inl hj))
  have hfa : ∀ j, onB G.fa j → j < w.heap.size := fun j hj => hlt (Or.inr (Or.inr (Or.inr (Or.inl hj))))
  have e1 : ∀ i v, w.cell? ⟨nb, i, none⟩ = some v → w1.cell? ⟨nb, i, none⟩ = some v := fun i v hv => (hb.cell (p := ⟨nb, i, none⟩) hnb).trans hv
  have e3 : ∀ i v, i ≠ 4 → i ≠ 6 → w.cell? ⟨nb, i, none⟩ = some v → w3.cell? ⟨nb, i, none⟩ = some v := fun i v h4 h6 hv => o6 i v h6 (o4 i v h4 (e1 i v hv))
  obtain ⟨curn, htn⟩ := h.ty
  have htn1 : w1.heap[nb]? = some (.cells curn 238 (0, 0)) := (hb.block nb hnb).trans htn
  obtain ⟨curn2, htn2⟩ := ty4
  have hnn : ∀ j, onB na' j → ¬ (j = nb ∨ onB G.fa j) := fun j hj hc => by
    obtain ⟨_, e⟩ := own_block no' hj
    rcases hc with rfl | hc
    · exact ty_ne e htn2 (by decide) rfl
    · rcases nn j hj with h1 | h1
      · obtain ⟨_, ea⟩ := own_block h.no h1
        obtain ⟨_, eb⟩ := own_block h.fo hc
        exact ty_ne ea eb (by decide) rfl
      · have := hfa j hc
        omega
  have hE4 : ∀ p, p < k → ∀ j, G.Fp p j → ¬ (j = nb ∨ onB G.na j) := fun p hp j hj hc => by
    have := h.off p hp j hj
    rcases hc with e | hc
    · exact this.1 e
    · exact this.2.1 hc
  have hE6 : ∀ p, p < k → ∀ j, G.Fp p j → ¬ (j = nb ∨ onB G.fa j) := fun p hp j hj hc => by
    have := h.off p hp j hj
    rcases hc with e | hc
    · exact this.1 e
    · exact this.2.2 hc
  have hF4 : ∀ j, F0 j → ¬ (j = nb ∨ onB G.na j) := fun j hj hc => by
    have h1 := (hF0 j hj).1
    rcases hc with e | hc
    · omega
    · have := hna j hc
      omega
  have hF6 : ∀ j, F0 j → ¬ (j = nb ∨ onB G.fa j) := fun j hj hc => by
    have h1 := (hF0 j hj).1
    rcases hc with e | hc
    · omega
    · have := hfa j hc
      omega
  have hFpl : ∀ p, p < k → ∀ j, G.Fp p j → j < w.heap.size := fun p hp j hj => hlt (Or.inr (Or.inr (Or.inr (Or.inr ⟨p, hp, hj⟩))))
  refine ⟨⟨na', nc', none, 0, fa', fc', fun p => if p = k then b else G.rb p, fun p => if p = k then F0 else G.Fp p⟩, ⟨ty6, e3 0 _ (by decide) (by decide) h.c0, e3 1 _ (by decide) (by decide) h.c1, e3 2 _ (by decide) (by decide) h.c2, e3 3 _ (by decide) (by decide) h.c3, o6 4 _ (by decide) n4, ?_, e3 5 _ (by decide) (by decide) h.c5, n6, ?_, fun p hp => ?_, fun p hp j hj => ?_, fun p q hp hq hne j hj hc => ?_, fun p hp j hj => ?_, ⟨rfl, rfl⟩⟩, fun j hj => ?_⟩
  · rw [nprow_more]
    exact row_alike2 no' r6 hnn
  · rw [refs_more]
    exact fo'
  · by_cases e : p = k
    · subst e
      simp only [if_true]
      exact (t2.alike r4 hF4).alike r6 hF6
    · simp only [if_neg e]
      have hp' : p < k := by omega
      exact (((h.nd p hp').low hb).alike r4 (hE4 p hp')).alike r6 (hE6 p hp')
  · simp only at hj
    by_cases e : p = k
    · rw [if_pos e] at hj
      obtain ⟨cur, t, e', ht, _⟩ := t4 j hj
      have h1 := (r4.block j (lt_of_some e') (hF4 j hj)).trans e'
      exact ⟨cur, t, (r6.block j (lt_of_some h1) (hF6 j hj)).trans h1, ht⟩
    · rw [if_neg e] at hj
      have hp' : p < k := by omega
      obtain ⟨cur, t, e', ht⟩ := h.tp p hp' j hj
      have h0 := (hb.block j (lt_of_some e')).trans e'
      have h1 := (r4.block j (lt_of_some h0) (hE4 p hp' j hj)).trans h0
      exact ⟨cur, t, (r6.block j (lt_of_some h1) (hE6 p hp' j hj)).trans h1, ht⟩
  · simp only at hj hc
    by_cases e1 : p = k
    · rw [if_pos e1] at hj
      rw [if_neg (fun e => hne (e1.trans e.symm))] at hc
      have h1 := hFpl q (by omega) j hc
      have h2 := (hF0 j hj).1
      omega
    · rw [if_neg e1] at hj
      by_cases e2 : q = k
      · rw [if_pos e2] at hc
        have h1 := hFpl p (by omega) j hj
        have h2 := (hF0 j hc).1
        omega
      · rw [if_neg e2] at hc
        exact h.dis p q (by omega) (by omega) hne j hj hc
  · simp only at hj ⊢
    by_cases e : p = k
    · rw [if_pos e] at hj
      have h2 := hF0 j hj
      refine ⟨by omega, fun hc => ?_, fun hc => ?_⟩
      · rcases nn j hc with h3 | h3
        · have := hna j h3
          omega
        · omega
      · rcases fn j hc with h3 | h3
        · have := hfa j h3
          omega
        · omega
    · rw [if_neg e] at hj
      have hp' : p < k := by omega
      have h2 := hFpl p hp' j hj
      have h3 := h.off p hp' j hj
      refine ⟨h3.1, fun hc => ?_, fun hc => ?_⟩
      · rcases nn j hc with h4 | h4
        · exact h3.2.1 h4
        · omega
      · rcases fn j hc with h4 | h4
        · exact h3.2.2 h4
        · omega
  · rcases hj with e | hj | hj | hj | ⟨p, hp, hj⟩
    · exact Or.inl (Or.inl e)
    · rcases nn j hj with h1 | h1
      · exact Or.inl (Or.inr (Or.inl h1))
      · exact Or.inr (by omega)
    · obtain ⟨_, e⟩ := hj
      cases e
    · rcases fn j hj with h1 | h1
      · exact Or.inl (Or.inr (Or.inr (Or.inr (Or.inl h1))))
      · exact Or.inr (by omega)
    · simp only at hj
      by_cases e : p = k
      · rw [if_pos e] at hj
        exact Or.inr (hF0 j hj).1
      · rw [if_neg e] at hj
        exact Or.inl (Or.inr (Or.inr (Or.inr (Or.inr ⟨p, by omega, hj⟩))))
theorem RPre.done {w : World} {nb : Nat} {g : Gr} {G : RNLay} (h : RPre w nb g g.n G) : RNt w nb g (MNet.new g) 0 G := by
  refine ⟨h.ty, h.c0, h.c1, h.c2, h.c3, h.c4, h.no, ?_, ?_, h.c6, h.fo, h.nd, h.tp, h.dis, h.off⟩
  · rw [h.ba.1, h.ba.2]
    exact h.c5
  · rw [h.ba.1, h.ba.2]
    exact World.ownsRow_nil _ _ _ _
end Go.Proofs.YtabecbjfamphbaaGreatDoor

/- The document's net: NewNet. -/
namespace Go.Proofs.YtabecbjfamphbaaGreatDoor
open Go.RowKit Go.Stop Go.Extern

theorem Tryz.infoNodeP : (Tryz.prog.info? 121).map (fun i => (i.zero, i.size, i.bytes)) = some (some (.pointer none), 1, 8) := by kernel_rfl
theorem RPre.start {w : World} {nb : Nat} {g : Gr} (h : w.heap[nb]? = some (.cells #[.int .i64 (g.n : Int), .int .i64 g.W, .int .i64 g.B, .int .i64 g.L, .slice none 0 0, .slice none 0 0, .slice none 0 0] 238 (0, 0))) : RPre w nb g 0 ⟨none, 0, none, 0, none, 0, fun _ => 0, fun _ _ => False⟩ := by
  have e : ∀ i, w.cell? ⟨nb, i, none⟩ = #[Value.int .i64 (g.n : Int), .int .i64 g.W, .int .i64 g.B, .int .i64 g.L, .slice none 0 0, .slice none 0 0, .slice none 0 0][i]? := fun i => cell_of_row w nb i _ _ (0, 0) h
  exact ⟨⟨_, h⟩, e 0, e 1, e 2, e 3, e 4, World.ownsRow_nil _ _ _ _, e 5, e 6, World.ownsRow_nil _ _ _ _, fun p hp => absurd hp (Nat.not_lt_zero _), fun p hp => absurd hp (Nat.not_lt_zero _), fun p q hp => absurd hp (Nat.not_lt_zero _), fun p hp => absurd hp (Nat.not_lt_zero _), ⟨rfl, rfl⟩⟩
set_option maxRecDepth 100000 in
set_option maxHeartbeats 4000000 in
theorem rnetNew_yes (g : Gr) (hg : g.Ok) (w : World) :
    Calls Tryz.prog 121 #[.agg #[.int .i64 (g.n : Int), .int .i64 g.W, .int .i64 g.B, .int .i64 g.L]] w fun e w' => (∃ nb F, e = .returned (.tuple #[.pointer (some ⟨nb, 0, none⟩), .int .i64 0]) ∧ RNetAt w' nb g (MNet.new g) 0 F ∧ ∀ k, F k → w.heap.size ≤ k) ∧ Below w.heap.size w w' := by
  have hok : okG (g.n : Int) g.W g.B g.L = true := okG_iff.2 ⟨by have := hg.n; omega, by have := hg.n; omega, hg.W.1, hg.W.2, hg.B.1, hg.B.2, hg.L.1, hg.L.2⟩
  have HCk : Hid (∀ y, Calls Tryz.prog 158 #[.agg #[.int .i64 (g.n : Int), .int .i64 g.W, .int .i64 g.B, .int .i64 g.L]] y fun e w' => e = .returned (.int .i64 0) ∧ Below y.heap.size y w') := fun y => by
    have h := refCheck_any (g.n : Int) g.W g.B g.L y
    rw [if_pos hok] at h
    exact h
  have HNw : Hid (∀ (y : World) (p : Nat), p < g.n → Calls Tryz.prog 106 #[.agg #[.int .i64 (g.n : Int), .int .i64 g.W, .int .i64 g.B, .int .i64 g.L], .int .i64 (p : Int)] y fun e w' => (∃ b F, e = .returned (.tuple #[.pointer (some ⟨b, 0, none⟩), .int .i64 0]) ∧ RefAt w' b g p (NS.new g) 0 F ∧ ∀ k, F k → y.heap.size ≤ k) ∧ Below y.heap.size y w') := fun y p hp => by
    refine (refNew (g.n : Int) g.W g.B g.L (p : Int) y).mono ?_
    rintro e w' ⟨⟨v, rfl, _, hyes⟩, hb⟩
    have h0 := newNodeK_ok hg hp
    obtain ⟨b, F, rfl, r1, r2⟩ := hyes h0
    have e1 : (g.n : Int).toNat = g.n := by omega
    have e2 : (p : Int).toNat = p := by omega
    rw [e1, e2] at r1
    rw [h0]
    exact ⟨⟨b, F, rfl, r1, r2⟩, hb⟩
  have hn8 := hg.n
  clear hok hg
  obtain ⟨i0, hi, hz0, hz1, hz2⟩ := info_parts Tryz.infoNodeP
  obtain ⟨i1, hj, hy0, hy1, hy2⟩ := info_parts Tryz.intInfo
  go_enter Tryz.func121, Tryz.ntmps121
  go_wp2_with fail
  have HBX : Hid (Below w.heap.size w (w.alloc (.cells #[.int .i64 (g.n : Int), .int .i64 g.W, .int .i64 g.B, .int .i64 g.L] 26))) := below1 _ _
  have e0 : ∀ i, (w.alloc (.cells #[.int .i64 (g.n : Int), .int .i64 g.W, .int .i64 g.B, .int .i64 g.L] 26)).cell? ⟨w.heap.size, i, none⟩ = #[Value.int .i64 (g.n : Int), .int .i64 g.W, .int .i64 g.B, .int .i64 g.L][i]? := fun i => cell_of_row _ _ i _ _ (0, 0) (heap_alloc_new _ _)
  have HE0 : Hid _ := e0
  have HZ : Hid (w.heap.size < (w.alloc (.cells #[.int .i64 (g.n : Int), .int .i64 g.W, .int .i64 g.B, .int .i64 g.L] 26)).heap.size) := by show _ < _; simp
  clear e0
  generalize w.alloc (.cells #[.int .i64 (g.n : Int), .int .i64 g.W, .int .i64 g.B, .int .i64 g.L] 26) = X at *
  refine (show Calls _ _ _ _ _ from HCk.out X).mono ?_
  rintro e w1 ⟨rfl, hb1⟩
  have HB1 : Hid (Below w.heap.size w w1) := bthen HBX.out hb1
  have HE1 : Hid (∀ y, Below w1.heap.size w1 y → y.cell? ⟨w.heap.size, 0, none⟩ = some (.int .i64 (g.n : Int)) ∧ y.cell? ⟨w.heap.size, 1, none⟩ = some (.int .i64 g.W) ∧ y.cell? ⟨w.heap.size, 2, none⟩ = some (.int .i64 g.B) ∧ y.cell? ⟨w.heap.size, 3, none⟩ = some (.int .i64 g.L)) := fun y hy => by
    have hz := HZ.out
    have hs := hb1.size
    have e : ∀ i, y.cell? ⟨w.heap.size, i, none⟩ = #[Value.int .i64 (g.n : Int), .int .i64 g.W, .int .i64 g.B, .int .i64 g.L][i]? := fun i => (hy.cell (p := ⟨w.heap.size, i, none⟩) (by show w.heap.size < _; omega)).trans ((hb1.cell (p := ⟨w.heap.size, i, none⟩) hz).trans (HE0.out i))
    exact ⟨e 0, e 1, e 2, e 3⟩
  obtain ⟨q0, q1, q2, q3⟩ := HE1.out w1 (Below.refl _ _)
  have HBN : Hid (Below w1.heap.size w1 (w1.alloc (.cells #[.int .i64 (g.n : Int), .int .i64 g.W, .int .i64 g.B, .int .i64 g.L, .slice none 0 0, .slice none 0 0, .slice none 0 0] 238))) := below1 _ _
  have HP0 : Hid (RPre (w1.alloc (.cells #[.int .i64 (g.n : Int), .int .i64 g.W, .int .i64 g.B, .int .i64 g.L, .slice none 0 0, .slice none 0 0, .slice none 0 0] 238)) w1.heap.size g 0 ⟨none, 0, none, 0, none, 0, fun _ => 0, fun _ _ => False⟩) := RPre.start (heap_alloc_new _ _)
  clear hb1
  go_wp2_with fail
  generalize w1.alloc (.cells #[.int .i64 (g.n : Int), .int .i64 g.W, .int .i64 g.B, .int .i64 g.L, .slice none 0 0, .slice none 0 0, .slice none 0 0] 238) = Y at *
  clear q0 q1 q2 q3
  go_loopw [6] (fun c wr => ∃ k : Nat, ∃ G : RNLay, k ≤ g.n ∧ c = .int .i64 k ∧ RPre wr w1.heap.size g k G ∧ (∀ j, G.foot w1.heap.size k j → w1.heap.size ≤ j) ∧ Below w1.heap.size w1 wr) (fun c _ => g.n - (intOf c).toNat)
  case atStart =>
    refine ⟨0, _, Nat.zero_le _, rfl, HP0.out, fun j hj => ?_, HBN.out⟩
    rcases hj with rfl | ⟨_, e⟩ | ⟨_, e⟩ | ⟨_, e⟩ | ⟨p, hp, _⟩
    · exact Nat.le_refl _
    · cases e
    · cases e
    · cases e
    · omega
  case round =>
    obtain ⟨k, G, hkn, rfl, hP, hfz, hbr⟩ := hrel
    obtain ⟨q0, q1, q2, q3⟩ := HE1.out wr hbr
    have HP : Hid _ := hP
    have HFz : Hid (∀ j, G.foot w1.heap.size k j → w1.heap.size ≤ j) := hfz
    have HBr : Hid (Below w1.heap.size w1 wr) := hbr
    clear hP hfz hbr
    by_cases hlt : k < g.n
    · have hki : (k : Int) < (g.n : Int) := by omega
      have HNk : Hid _ := HNw.out wr k hlt
      go_wp2_with fail
      refine (show Calls _ _ _ _ _ from HNk.out).mono ?_
      rintro e w2 ⟨⟨b, F', rfl, hr, hF'⟩, hb2⟩
      have HR : Hid _ := hr
      have HF' : Hid (∀ j, F' j → wr.heap.size ≤ j) := hF'
      have HB2 : Hid (Below wr.heap.size wr w2) := hb2
      have hnl : w1.heap.size < wr.heap.size := HP.out.lt (Or.inl rfl)
      have c4 := (hb2.cell (p := ⟨w1.heap.size, 4, none⟩) hnl).trans HP.out.c4
      have HTy2 : Hid (∃ cur, w2.heap[w1.heap.size]? = some (.cells cur 238 (0, 0))) := by
        obtain ⟨cur, e⟩ := HP.out.ty
        exact ⟨cur, (hb2.block _ hnl).trans e⟩
      have HNo2 : Hid (w2.ownsRow 0 121 1 (.slice G.na k G.nc) k (nprow G.rb k)) := row_low HP.out.no hb2
      have HFo2 : Hid (w2.ownsRow 0 3 1 (.slice G.fa k G.fc) k (irow (refs (MNet.new g) k))) := row_low HP.out.fo hb2
      have HC6 : Hid (w2.cell? ⟨w1.heap.size, 6, none⟩ = some (.slice G.fa k G.fc)) := (hb2.cell (p := ⟨w1.heap.size, 6, none⟩) hnl).trans HP.out.c6
      have hnb4 : some w1.heap.size ≠ (Value.slice G.na k G.nc).ownBlock := fun he => by
        obtain ⟨cur, e⟩ := HTy2.out
        obtain ⟨_, e'⟩ := own_block HNo2.out (own_on HNo2.out he.symm)
        exact ty_ne e e' (by decide) rfl
      have fz4 := frozen_ty HTy2.out 4
      have hbX : w1.heap.size < w2.heap.size := lt_of_cell c4
      have hone : ∀ u ∈ ([.pointer (some ⟨b, 0, none⟩)] : List Value), u.oneCell' = true := by
        intro u hu
        simp at hu
        subst hu
        rfl
      have hone0 : ∀ u ∈ ([.int .i64 0] : List Value), u.oneCell' = true := by
        intro u hu
        simp at hu
        subst hu
        rfl
      have HO4 : Hid (∀ x : World, Below w2.heap.size w2 x → x.ownsRow 0 121 1 (.slice G.na k G.nc) k (nprow G.rb k)) := fun x hx => row_low HNo2.out hx
      clear hr hF' hb2 q0 q1 q2 q3
      go_wp2_with (at_builtin; refine wpList_append_lies _ rfl (.tmp 33) (.tmp 35) 236 rfl 0 121 i0 _ 1 8 Tryz.underlying236 hi hz0 hz1 hz2 rfl (by decide) (.slice G.na k G.nc) k (nprow G.rb k) rfl (HO4.out _ (below1 _ _)) ⟨w2.heap.size, 0, none⟩ 1 1 [.pointer (some ⟨b, 0, none⟩)] rfl rfl (World.news_of_block (heap_alloc_new w2 _)) hone (by decide) (by unfold maxLen; omega) (by omega) (Nat.zero_le _) _ rfl ?_)
      intro g' cap' v1 hown hgrow hat hlt2
      have c11 : v1.cell? ⟨w1.heap.size, 4, none⟩ = some (.slice G.na k G.nc) := (hgrow.cell_far ⟨w1.heap.size, 4, none⟩ (by simp; omega) hnb4).trans ((Below.cell (B := w2.heap.size) (w := w2) (below1 _ _) (p := ⟨w1.heap.size, 4, none⟩) hbX).trans c4)
      have f11 : v1.frozen? ⟨w1.heap.size, 4, none⟩ = false := (hgrow.frozen_far ⟨w1.heap.size, 4, none⟩ (by simp; omega) hnb4).trans ((Below.frozen (B := w2.heap.size) (w := w2) (below1 _ _) (p := ⟨w1.heap.size, 4, none⟩) hbX).trans fz4)
      have hG4 : Grw 238 w2 (v1.setCell ⟨w1.heap.size, 4, none⟩ (.slice (some ⟨g', 0, none⟩) (k + 1) cap')) w1.heap.size 4 121 1 G.na (k + 1) (nprow G.rb k ++ [.pointer (some ⟨b, 0, none⟩)]) := grw_in (t := 238) (i := 4) (u := .slice G.na k G.nc) HTy2.out (by decide) HNo2.out (below1 _ _) hgrow hat (by simp) hown c11
      have HG4 : Hid _ := hG4
      have c6 := hG4.others 6 _ (by decide) HC6.out
      have HTy3 : Hid _ := hG4.ty
      have HFo3 : Hid _ := row_alike2 HFo2.out hG4.rest (fun j hj hc => by
        obtain ⟨_, e⟩ := own_block HFo2.out hj
        rcases hc with rfl | hc
        · obtain ⟨_, e'⟩ := HTy2.out
          exact ty_ne e e' (by decide) rfl
        · obtain ⟨_, e'⟩ := own_block HNo2.out hc
          exact ty_ne e e' (by decide) rfl)
      clear hown hgrow hat hlt2 hG4 c4 fz4
      have hsz2 : (v1.setCell ⟨w1.heap.size, 4, none⟩ (.slice (some ⟨g', 0, none⟩) (k + 1) cap')).heap.size = v1.heap.size := by simp [World.setCell]
      have hnw := World.news_of_block (heap_alloc_new (v1.setCell ⟨w1.heap.size, 4, none⟩ (.slice (some ⟨g', 0, none⟩) (k + 1) cap')) (.cells #[.int .i64 0] 3))
      rw [hsz2] at hnw
      have HNw6 : Hid _ := hnw
      have HO6 : Hid (∀ x : World, Below (v1.setCell ⟨w1.heap.size, 4, none⟩ (.slice (some ⟨g', 0, none⟩) (k + 1) cap')).heap.size (v1.setCell ⟨w1.heap.size, 4, none⟩ (.slice (some ⟨g', 0, none⟩) (k + 1) cap')) x → x.ownsRow 0 3 1 (.slice G.fa k G.fc) k (irow (refs (MNet.new g) k))) := fun x hx => row_low HFo3.out hx
      have hnb6 : some w1.heap.size ≠ (Value.slice G.fa k G.fc).ownBlock := fun he => by
        obtain ⟨cur, e⟩ := HTy3.out
        obtain ⟨_, e'⟩ := own_block HFo3.out (own_on HFo3.out he.symm)
        exact ty_ne e e' (by decide) rfl
      have fz6 := frozen_ty HTy3.out 6
      have hbX3 : w1.heap.size < v1.heap.size := by
        have := lt_of_cell c6
        omega
      have HSz : Hid (w2.heap.size ≤ v1.heap.size) := by
        have := HG4.out.rest.size
        show _ ≤ _
        omega
      clear hnw
      go_wp2_with (at_builtin; refine wpList_append_lies _ rfl (.tmp 43) (.tmp 44) 34 rfl 0 3 i1 _ 1 8 Tryz.underlying34 hj hy0 hy1 hy2 rfl (by decide) (.slice G.fa k G.fc) k (irow (refs (MNet.new g) k)) rfl (HO6.out _ (below1 _ _)) ⟨v1.heap.size, 0, none⟩ 1 1 [.int .i64 0] rfl rfl HNw6.out hone0 (by decide) (by unfold maxLen; omega) (by omega) (Nat.zero_le _) _ rfl ?_)
      intro g2 cap2 v3 hown hgrow hat hlt2
      have c16 : v3.cell? ⟨w1.heap.size, 6, none⟩ = some (.slice G.fa k G.fc) := (hgrow.cell_far ⟨w1.heap.size, 6, none⟩ (by simp; omega) hnb6).trans ((Below.cell (B := (v1.setCell ⟨w1.heap.size, 4, none⟩ (.slice (some ⟨g', 0, none⟩) (k + 1) cap')).heap.size) (w := (v1.setCell ⟨w1.heap.size, 4, none⟩ (.slice (some ⟨g', 0, none⟩) (k + 1) cap'))) (below1 _ _) (p := ⟨w1.heap.size, 6, none⟩) (by show w1.heap.size < _; omega)).trans c6)
      have f16 : v3.frozen? ⟨w1.heap.size, 6, none⟩ = false := (hgrow.frozen_far ⟨w1.heap.size, 6, none⟩ (by simp; omega) hnb6).trans ((Below.frozen (B := (v1.setCell ⟨w1.heap.size, 4, none⟩ (.slice (some ⟨g', 0, none⟩) (k + 1) cap')).heap.size) (w := (v1.setCell ⟨w1.heap.size, 4, none⟩ (.slice (some ⟨g', 0, none⟩) (k + 1) cap'))) (below1 _ _) (p := ⟨w1.heap.size, 6, none⟩) (by show w1.heap.size < _; omega)).trans fz6)
      have HG6 : Hid (Grw 238 (v1.setCell ⟨w1.heap.size, 4, none⟩ (.slice (some ⟨g', 0, none⟩) (k + 1) cap')) (v3.setCell ⟨w1.heap.size, 6, none⟩ (.slice (some ⟨g2, 0, none⟩) (k + 1) cap2)) w1.heap.size 6 3 1 G.fa (k + 1) (irow (refs (MNet.new g) k) ++ [.int .i64 0])) := grw_in (t := 238) (i := 6) (u := .slice G.fa k G.fc) HTy3.out (by decide) HFo3.out (below1 _ _) hgrow hat (by simp) hown c16
      have HSt : Hid _ := HP.out.step HB2.out HR.out HF'.out HG4.out HG6.out
      have HBf : Hid (Below w1.heap.size w1 (v3.setCell ⟨w1.heap.size, 6, none⟩ (.slice (some ⟨g2, 0, none⟩) (k + 1) cap2))) := by
        have h1 := HBr.out.size
        have h2 := HB2.out.size
        have h3 := HG4.out.rest.size
        refine (HBr.out.trans (HB2.out.mono h1)).trans ((below_of_alike HG4.out.rest (fun j hj => ?_) (by omega)).trans (below_of_alike HG6.out.rest (fun j hj => ?_) (by omega)))
        · rcases hj with e | hj
          · omega
          · exact HFz.out j (Or.inr (Or.inl hj))
        · rcases hj with e | hj
          · omega
          · exact HFz.out j (Or.inr (Or.inr (Or.inr (Or.inl hj))))
      clear hown hgrow hat hlt2
      go_wp2_with fail
      go_roundw
      case rel =>
        obtain ⟨G', s1, s2⟩ := HSt.out
        refine ⟨k + 1, G', by omega, by go_num, s1, fun j hj => ?_, HBf.out⟩
        rcases s2 j hj with h1 | h1
        · exact HFz.out j h1
        · have := HBr.out.size
          omega
      case measure => simp [intOf]; omega
    · have hkn' : k = g.n := by omega
      subst hkn'
      have HD : Hid _ := HP.out.done
      have HBe : Hid (Below w.heap.size w wr) := HB1.out.trans (HBr.out.mono HB1.out.size)
      have HFe : Hid (∀ j, G.foot w1.heap.size g.n j → w.heap.size ≤ j) := fun j hj => Nat.le_trans HB1.out.size (HFz.out j hj)
      go_wp2_with fail
      go_ret2
      exact ⟨⟨_, fun j => G.foot w1.heap.size g.n j, rfl, ⟨G, HD.out, fun _ h => h⟩, HFe.out⟩, HBe.out⟩
set_option maxRecDepth 100000 in
set_option maxHeartbeats 1000000 in
theorem rnetNew_no (N W B L : Int) (w : World) (hG : okG N W B L = false) :
    Calls Tryz.prog 121 #[.agg #[.int .i64 N, .int .i64 W, .int .i64 B, .int .i64 L]] w fun e w' => e = .returned (.tuple #[.pointer none, .int .i64 1]) ∧ Below w.heap.size w w' := by
  have HCk : Hid (∀ y, Calls Tryz.prog 158 #[.agg #[.int .i64 N, .int .i64 W, .int .i64 B, .int .i64 L]] y fun e w' => e = .returned (.int .i64 1) ∧ Below y.heap.size y w') := fun y => by
    have h := refCheck_any N W B L y
    rw [hG] at h
    exact h
  clear hG
  go_enter Tryz.func121, Tryz.ntmps121
  go_wp2_with fail
  have HBX : Hid (Below w.heap.size w (w.alloc (.cells #[.int .i64 N, .int .i64 W, .int .i64 B, .int .i64 L] 26))) := below1 _ _
  generalize w.alloc (.cells #[.int .i64 N, .int .i64 W, .int .i64 B, .int .i64 L] 26) = X at *
  refine (show Calls _ _ _ _ _ from HCk.out X).mono ?_
  rintro e w1 ⟨rfl, hb1⟩
  have HB1 : Hid (Below w.heap.size w w1) := bthen HBX.out hb1
  clear hb1
  go_wp2_with fail
  go_ret2
  exact ⟨rfl, HB1.out⟩
end Go.Proofs.YtabecbjfamphbaaGreatDoor

/- A net into which anything may come, as plain data. -/
namespace Go.Proofs.YtabecbjfamphbaaGreatDoor
open Go.RowKit Go.Stop Go.Extern

/-- A packet that is a frame of the group. -/
def PkOk (g : Gr) (t : Pk) : Prop := (∃ q : Nat, t.to = q ∧ q < g.n) ∧ t.text.size ≤ 100 ∧ rAll g.n g.W g.B g.L t.text = none
theorem pkOk_enc {g : Gr} (hg : g.Ok) {y : Nat × Msg} (h1 : y.1 < g.n) (h2 : y.2.Ok g) : PkOk g (encP g y) := by
  obtain ⟨r1, r2, _⟩ := text_read hg h2
  exact ⟨⟨y.1, rfl, h1⟩, r2, r1⟩
theorem pass_ok {g : Gr} (hg : g.Ok) {p : Nat} (hp : p < g.n) {f : Fm} (hf : f.Ok g) (fr : Nat) : ∀ t ∈ (passM g p f fr).map (encP g), PkOk g t := fun t ht => by
  obtain ⟨y, hy, rfl⟩ := List.mem_map.1 ht
  obtain ⟨e1, e2, _⟩ := mem_passM hy
  exact pkOk_enc hg e2 (by rw [e1]; exact ⟨hp, hf⟩)
theorem tick_ok {g : Gr} (hg : g.Ok) {p : Nat} (hp : p < g.n) {s : NS} (hs : s.Ok g p) : ∀ t ∈ s.tick g p, PkOk g t := fun t ht => by
  rw [tick_enc] at ht
  obtain ⟨y, hy, rfl⟩ := List.mem_map.1 ht
  unfold tickM at hy
  obtain ⟨q, hq, hy⟩ := List.mem_flatMap.1 hy
  have hqn := List.mem_range.1 hq
  split at hy
  · cases hy
  · rcases List.mem_append.1 hy with h1 | h1
    · obtain ⟨f, hf, rfl⟩ := List.mem_map.1 h1
      exact pkOk_enc hg hqn ⟨hp, hs.st f (List.mem_filter.1 hf).1⟩
    · rw [List.mem_singleton] at h1
      subst h1
      exact pkOk_enc hg hqn ⟨hp, hs.clk.shp.elen p hp, fun o ho => hs.clk.bd p o hp ho⟩
/-- What comes of a text that is heard. -/
structure HearOk (g : Gr) (p : Nat) (s : NS) (t : ByteArray) (r : HR) : Prop where
  ok : r.s.Ok g p
  five : r.k = 5 ↔ rAll g.n g.W g.B g.L t ≠ none
  range : r.k = 0 ∨ (5 ≤ r.k ∧ r.k ≤ 8)
  not : r.k ≠ 0 → r.s = s ∧ r.ps = []
  ps : ∀ t ∈ r.ps, PkOk g t
  few : r.ps.length ≤ g.n
theorem hear_ok {g : Gr} (hg : g.Ok) {p : Nat} (hp : p < g.n) {s : NS} (hs : s.Ok g p) (t : ByteArray) : HearOk g p s t (s.hear g p t) := by
  have h0 := hs.hear hp t
  have hnot : ∀ {k : Nat}, k ≠ 5 → ¬ (k = 5) := fun h => h
  refine ⟨h0, ?_, ?_, ?_, ?_, ?_⟩ <;> unfold NS.hear <;> cases e : rAll g.n g.W g.B g.L t with
  | some v => simp
  | none =>
    simp only
    have hK : s.newK g p (dataOf g.n t) = 0 ∨ s.newK g p (dataOf g.n t) = 7 ∨ s.newK g p (dataOf g.n t) = 8 := by
      unfold NS.newK
      split
      · simp
      · split
        · simp
        · split <;> simp
    have hps : byt t 2 = 1 → (∀ u ∈ passL (textM g p (dataOf g.n t)) p (byt t 5) (byt t 4) g.n, PkOk g u) ∧ (passL (textM g p (dataOf g.n t)) p (byt t 5) (byt t 4) g.n).length ≤ g.n := fun h2 => by
      obtain ⟨h5, h6⟩ := data_ok e h2
      have he := passL_enc g p (dataOf g.n t) (byt t 4)
      rw [show (dataOf g.n t).org = ((byt t 5 : Nat) : Int) from rfl] at he
      rw [he]
      exact ⟨pass_ok hg hp h5 _, by rw [List.length_map]; exact passM_length⟩
    generalize s.newK g p (dataOf g.n t) = K at *
    by_cases h4 : byt t 4 = p
    · simp [h4]
    · by_cases h2 : byt t 2 = 1
      · have hps2 := hps h2
        by_cases h5 : byt t 5 = p
        · simp [h4, h2, h5]
        · by_cases hk0 : K = 0
          · simp [h4, h2, h5, hk0]
            try exact hps2.1
            try exact hps2.2
          · simp only [if_neg h4, if_pos h2, if_neg h5, if_neg hk0]
            first | (simp; done) | omega | (simp; omega)
      · simp [h4, h2]
end Go.Proofs.YtabecbjfamphbaaGreatDoor

/- The law's world: its nodes and nets, the program's and the document's. -/
namespace Go.Proofs.YtabecbjfamphbaaGreatDoor
open Go.RowKit Go.Stop Go.Extern

/-- A node of the program beside the document's. -/
structure Kn where
  fb : Nat
  rb : Nat
  g : Gr
  p : Nat
  s : NS
def Kn.cells (k : Kn) : List Value := [.pointer (some ⟨k.fb, 0, none⟩), .pointer (some ⟨k.rb, 0, none⟩)]
def knrow (ks : List Kn) : List Value := ks.flatMap Kn.cells
theorem knrow_get : ∀ (ks : List Kn) (i : Nat) (k : Kn), ks[i]? = some k → (knrow ks)[i * 2]? = some (.pointer (some ⟨k.fb, 0, none⟩)) ∧ (knrow ks)[i * 2 + 1]? = some (.pointer (some ⟨k.rb, 0, none⟩))
  | [], i, k, h => by simp at h
  | a :: ks, 0, k, h => by
    simp at h
    subst h
    simp [knrow, Kn.cells]
  | a :: ks, i + 1, k, h => by
    have h' := knrow_get ks i k (by simpa using h)
    have e : knrow (a :: ks) = .pointer (some ⟨a.fb, 0, none⟩) :: .pointer (some ⟨a.rb, 0, none⟩) :: knrow ks := by simp [knrow, Kn.cells]
    rw [e, show (i + 1) * 2 + 1 = (i * 2 + 1) + 1 + 1 by omega, show (i + 1) * 2 = (i * 2) + 1 + 1 by omega]
    simpa using h'
structure KnotAt (w : World) (k : Kn) (m : Nat) (F : Nat → Prop) : Prop where
  g : k.g.Ok
  p : k.p < k.g.n
  s : k.s.Ok k.g k.p
  how : ∃ b F1 F2, w.cell? ⟨k.fb, 0, none⟩ = some (.pointer (some ⟨b, 0, none⟩)) ∧ NodeAt w b k.g k.p k.s F1 ∧ RefAt w k.rb k.g k.p k.s m F2 ∧ (∀ j, F1 j → ¬ F2 j ∧ j ≠ k.fb) ∧ (∀ j, F2 j → j ≠ k.fb) ∧ ∀ j, F j ↔ (j = k.fb ∨ F1 j ∨ F2 j)
  ty : ∀ j, F j → j = k.fb ∨ ∃ cur t, w.heap[j]? = some (.cells cur t (0, 0)) ∧ t ≠ 109
section
variable {w w' : World} {k : Kn} {m : Nat} {F E : Nat → Prop}
theorem KnotAt.lt (h : KnotAt w k m F) {j : Nat} (hj : F j) : j < w.heap.size := by
  rcases h.ty j hj with rfl | ⟨_, _, e, _⟩
  · obtain ⟨_, _, _, hc, _⟩ := h.how
    exact lt_of_cell hc
  · exact lt_of_some e
theorem KnotAt.alike (h : KnotAt w k m F) (ha : Alike w w' E) (hE : ∀ j, F j → ¬ E j) : KnotAt w' k m F := by
  obtain ⟨b, F1, F2, h1, h2, h3, h4, h5, h6⟩ := h.how
  refine ⟨h.g, h.p, h.s, ⟨b, F1, F2, ha.cell h1 (hE _ ((h6 _).2 (Or.inl rfl))), h2.alike ha (fun j hj => hE j ((h6 j).2 (Or.inr (Or.inl hj)))), h3.alike ha (fun j hj => hE j ((h6 j).2 (Or.inr (Or.inr hj)))), h4, h5, h6⟩, fun j hj => ?_⟩
  rcases h.ty j hj with e | ⟨cur, t, e, ht⟩
  · exact Or.inl e
  · exact Or.inr ⟨cur, t, (ha.block j (lt_of_some e) (hE j hj)).trans e, ht⟩
theorem KnotAt.more {m' : Nat} (h : KnotAt w k m F) (hm : m ≤ m') : KnotAt w k m' F := by
  obtain ⟨b, F1, F2, h1, h2, h3, h4⟩ := h.how
  exact ⟨h.g, h.p, h.s, ⟨b, F1, F2, h1, h2, h3.more hm, h4⟩, h.ty⟩
end
/-- The blocks R are what they were, and so is all outside memory. -/
structure Kp2 (R : Nat → Prop) (w w' : World) : Prop where
  blk : ∀ j, R j → w'.heap[j]? = w.heap[j]?
  size : w.heap.size ≤ w'.heap.size
  same : w'.os = w.os ∧ w'.tape = w.tape ∧ w'.output = w.output
theorem Kp2.trans {R : Nat → Prop} {w w1 w2 : World} (h : Kp2 R w w1) (h' : Kp2 R w1 w2) : Kp2 R w w2 := ⟨fun j hj => (h'.blk j hj).trans (h.blk j hj), Nat.le_trans h.size h'.size, h'.same.1.trans h.same.1, h'.same.2.1.trans h.same.2.1, h'.same.2.2.trans h.same.2.2⟩
theorem Kp2.of {R E : Nat → Prop} {w w' : World} (ha : Alike w w' E) (h : ∀ j, R j → j < w.heap.size ∧ ¬ E j) : Kp2 R w w' := ⟨fun j hj => ha.block j (h j hj).1 (h j hj).2, ha.size, ha.same⟩
theorem Kp2.below {R : Nat → Prop} {w w' : World} {z : Nat} (h : Kp2 R w w') (hR : ∀ j, j < z → R j) : Below z w w' := ⟨h.same.1, h.same.2.1, h.same.2.2, h.size, fun k hk => h.blk k (hR k hk)⟩
/-- The rows of nodes and of nets are what they were. -/
def KnS (wb : Nat) (w w' : World) : Prop := ∀ i, i = 3 ∨ i = 4 → ∀ ad n cap, w.cell? ⟨wb, i, none⟩ = some (.slice ad n cap) → w'.cell? ⟨wb, i, none⟩ = some (.slice ad n cap) ∧ ∀ j, onB ad j → w'.heap[j]? = w.heap[j]?
structure Kp3 (R : Nat → Prop) (wb : Nat) (w w' : World) : Prop where
  kp : Kp2 R w w'
  kn : KnS wb w w'
theorem Kp3.trans {R : Nat → Prop} {wb : Nat} {w w1 w2 : World} (h : Kp3 R wb w w1) (h' : Kp3 R wb w1 w2) : Kp3 R wb w w2 := ⟨h.kp.trans h'.kp, fun i hi ad n cap hc => by
  obtain ⟨a1, a2⟩ := h.kn i hi ad n cap hc
  obtain ⟨b1, b2⟩ := h'.kn i hi ad n cap a1
  exact ⟨b1, fun j hj => (b2 j hj).trans (a2 j hj)⟩⟩
theorem Kp3.less {R R' : Nat → Prop} {wb : Nat} {w w' : World} (h : Kp3 R wb w w') (hR : ∀ j, R' j → R j) : Kp3 R' wb w w' := ⟨⟨fun j hj => h.kp.blk j (hR j hj), h.kp.size, h.kp.same⟩, h.kn⟩
theorem BkAt.knS {w w' : World} {wb t u nk nn : Nat} {kr nr : List Value} {O E : Nat → Prop} (h : BkAt w wb t u kr nr nk nn O) (hc : ∀ i, i = 3 ∨ i = 4 → ∀ v, w.cell? ⟨wb, i, none⟩ = some v → w'.cell? ⟨wb, i, none⟩ = some v) (ha : Alike w w' E) (hE : ∀ (e : TypeId), e = 123 ∨ e = 128 → ∀ j cur, w.heap[j]? = some (.cells cur e (0, 0)) → O j → ¬ E j) : KnS wb w w' := fun i hi ad n cap he => by
  rcases hi with rfl | rfl
  · obtain ⟨ad0, cap0, h1, h2, h3⟩ := h.kn
    rw [h1] at he
    cases he
    refine ⟨hc 3 (Or.inl rfl) _ h1, fun j hj => ?_⟩
    obtain ⟨cur, e⟩ := own_block h2 hj
    exact ha.block j (lt_of_some e) (hE _ (Or.inl rfl) j cur e (h3 j hj))
  · obtain ⟨ad0, cap0, h1, h2, h3⟩ := h.nt
    rw [h1] at he
    cases he
    refine ⟨hc 4 (Or.inr rfl) _ h1, fun j hj => ?_⟩
    obtain ⟨cur, e⟩ := own_block h2 hj
    exact ha.block j (lt_of_some e) (hE _ (Or.inr rfl) j cur e (h3 j hj))
/-- A net came behind the others. -/
theorem BkAt.webs {w w' : World} {wb t u nk nn nn' : Nat} {kr nr nr' : List Value} {O : Nat → Prop} (h : BkAt w wb t u kr nr nk nn O) {ka : Option Addr} {kc : Nat} (hown : w.ownsRow 0 128 2 (.slice ka nn kc) nn nr) (hka : ∀ k, onB ka k → O k) (hg : Grw 79 w w' wb 4 128 2 ka nn' nr') :
    BkAt w' wb t u kr nr' nk nn' (fun k => k < w'.heap.size ∧ (O k ∨ w.heap.size ≤ k)) := by
  obtain ⟨⟨ad', cap', hcell, hown', hnew⟩, hrest, hoth, hty⟩ := hg
  obtain ⟨curw, htw⟩ := h.ty
  have hsize := hrest.size
  have hOO : ∀ k, O k → k < w'.heap.size ∧ (O k ∨ w.heap.size ≤ k) := fun k hk => ⟨Nat.lt_of_lt_of_le (h.lt k hk) hsize, Or.inl hk⟩
  have hapart : ∀ (e : TypeId), e ≠ 128 → e ≠ 79 → ∀ k cur, w.heap[k]? = some (.cells cur e (0, 0)) → O k → ¬ (k = wb ∨ onB ka k) := fun e h1 h2 k cur hh ho hor => by
    rcases hor with rfl | hk
    · exact ty_ne hh htw h2 rfl
    · obtain ⟨_, hh'⟩ := own_block hown hk
      exact ty_ne hh hh' h1 rfl
  refine ⟨hty, fun c hc => ?_, h.kn.move (fun v => hoth 3 v (by omega)) hrest (hapart _ (by decide) (by decide)) hOO, ⟨ad', cap', hcell, hown', fun k hk => ?_⟩, ?_, hOO wb h.self, fun k hk => hk.1⟩
  · obtain ⟨ln, xs, h1, h2, h3, h4⟩ := h.sh c hc
    exact ⟨ln, xs, h1, h2, h3.move (fun v => hoth c v (by omega)) hrest (hapart _ (lty_else c hc).2.2.1 (lty_else c hc).1) hOO, h4.move hrest (hapart _ (ety_else c hc).2.2.1 (ety_else c hc).1) hOO⟩
  · obtain ⟨cur, e⟩ := own_block hown' hk
    refine ⟨lt_of_some e, ?_⟩
    rcases hnew k hk with h1 | h1
    · exact Or.inl (hka k h1)
    · exact Or.inr h1
  · obtain ⟨ts, h1, h2⟩ := h.tx
    exact ⟨ts, h1.move (fun v => hoth 5 v (by omega)) hrest (hapart _ (by decide) (by decide)) hOO, h2⟩
/-- A net of the program beside the document's. -/
structure Wb where
  fb : Nat
  nb : Nat
  g : Gr
  x : MNet
def Wb.cells (k : Wb) : List Value := [.pointer (some ⟨k.fb, 0, none⟩), .pointer (some ⟨k.nb, 0, none⟩)]
def wbrow (ks : List Wb) : List Value := ks.flatMap Wb.cells
theorem wbrow_append (a b : List Wb) : wbrow (a ++ b) = wbrow a ++ wbrow b := by simp [wbrow]
theorem wbrow_get : ∀ (ks : List Wb) (i : Nat) (k : Wb), ks[i]? = some k → (wbrow ks)[i * 2]? = some (.pointer (some ⟨k.fb, 0, none⟩)) ∧ (wbrow ks)[i * 2 + 1]? = some (.pointer (some ⟨k.nb, 0, none⟩))
  | [], i, k, h => by simp at h
  | a :: ks, 0, k, h => by
    simp at h
    subst h
    simp [wbrow, Wb.cells]
  | a :: ks, i + 1, k, h => by
    have h' := wbrow_get ks i k (by simpa using h)
    have e : wbrow (a :: ks) = .pointer (some ⟨a.fb, 0, none⟩) :: .pointer (some ⟨a.nb, 0, none⟩) :: wbrow ks := by simp [wbrow, Wb.cells]
    rw [e, show (i + 1) * 2 + 1 = (i * 2 + 1) + 1 + 1 by omega, show (i + 1) * 2 = (i * 2) + 1 + 1 by omega]
    simpa using h'
theorem wbrow_set : ∀ (ks : List Wb) (i : Nat) (k k' : Wb), ks[i]? = some k → k'.fb = k.fb → k'.nb = k.nb → wbrow (ks.set i k') = wbrow ks
  | [], i, k, k', h, _, _ => by simp at h
  | a :: ks, 0, k, k', h, h1, h2 => by
    simp at h
    subst h
    simp [wbrow, Wb.cells, h1, h2]
  | a :: ks, i + 1, k, k', h, h1, h2 => by
    have h' := wbrow_set ks i k k' (by simpa using h) h1 h2
    have e : ∀ l, wbrow (a :: l) = .pointer (some ⟨a.fb, 0, none⟩) :: .pointer (some ⟨a.nb, 0, none⟩) :: wbrow l := fun l => by simp [wbrow, Wb.cells]
    rw [List.set_cons_succ, e, e, h']
/-- A net behind m steps, whatever was sent into it. -/
structure WOk (g : Gr) (x : MNet) (m : Nat) : Prop where
  nd : ∀ p, p < g.n → (x.nd p).Ok g p
  bag : ∀ t ∈ x.bag, (∃ q : Nat, t.to = q ∧ q < g.n) ∧ t.text.size ≤ 100
  ref : ∀ p, p < g.n → 0 ≤ x.ref p ∧ x.ref p ≤ (m : Int)
  few : x.bag.length ≤ 520 * m
theorem WOk.ok {g : Gr} {x : MNet} {m : Nat} (h : WOk g x m) (hm : m ≤ 10000000) : x.Ok g :=
  ⟨h.nd, h.bag, fun p hp => ⟨(h.ref p hp).1, by have := (h.ref p hp).2; omega⟩, by have := h.few; omega⟩
theorem WOk.more {g : Gr} {x : MNet} {m m' : Nat} (h : WOk g x m) (hm : m ≤ m') : WOk g x m' := ⟨h.nd, h.bag, fun p hp => ⟨(h.ref p hp).1, by have := (h.ref p hp).2; omega⟩, by have := h.few; omega⟩
structure WebAt (w : World) (k : Wb) (m : Nat) (F : Nat → Prop) : Prop where
  g : k.g.Ok
  x : WOk k.g k.x m
  how : ∃ F1 F2, NetAt w k.fb k.g k.x F1 ∧ RNetAt w k.nb k.g k.x m F2 ∧ (∀ j, F1 j → ¬ F2 j) ∧ ∀ j, F j ↔ F1 j ∨ F2 j
  lt : ∀ j, F j → j < w.heap.size
theorem WebAt.alike {w w' : World} {k : Wb} {m : Nat} {F E : Nat → Prop} (h : WebAt w k m F) (ha : Alike w w' E) (hE : ∀ j, F j → ¬ E j) : WebAt w' k m F := by
  obtain ⟨F1, F2, h1, h2, h3, h4⟩ := h.how
  exact ⟨h.g, h.x, ⟨F1, F2, h1.alike ha (fun j hj => hE j ((h4 j).2 (Or.inl hj))), h2.alike ha (fun j hj => hE j ((h4 j).2 (Or.inr hj))), h3, h4⟩, fun j hj => Nat.lt_of_lt_of_le (h.lt j hj) ha.size⟩
theorem WebAt.more {w : World} {k : Wb} {m m' : Nat} {F : Nat → Prop} (h : WebAt w k m F) (hm : m ≤ m') : WebAt w k m' F := by
  obtain ⟨F1, F2, h1, h2, h3, h4⟩ := h.how
  exact ⟨h.g, h.x.more hm, ⟨F1, F2, h1, h2.more hm, h3, h4⟩, h.lt⟩
/-- Both nets, by blocks of their own. -/
theorem webAt_of {w : World} {k : Wb} {m : Nat} {F1 F2 : Nat → Prop} (hg : k.g.Ok) (hx : WOk k.g k.x m) (h1 : NetAt w k.fb k.g k.x F1) (h2 : RNetAt w k.nb k.g k.x m F2) (h3 : ∀ j, F1 j → ¬ F2 j) : ∃ F', WebAt w k m F' ∧ ∀ j, F' j → F1 j ∨ F2 j := by
  obtain ⟨F0, t1, t2⟩ := h2.tight
  refine ⟨fun j => F1 j ∨ F0 j, ⟨hg, hx, ⟨F1, F0, h1, t2, fun j hj hc => h3 j hj (t1 j hc).1, fun _ => Iff.rfl⟩, fun j hj => ?_⟩, fun j hj => ?_⟩
  · rcases hj with h | h
    · exact h1.lt h
    · exact (t1 j h).2
  · rcases hj with h | h
    · exact Or.inl h
    · exact Or.inr (t1 j h).1
/-- Which nodes and nets there are. -/
def Liv (ks : List Kn) (ns : List Wb) : Bool × Nat → Prop
  | (false, i) => i < ks.length
  | (true, i) => i < ns.length
theorem liv_set_n (ks : List Kn) (ns : List Wb) (i : Nat) (k : Wb) (ι : Bool × Nat) : Liv ks (ns.set i k) ι ↔ Liv ks ns ι := by
  obtain ⟨b, j⟩ := ι
  cases b <;> simp [Liv]
/-- All nodes and nets in memory. -/
structure Thg (w : World) (m : Nat) (ks : List Kn) (ns : List Wb) (F : Bool × Nat → Nat → Prop) : Prop where
  kn : ∀ i k, ks[i]? = some k → KnotAt w k m (F (false, i))
  nt : ∀ i k, ns[i]? = some k → WebAt w k m (F (true, i))
theorem Thg.alike {w w' : World} {m : Nat} {ks : List Kn} {ns : List Wb} {F : Bool × Nat → Nat → Prop} {E : Nat → Prop} (h : Thg w m ks ns F) (ha : Alike w w' E) (hE : ∀ ι, Liv ks ns ι → ∀ j, F ι j → ¬ E j) : Thg w' m ks ns F :=
  ⟨fun i k hi => (h.kn i k hi).alike ha (hE (false, i) (List.getElem?_eq_some_iff.1 hi).1), fun i k hi => (h.nt i k hi).alike ha (hE (true, i) (List.getElem?_eq_some_iff.1 hi).1)⟩
theorem Thg.more {w : World} {m m' : Nat} {ks : List Kn} {ns : List Wb} {F : Bool × Nat → Nat → Prop} (h : Thg w m ks ns F) (hm : m ≤ m') : Thg w m' ks ns F := ⟨fun i k hi => (h.kn i k hi).more hm, fun i k hi => (h.nt i k hi).more hm⟩
theorem Thg.lt {w : World} {m : Nat} {ks : List Kn} {ns : List Wb} {F : Bool × Nat → Nat → Prop} (h : Thg w m ks ns F) {ι : Bool × Nat} (hi : Liv ks ns ι) {j : Nat} (hj : F ι j) : j < w.heap.size := by
  obtain ⟨b, i⟩ := ι
  cases b
  · exact (h.kn i _ (List.getElem?_eq_getElem (h := hi))).lt hj
  · exact (h.nt i _ (List.getElem?_eq_getElem (h := hi))).lt j hj
/-- The law's world whole; the blocks R are none of its own. -/
structure LW (A : Nat → Addr) (base : Nat) (R : Nat → Prop) (w : World) (wb t u m : Nat) (ks : List Kn) (ns : List Wb) (O : Nat → Prop) (F : Bool × Nat → Nat → Prop) : Prop where
  sl : Sl w A base
  bk : BkAt w wb t u (knrow ks) (wbrow ns) ks.length ns.length O
  few : ks.length ≤ m ∧ ns.length ≤ m
  th : Thg w m ks ns F
  off : ∀ ι, Liv ks ns ι → ∀ j, F ι j → ¬ O j
  dis : ∀ ι ι', Liv ks ns ι → Liv ks ns ι' → ι ≠ ι' → ∀ j, F ι j → ¬ F ι' j
  rb : ∀ j, j < base → R j
  rl : ∀ j, R j → j < w.heap.size
  ro : ∀ j, O j → ¬ R j
  rf : ∀ ι, Liv ks ns ι → ∀ j, F ι j → ¬ R j
section
variable {A : Nat → Addr} {base : Nat} {R : Nat → Prop} {w w' : World} {wb t u m : Nat} {ks : List Kn} {ns : List Wb} {O : Nat → Prop} {F : Bool × Nat → Nat → Prop}
theorem LW.kn (h : LW A base R w wb t u m ks ns O F) (i : Nat) (k : Kn) (hi : ks[i]? = some k) : KnotAt w k m (F (false, i)) := h.th.kn i k hi
theorem LW.nt (h : LW A base R w wb t u m ks ns O F) (i : Nat) (k : Wb) (hi : ns[i]? = some k) : WebAt w k m (F (true, i)) := h.th.nt i k hi
theorem LW.lt (h : LW A base R w wb t u m ks ns O F) {ι : Bool × Nat} (hi : Liv ks ns ι) {j : Nat} (hj : F ι j) : j < w.heap.size := h.th.lt hi hj
theorem LW.ge (h : LW A base R w wb t u m ks ns O F) {j : Nat} (hj : ¬ R j) : base ≤ j := Nat.le_of_not_lt fun hc => hj (h.rb j hc)
theorem LW.bf (h : LW A base R w wb t u m ks ns O F) (ι : Bool × Nat) (hi : Liv ks ns ι) (j : Nat) (hj : F ι j) : base ≤ j := h.ge (h.rf ι hi j hj)
theorem LW.le (h : LW A base R w wb t u m ks ns O F) : base ≤ w.heap.size := by
  have h1 := h.ge (h.ro wb h.bk.self)
  have h2 := h.bk.lt wb h.bk.self
  omega
theorem LW.low (h : LW A base R w wb t u m ks ns O F) (hb : Below w.heap.size w w') : LW A base R w' wb t u m ks ns O F := ⟨h.sl.low hb, h.bk.low hb, h.few, h.th.alike (Alike.of_below hb (fun _ => False)) (fun _ _ _ _ h => h), h.off, h.dis, h.rb, fun j hj => Nat.lt_of_lt_of_le (h.rl j hj) hb.size, h.ro, h.rf⟩
theorem LW.same (h : LW A base R w wb t u m ks ns O F) (hb : Below w.heap.size w w') : Kp3 R wb w w' := ⟨Kp2.of (Alike.of_below hb (fun _ => False)) (fun j hj => ⟨h.rl j hj, fun h => h⟩), h.bk.knS (fun i _ _ hv => (hb.cell (p := ⟨wb, i, none⟩) (lt_of_cell hv)).trans hv) (Alike.of_below hb (fun _ => False)) (fun _ _ _ _ _ _ h => h)⟩
theorem LW.more {t' u' m' : Nat} (h : LW A base R w wb t u m ks ns O F) (ht : t ≤ t') (hu : u ≤ u') (hm : m ≤ m') : LW A base R w wb t' u' m' ks ns O F := ⟨h.sl, h.bk.more ht hu, ⟨Nat.le_trans h.few.1 hm, Nat.le_trans h.few.2 hm⟩, h.th.more hm, h.off, h.dis, h.rb, h.rl, h.ro, h.rf⟩
/-- A world of the law that has nothing yet. -/
theorem LW.start (hw : Sl w A base) (hc : w.heap[wb]? = some (.cells #[.slice none 0 0, .slice none 0 0, .slice none 0 0, .slice none 0 0, .slice none 0 0, .slice none 0 0] 79 (0, 0))) (rb : ∀ j, j < base → R j) (rl : ∀ j, R j → j < w.heap.size) (hR : ¬ R wb) : LW A base R w wb 0 0 0 [] [] (fun j => j = wb) (fun _ _ => False) := by
  have e : ∀ i, w.cell? ⟨wb, i, none⟩ = #[Value.slice none 0 0, .slice none 0 0, .slice none 0 0, .slice none 0 0, .slice none 0 0, .slice none 0 0][i]? := fun i => cell_of_row w wb i _ _ (0, 0) hc
  have hno : ∀ (O : Nat → Prop) k, onB none k → O k := fun O k ⟨_, h⟩ => by cases h
  refine ⟨hw, ⟨⟨_, hc⟩, fun c hc3 => ⟨0, [], by omega, rfl, ⟨none, 0, ?_, World.ownsRow_nil _ _ _ _, hno _⟩, fun i v hv => by simp at hv⟩, ⟨none, 0, e 3, World.ownsRow_nil _ _ _ _, hno _⟩, ⟨none, 0, e 4, World.ownsRow_nil _ _ _ _, hno _⟩, ⟨[], ⟨none, 0, e 5, World.ownsRow_nil _ _ _ _, hno _⟩, by simp, fun x hx => by cases hx⟩, rfl, fun k hk => by rw [hk]; exact lt_of_some hc⟩, ⟨by simp, by simp⟩, ⟨fun i k hk => by simp at hk, fun i k hk => by simp at hk⟩, fun _ _ _ h => h.elim, fun _ _ _ _ _ _ h => h.elim, rb, rl, fun j hj => by rw [hj]; exact hR, fun _ _ _ h => h.elim⟩
  have h3 : c = 0 ∨ c = 1 ∨ c = 2 := by omega
  rcases h3 with rfl | rfl | rfl
  · exact e 0
  · exact e 1
  · exact e 2
/-- More blocks of others. -/
theorem LW.wider {R' : Nat → Prop} (h : LW A base R w wb t u m ks ns O F) (hb : Below w.heap.size w w') (hR : ∀ j, R j → R' j) (hR' : ∀ j, R' j → R j ∨ (w.heap.size ≤ j ∧ j < w'.heap.size)) : LW A base R' w' wb t u m ks ns O F := by
  have h' := h.low hb
  refine ⟨h'.sl, h'.bk, h'.few, h'.th, h'.off, h'.dis, fun j hj => hR j (h.rb j hj), fun j hj => ?_, fun j hj hc => ?_, fun i hi j hj hc => ?_⟩
  · rcases hR' j hj with h1 | h1
    · exact h'.rl j h1
    · exact h1.2
  · rcases hR' j hc with h1 | h1
    · exact h.ro j hj h1
    · have := h.bk.lt j hj
      omega
  · rcases hR' j hc with h1 | h1
    · exact h.rf i hi j hj h1
    · have := h.lt hi hj
      omega
theorem LW.less {R' : Nat → Prop} (h : LW A base R w wb t u m ks ns O F) (hR : ∀ j, R' j → R j) (rb : ∀ j, j < base → R' j) : LW A base R' w wb t u m ks ns O F := ⟨h.sl, h.bk, h.few, h.th, h.off, h.dis, rb, fun j hj => h.rl j (hR j hj), fun j hj hc => h.ro j hj (hR j hc), fun i hi j hj hc => h.rf i hi j hj (hR j hc)⟩
/-- One node or net did something. -/
theorem LW.moved0 (h : LW A base R w wb t u m ks ns O F) {ι0 : Bool × Nat} (hι : Liv ks ns ι0) (ha : Alike w w' (F ι0)) {F' : Nat → Prop} (hF : ∀ j, F' j → F ι0 j ∨ w.heap.size ≤ j) {ks' : List Kn} {ns' : List Wb} (hlv : ∀ ι, Liv ks' ns' ι ↔ Liv ks ns ι) (hkr : knrow ks' = knrow ks ∧ ks'.length = ks.length) (hnr : wbrow ns' = wbrow ns ∧ ns'.length = ns.length) (th : Thg w' (m + 1) ks' ns' (fun ι => if ι = ι0 then F' else F ι)) : LW A base R w' wb t u (m + 1) ks' ns' O (fun ι => if ι = ι0 then F' else F ι) ∧ Kp3 R wb w w' := by
  have hle := h.le
  have hFn : ∀ ι j, (if ι = ι0 then F' else F ι) j → F ι j ∨ w.heap.size ≤ j := fun ι j hj => by
    split at hj
    · next e => subst e; exact hF j hj
    · exact Or.inl hj
  have hfew := h.few
  refine ⟨⟨h.sl.alike ha (fun j hj hc => by have := h.bf ι0 hι j hc; omega), ?_, ⟨by omega, by omega⟩, th, fun ι hi j hj hc => ?_, fun ι ι' h1 h2 hne j hj hc => ?_, h.rb, fun j hj => Nat.lt_of_lt_of_le (h.rl j hj) ha.size, h.ro, fun ι hi j hj hc => ?_⟩, ⟨Kp2.of ha (fun j hj => ⟨h.rl j hj, fun hc => h.rf ι0 hι j hc hj⟩), h.bk.knS (fun _ _ _ hv => ha.cell hv (fun hc => h.off ι0 hι wb hc h.bk.self)) ha (fun _ _ j _ _ hj hc => h.off ι0 hι j hc hj)⟩⟩
  · rw [hkr.1, hkr.2, hnr.1, hnr.2]
    exact h.bk.alike ha (fun j hj hc => h.off ι0 hι j hc hj)
  · have hi' := (hlv ι).1 hi
    rcases hFn ι j hj with h1 | h1
    · exact h.off ι hi' j h1 hc
    · have := h.bk.lt j hc
      omega
  · have h1' := (hlv ι).1 h1
    have h2' := (hlv ι').1 h2
    by_cases e1 : ι = ι0
    · have e2 : ι' ≠ ι0 := fun e => hne (e1.trans e.symm)
      rw [if_neg e2] at hc
      rcases hFn ι j hj with h3 | h3
      · exact h.dis ι ι' h1' h2' hne j h3 hc
      · have := h.lt h2' hc
        omega
    · rw [if_neg e1] at hj
      rcases hFn ι' j hc with h3 | h3
      · exact h.dis ι ι' h1' h2' hne j hj h3
      · have := h.lt h1' hj
        omega
  · have hi' := (hlv ι).1 hi
    rcases hFn ι j hj with h1 | h1
    · exact h.rf ι hi' j h1 hc
    · have := h.rl j hc
      omega
theorem LW.movedN (h : LW A base R w wb t u m ks ns O F) {i : Nat} {k k' : Wb} (hi : ns[i]? = some k) (hfb : k'.fb = k.fb) (hrb : k'.nb = k.nb) (ha : Alike w w' (F (true, i))) {F' : Nat → Prop} (hk : WebAt w' k' (m + 1) F') (hF : ∀ j, F' j → F (true, i) j ∨ w.heap.size ≤ j) : LW A base R w' wb t u (m + 1) ks (ns.set i k') O (fun ι => if ι = (true, i) then F' else F ι) ∧ Kp3 R wb w w' := by
  have hil : i < ns.length := (List.getElem?_eq_some_iff.1 hi).1
  refine h.moved0 (ι0 := (true, i)) hil ha hF (liv_set_n ks ns i k') ⟨rfl, rfl⟩ ⟨wbrow_set ns i k k' hi hfb hrb, List.length_set⟩ ⟨fun i' k'' hk'' => ?_, fun i' k'' hk'' => ?_⟩
  · have ne : ((false, i') : Bool × Nat) ≠ (true, i) := fun h => by cases (Prod.mk.inj h).1
    rw [if_neg ne]
    have hil' : i' < ks.length := (List.getElem?_eq_some_iff.1 hk'').1
    exact ((h.kn i' k'' hk'').alike ha (fun j hj hc => h.dis (false, i') (true, i) hil' hil ne j hj hc)).more (by omega)
  · by_cases e : i' = i
    · subst e
      rw [List.getElem?_set_self hil] at hk''
      cases hk''
      simpa using hk
    · rw [List.getElem?_set_ne (fun h => e h.symm)] at hk''
      have ne : ((true, i') : Bool × Nat) ≠ (true, i) := fun h => e (Prod.mk.inj h).2
      rw [if_neg ne]
      have hil' : i' < ns.length := (List.getElem?_eq_some_iff.1 hk'').1
      exact ((h.nt i' k'' hk'').alike ha (fun j hj hc => h.dis (true, i') (true, i) hil' hil ne j hj hc)).more (by omega)
/-- A list came onto a shelf. -/
theorem LW.kept (h : LW A base R w wb t u m ks ns O F) {c : Nat} (hc3 : c < 3) {ad : Option Addr} {ln cap : Nat} {xs : List Value} {ao : Option Addr} {n cp : Nat} (hln : ln ≤ 4 * t) (h4 : ln % 4 = 0) (hn : n ≤ 1000000) (hown : w.ownsRow 0 (lty c) 1 (.slice ad ln cap) ln xs) (hS : Shv w c xs O) (had : ∀ k, onB ad k → O k) (hao : ∀ k, onB ao k → ¬ R k ∧ ¬ O k ∧ ∀ ι, Liv ks ns ι → ¬ F ι k) (hk : KeptG c w w' wb ad ln xs ao n cp) : (∃ O', LW A base R w' wb (t + 1) u m ks ns O' F) ∧ Kp3 R wb w w' := by
  have hle := h.le
  have hwb := h.bk.self
  have hE : ∀ ι, Liv ks ns ι → ∀ j, F ι j → ¬ (j = wb ∨ onB ao j ∨ onB ad j) := fun i hi j hj hc => by
    rcases hc with rfl | hc | hc
    · exact h.off i hi _ hj hwb
    · exact (hao j hc).2.2 i hi hj
    · exact h.off i hi j hj (had j hc)
  have hER : ∀ j, R j → ¬ (j = wb ∨ onB ao j ∨ onB ad j) := fun j hj hc => by
    rcases hc with rfl | hc | hc
    · exact h.ro _ hwb hj
    · exact (hao j hc).1 hj
    · exact h.ro j (had j hc) hj
  have hKE : ∀ (e : TypeId), e = 123 ∨ e = 128 → ∀ j cur, w.heap[j]? = some (.cells cur e (0, 0)) → O j → ¬ (j = wb ∨ onB ao j ∨ onB ad j) := fun ty hty j cur e ho hc => by
    rcases hc with rfl | hc | hc
    · obtain ⟨_, e'⟩ := h.bk.ty
      exact ty_ne e e' (by rcases hty with rfl | rfl <;> decide) rfl
    · exact (hao j hc).2.1 ho
    · obtain ⟨_, e'⟩ := own_block hown hc
      refine ty_ne e' e ?_ rfl
      rcases hty with rfl | rfl
      · exact (lty_else c hc3).2.1
      · exact (lty_else c hc3).2.2.1
  refine ⟨⟨_, h.sl.alike hk.rest (fun j hj => hER j (h.rb j hj)), h.bk.kept hc3 hln h4 hn hown hS had (fun k hk => (hao k hk).2.1) hk, h.few, h.th.alike hk.rest hE, fun i hi j hj hc => ?_, h.dis, h.rb, fun j hj => Nat.lt_of_lt_of_le (h.rl j hj) hk.rest.size, fun j hj hc => ?_, h.rf⟩, ⟨Kp2.of hk.rest (fun j hj => ⟨h.rl j hj, hER j hj⟩), h.bk.knS (fun i hi v => hk.others i v (by rcases hi with rfl | rfl <;> omega)) hk.rest hKE⟩⟩
  · rcases hc.2 with h1 | h1 | h1
    · exact h.off i hi j hj h1
    · exact (hao j h1).2.2 i hi hj
    · have := h.lt hi hj
      omega
  · rcases hj.2 with h1 | h1 | h1
    · exact h.ro j h1 hc
    · exact (hao j h1).1 hc
    · have := h.rl j hc
      omega
/-- A node or a net came behind the others. -/
theorem LW.add0 (h : LW A base R w wb t u m ks ns O F) {w2 : World} (hb : Below w.heap.size w w2) {ι0 : Bool × Nat} {F' : Nat → Prop} (hF : ∀ j, F' j → w.heap.size ≤ j ∧ j < w2.heap.size) {ks' : List Kn} {ns' : List Wb} (hlv : ∀ ι, Liv ks' ns' ι → ι = ι0 ∨ Liv ks ns ι) (hfew : ks'.length ≤ m + 1 ∧ ns'.length ≤ m + 1) {E : Nat → Prop} (hr : Alike w2 w' E) (hE : ∀ j, E j → O j) {O' : Nat → Prop} (hbk : BkAt w' wb t u (knrow ks') (wbrow ns') ks'.length ns'.length O') (hO' : ∀ j, O' j → O j ∨ w2.heap.size ≤ j) (th : Thg w2 (m + 1) ks' ns' (fun ι => if ι = ι0 then F' else F ι)) (_hnl : ¬ Liv ks ns ι0) :
    LW A base R w' wb t u (m + 1) ks' ns' O' (fun ι => if ι = ι0 then F' else F ι) ∧ Kp2 R w w' := by
  have h2 := h.low hb
  have hs1 := hb.size
  have hEf : ∀ j, O j → ¬ F' j := fun j hj hc => by
    have h3 := (hF j hc).1
    have h4 := h.bk.lt j hj
    omega
  have hER : ∀ j, R j → ¬ E j := fun j hj hc => h.ro j (hE j hc) hj
  have hFO : ∀ ι, Liv ks' ns' ι → ∀ j, (if ι = ι0 then F' else F ι) j → ¬ O j ∧ j < w2.heap.size := fun ι hi j hj => by
    split at hj
    · exact ⟨fun hc => hEf j hc hj, (hF j hj).2⟩
    · next e =>
      have hi' := (hlv ι hi).resolve_left e
      exact ⟨h.off ι hi' j hj, h2.lt hi' hj⟩
  refine ⟨⟨h2.sl.alike hr (fun j hj => hER j (h.rb j hj)), hbk, hfew, th.alike hr (fun ι hi j hj hc => (hFO ι hi j hj).1 (hE j hc)), fun ι hi j hj hc => ?_, fun ι ι' h1 h1' hne j hj hc => ?_, h.rb, fun j hj => Nat.lt_of_lt_of_le (h2.rl j hj) hr.size, fun j hj hc => ?_, fun ι hi j hj hc => ?_⟩, (h.same hb).kp.trans (Kp2.of hr (fun j hj => ⟨h2.rl j hj, hER j hj⟩))⟩
  · rcases hO' j hc with h3 | h3
    · exact (hFO ι hi j hj).1 h3
    · have := (hFO ι hi j hj).2
      omega
  · by_cases e1 : ι = ι0
    · have e2 : ι' ≠ ι0 := fun e => hne (e1.trans e.symm)
      rw [if_pos e1] at hj
      rw [if_neg e2] at hc
      have h3 := h.lt ((hlv ι' h1').resolve_left e2) hc
      have h4 := (hF j hj).1
      omega
    · rw [if_neg e1] at hj
      by_cases e2 : ι' = ι0
      · rw [if_pos e2] at hc
        have h3 := h.lt ((hlv ι h1).resolve_left e1) hj
        have h4 := (hF j hc).1
        omega
      · rw [if_neg e2] at hc
        exact h.dis ι ι' ((hlv ι h1).resolve_left e1) ((hlv ι' h1').resolve_left e2) hne j hj hc
  · rcases hO' j hj with h3 | h3
    · exact h.ro j h3 hc
    · have := h2.rl j hc
      omega
  · split at hj
    · have := (hF j hj).1
      have := h.rl j hc
      omega
    · next e => exact h.rf ι ((hlv ι hi).resolve_left e) j hj hc
theorem LW.addN (h : LW A base R w wb t u m ks ns O F) {w2 : World} (hb : Below w.heap.size w w2) {k : Wb} {F' : Nat → Prop} (hk : WebAt w2 k (m + 1) F') (hF : ∀ j, F' j → w.heap.size ≤ j) {ka : Option Addr} {kc : Nat} (hown : w2.ownsRow 0 128 2 (.slice ka ns.length kc) ns.length (wbrow ns)) (hka : ∀ j, onB ka j → O j) (hg : Grw 79 w2 w' wb 4 128 2 ka (ns.length + 1) (wbrow (ns ++ [k]))) :
    (∃ O' F'', LW A base R w' wb t u (m + 1) ks (ns ++ [k]) O' F'') ∧ Kp2 R w w' := by
  have h2 := h.low hb
  have hlen : (ns ++ [k]).length = ns.length + 1 := by simp
  have hbk := h2.bk.webs hown hka hg
  rw [← hlen] at hbk
  have hfew := h.few
  obtain ⟨h3, h4⟩ := h.add0 hb (ι0 := (true, ns.length)) (ks' := ks) (ns' := ns ++ [k]) (fun j hj => ⟨hF j hj, hk.lt j hj⟩) (fun ι hi => by
      obtain ⟨b, i⟩ := ι
      cases b
      · exact Or.inr hi
      · have hi' : i < (ns ++ [k]).length := hi
        rw [hlen] at hi'
        by_cases e : i = ns.length
        · exact Or.inl (by rw [e])
        · exact Or.inr (show i < ns.length by omega)) ⟨by omega, by omega⟩ hg.rest (fun j hj => by
      rcases hj with rfl | hj
      · exact h.bk.self
      · exact hka j hj) hbk (fun j hj => hj.2) ⟨fun i k' hi => by
      have ne : ((false, i) : Bool × Nat) ≠ (true, ns.length) := fun h => by cases (Prod.mk.inj h).1
      rw [if_neg ne]
      exact (h2.kn i k' hi).more (by omega), fun i k' hi => by
      by_cases e : i = ns.length
      · subst e
        have hkk : k = k' := by simpa using hi
        subst hkk
        simpa using hk
      · have ne : ((true, i) : Bool × Nat) ≠ (true, ns.length) := fun h => e (Prod.mk.inj h).2
        rw [if_neg ne]
        have hil : i < ns.length := by
          have := (List.getElem?_eq_some_iff.1 hi).1
          omega
        rw [List.getElem?_append_left hil] at hi
        exact (h2.nt i k' hi).more (by omega)⟩ (fun hc => Nat.lt_irrefl _ (show ns.length < ns.length from hc))
  exact ⟨⟨_, _, h3⟩, h4⟩
end
end Go.Proofs.YtabecbjfamphbaaGreatDoor

/- The law's world: both nodes did the same; lists that came out are kept. -/
namespace Go.Proofs.YtabecbjfamphbaaGreatDoor
open Go.RowKit Go.Stop Go.Extern

theorem say_pk {g : Gr} (hg : g.Ok) {p : Nat} (hp : p < g.n) {s : NS} (hs : s.Ok g p) (body : ByteArray) : ∀ t ∈ (s.say g p body).ps, PkOk g t := by
  unfold NS.say
  split
  · rename_i hK
    obtain ⟨h1, h2, h3⟩ := sayK_zero hK
    rw [sayL_enc g p _ rfl]
    exact pass_ok hg hp (NS.word_ok hs hg hp h1 h2 h3) p
  · intro t ht
    cases ht
theorem own_ge {w : World} {z : Nat} {e : TypeId} {sz : Nat} {ad : Option Addr} {n cap : Nat} {xs : List Value} (h : w.ownsRow z e sz (.slice ad n cap) n xs) {j : Nat} (hj : onB ad j) : z ≤ j := by
  rcases h.2 with ⟨e', _⟩ | ⟨g', cap', cur', e', hg', _⟩
  · cases e'
    obtain ⟨_, e''⟩ := hj
    cases e''
  · cases e'
    obtain ⟨_, e''⟩ := hj
    cases e''
    exact hg'
section
variable {A : Nat → Addr} {base : Nat} {R : Nat → Prop} {w w' : World} {wb t u m : Nat} {ks : List Kn} {ns : List Wb} {O : Nat → Prop} {F : Bool × Nat → Nat → Prop}
theorem LW.keepsW (h : LW A base R w wb t u m ks ns O F) (ht : t ≤ 240000) {z : Nat} {v : Value} {ws : List Wd} (hws : ws.length ≤ 1000000) (hl : Wrd w z v ws) (hz : (∀ j, R j → j < z) ∧ (∀ j, O j → j < z) ∧ ∀ ι, Liv ks ns ι → ∀ j, F ι j → j < z) :
    Calls Tryz.prog 114 #[.pointer (some ⟨wb, 0, none⟩), v] w fun e w' => e = .returned (.tuple #[]) ∧ (∃ O', LW A base R w' wb (t + 1) u m ks ns O' F) ∧ Kp3 R wb w w' := by
  obtain ⟨ln, xs, hln, h4, ⟨ad, cap, c2, hxo, had⟩, hS⟩ := h.bk.sh 1 (by decide)
  obtain ⟨ao, cp, rfl⟩ := rowShaped hl.own
  have hM := mrk0_of (mc := mword ln) hl.own
  refine (keepWords_any wb ad ln cap xs ao ws.length cp (by omega) hws hM.1 w c2 h.bk.ty hxo hM.2).mono ?_
  rintro e w' ⟨rfl, hk⟩
  refine ⟨rfl, h.kept (c := 1) (by decide) hln h4 hws hxo hS had (fun j hj => ?_) hk.g⟩
  have h1 := own_ge hl.own hj
  exact ⟨fun hc => by have := hz.1 j hc; omega, fun hc => by have := hz.2.1 j hc; omega, fun i' hi' hc => by have := hz.2.2 i' hi' j hc; omega⟩
end
end Go.Proofs.YtabecbjfamphbaaGreatDoor

/- The law's world: what both nodes answer, call for call. -/
namespace Go.Proofs.YtabecbjfamphbaaGreatDoor
open Go.RowKit Go.Stop Go.Extern

set_option maxHeartbeats 1000000 in
theorem lpick_any (c n : Int) (w : World) (hc : I64 c) (hn : 0 < n) (hn2 : n ≤ 9223372036854775807) :
    Calls Tryz.prog 69 #[.int .i64 c, .int .i64 n] w fun e w' => e = .returned (.int .i64 (pk c n)) ∧ w' = w := by
  obtain ⟨h1, h2⟩ := hc
  by_cases h0 : c < 0
  · have e1 : pk c n = -(Int.tmod (c + 1) n) := by unfold pk; rw [if_pos h0, ← Int.neg_tmod, Int.tmod_eq_emod_of_nonneg (by omega)]
    have hb := pk_bd c n hn
    rw [e1] at hb ⊢
    go_enter Tryz.func69, Tryz.ntmps69
    go_wp2_with fail
    go_ret
    exact ⟨rfl, rfl⟩
  · have e1 : pk c n = c % n := by unfold pk; rw [if_neg h0]
    have hb := pk_bd c n hn
    rw [e1] at hb ⊢
    go_enter Tryz.func69, Tryz.ntmps69
    go_wp2_with fail
    go_ret
    exact ⟨rfl, rfl⟩
/-- The law's world behind a call of a node. -/
def KW (A : Nat → Addr) (base : Nat) (R : Nat → Prop) (wb t u m : Nat) (ks : List Kn) (ns : List Wb) (w w' : World) : Prop := (∃ ks' ns' O' F', LW A base R w' wb (t + 1) (u + 1) (m + 1) ks' ns' O' F' ∧ ks'.length = ks.length ∧ ns'.length = ns.length) ∧ Kp3 R wb w w'
theorem KW.of {A : Nat → Addr} {base : Nat} {R : Nat → Prop} {wb t u m : Nat} {ks : List Kn} {ns : List Wb} {w0 w w' : World} (h : KW A base R wb t u m ks ns w w') (hs : Kp3 R wb w0 w) : KW A base R wb t u m ks ns w0 w' := ⟨h.1, hs.trans h.2⟩
theorem KW.less {A : Nat → Addr} {base : Nat} {R R' : Nat → Prop} {wb t u m : Nat} {ks : List Kn} {ns : List Wb} {w w' : World} (h : KW A base R wb t u m ks ns w w') (hR : ∀ j, R' j → R j) (rb : ∀ j, j < base → R' j) : KW A base R' wb t u m ks ns w w' := by
  obtain ⟨⟨ks', ns', O', F', h1, h2⟩, h3⟩ := h
  exact ⟨⟨ks', ns', O', F', h1.less hR rb, h2⟩, h3.less hR⟩
section
variable {A : Nat → Addr} {base : Nat} {R : Nat → Prop} {w X : World} {wb t u m : Nat} {ks : List Kn} {ns : List Wb} {O : Nat → Prop} {F : Bool × Nat → Nat → Prop} {i : Nat} {k : Kn}
theorem LW.pairWords (h : LW A base R w wb t u m ks ns O F) (ht : t ≤ 240000) (hbX : Below w.heap.size w X) {w1 w2 : World} {v v2 : Value} {ws : List Wd} (hws : ws.length ≤ 1000000) (hp : Wrd w1 X.heap.size v ws) (hb : Below X.heap.size X w1) (hp2 : Wrd w2 w1.heap.size v2 ws) (hb2 : Below w1.heap.size w1 w2) :
    Calls Tryz.prog 113 #[v, v2] w2 fun e w3 => e = .returned (.bool true) ∧ Calls Tryz.prog 114 #[.pointer (some ⟨wb, 0, none⟩), v] w3 fun e w' => e = .returned (.tuple #[]) ∧ KW A base R wb t u m ks ns w w' := by
  have hL := h.low hbX
  obtain ⟨a, c, rfl⟩ := rowShaped hp.own
  obtain ⟨a2, c2, rfl⟩ := rowShaped hp2.own
  have hp' : Wrd w2 X.heap.size (.slice a ws.length c) ws := ⟨row_low hp.own hb2⟩
  refine (lsameWords_any _ _ a a2 c c2 ws hws w2 hp' hp2).mono ?_
  rintro e w3 ⟨rfl, hb3⟩
  refine ⟨rfl, ?_⟩
  have l1 := ((hL.low hb).low hb2).low hb3
  refine (l1.keepsW ht hws (⟨row_low hp'.own hb3⟩ : Wrd w3 X.heap.size (.slice a ws.length c) ws) ⟨fun j hj => hL.rl j hj, fun j hj => hL.bk.lt j hj, fun i' hi' j hj => hL.lt hi' hj⟩).mono ?_
  rintro e w' ⟨rfl, ⟨O', hw'⟩, sm'⟩
  exact ⟨rfl, ⟨_, _, O', _, hw'.more (Nat.le_refl _) (Nat.le_succ _) (Nat.le_succ _), rfl, rfl⟩, (h.same hbX).trans ((hL.same hb).trans (((hL.low hb).same hb2).trans ((((hL.low hb).low hb2).same hb3).trans sm')))⟩
end
end Go.Proofs.YtabecbjfamphbaaGreatDoor
