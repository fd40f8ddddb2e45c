/-
  Texts that the proofs of this seat share, joined: Kw.
-/
import Derived.Test.YtabecbjfamphbaaGreatDoorB37
/- hearsaykeep: empty, agreed. -/
namespace Go.Proofs.YtabecbjfamphbaaGreatDoor
open Go.RowKit Go.Stop Go.Extern

theorem store_net {g : Gr} {x : MNet} {p : Nat} (hp : p < g.n) : x.storeR g p = ⟨(x.nd p).kept, 0⟩ := by
  unfold MNet.storeR
  rw [if_pos (show isNode g.n p = true from decide_eq_true ⟨by omega, by omega⟩)]
  rfl
theorem heard_net {g : Gr} {x : MNet} {p : Nat} (hp : p < g.n) : x.heardR g p = ⟨(x.nd p).hs, 0⟩ := by
  unfold MNet.heardR
  rw [if_pos (show isNode g.n p = true from decide_eq_true ⟨by omega, by omega⟩)]
  rfl
set_option maxRecDepth 100000 in
set_option maxHeartbeats 1000000 in
theorem empty_any (A : Nat → Addr) (base z rb : Nat) (g : Gr) (x : MNet) (sd : List Sd) (sn : List Sn) (hg : g.Ok) (hx : x.Ok g) (hk : ∀ p, p < g.n → (x.nd p).kept = []) (w : World) (hw : Sl w A base) (h : CircZ z w rb g x sd sn) :
    Calls Tryz.prog 19 #[.pointer (some ⟨rb, 0, none⟩)] w fun e w' => e = .returned (.bool true) ∧ Below w.heap.size w w' := by
  have hn8 := hg.n.2
  obtain ⟨C, hC, _⟩ := h.how
  have HC : Hid (Circ w rb g x sd sn C) := hC
  have HSt : Hid (∀ y p, p < g.n → Below w.heap.size w y → Calls Tryz.prog 31 #[.pointer (some ⟨C.fb, 0, none⟩), .int .i64 ((p : Nat) : Int)] y fun e w' => (∃ v, e = .returned (.tuple #[v, .int .i64 0]) ∧ Wrd w' y.heap.size v []) ∧ Below y.heap.size y w') := fun y p hp hy => by
    have h1 := netStore A base C.fb g x C.Fx p hg hx y (hw.low hy) (hC.net.low hy)
    rw [store_net hp, hk p hp] at h1
    exact h1
  clear hw hx h hC hk
  go_enter Tryz.func19, Tryz.ntmps19
  go_wp2_with fail
  go_loopw [3] (fun c wr => ∃ k : Nat, k ≤ g.n ∧ c = .int .i64 k ∧ Below w.heap.size w wr) (fun c _ => g.n - (intOf c).toNat)
  case atStart => exact ⟨0, Nat.zero_le _, rfl, Below.refl _ _⟩
  case round =>
    obtain ⟨k, hkn, rfl, hb⟩ := hrel
    have HB : Hid (Below w.heap.size w wr) := hb
    have c0 := (HC.out.low hb).c0
    have c4 := (HC.out.low hb).c4
    clear hb
    by_cases hlt : k < g.n
    · have hki : (k : Int) < (g.n : Int) := by omega
      go_wp2_with fail
      refine (show Calls _ _ _ _ _ from HSt.out wr k hlt HB.out).mono ?_
      rintro e w1 ⟨⟨v, rfl, hv⟩, hb1⟩
      obtain ⟨av, cv, hsh⟩ := rowShaped hv.own
      subst hsh
      have HB1 : Hid (Below w.heap.size w w1) := bthen HB.out hb1
      clear hv hb1
      go_wp2_with fail
      go_roundw
      case rel => exact ⟨k + 1, by omega, by go_num, HB1.out⟩
      case measure => simp [intOf]; omega
    · have hkn' : k = g.n := by omega
      subst hkn'
      go_wp2_with fail
      go_ret
      exact ⟨rfl, HB.out⟩
set_option maxRecDepth 100000 in
set_option maxHeartbeats 1000000 in
theorem agreed_any (A : Nat → Addr) (base z rb : Nat) (g : Gr) (x : MNet) (sd : List Sd) (sn : List Sn) (hg : g.Ok) (hx : x.Ok g) (hln : sd.length ≤ 10000000) (hsn : Seen x sn) (hok : ∀ p, p < g.n → CausedOk g.n sd (x.nd p).hs) (hall : ∀ p, p < g.n → (x.nd p).hs.length = sd.length) (w : World) (hw : Sl w A base) (hz : base ≤ z) (h : CircZ z w rb g x sd sn) :
    Calls Tryz.prog 18 #[.pointer (some ⟨rb, 0, none⟩)] w fun e w' => e = .returned (.bool true) ∧ (∃ sn', CircZ z w' rb g x sd sn' ∧ Seen x sn') ∧ Below z w w' := by
  have hn8 := hg.n.2
  have HCz : Hid _ := h
  have HLk : Hid (∀ y, Below w.heap.size w y → Calls Tryz.prog 16 #[.pointer (some ⟨rb, 0, none⟩)] y fun e w' => e = .returned (.bool true) ∧ (∃ sn', CircZ z w' rb g x sd sn' ∧ Seen x sn') ∧ Below z y w') := fun y hy => looked_any A base z rb g x sd sn hg hx hln hsn hok y (hw.low hy) hz (h.low hy)
  obtain ⟨C, hC, _⟩ := h.how
  have HC : Hid (Circ w rb g x sd sn C) := hC
  have HSt : Hid (∀ y p, p < g.n → Below w.heap.size w y → Calls Tryz.prog 29 #[.pointer (some ⟨C.fb, 0, none⟩), .int .i64 ((p : Nat) : Int)] y fun e w' => (∃ v, e = .returned (.tuple #[v, .int .i64 0]) ∧ Wrd w' y.heap.size v (x.nd p).hs) ∧ Below y.heap.size y w') := fun y p hp hy => by
    have h1 := netHeard A base C.fb g x C.Fx p hg hx y (hw.low hy) (hC.net.low hy)
    rw [heard_net hp] at h1
    exact h1
  have HAll : Hid _ := hall
  clear hw hx h hC hall hsn hok
  go_enter Tryz.func18, Tryz.ntmps18
  go_wp2_with fail
  go_loopw [3] (fun c wr => ∃ k : Nat, k ≤ g.n ∧ c = .int .i64 k ∧ Below w.heap.size w wr) (fun c _ => g.n - (intOf c).toNat)
  case atStart => exact ⟨0, Nat.zero_le _, rfl, Below.refl _ _⟩
  case round =>
    obtain ⟨k, hkn, rfl, hb⟩ := hrel
    have HB : Hid (Below w.heap.size w wr) := hb
    have c0 := (HC.out.low hb).c0
    have c4 := (HC.out.low hb).c4
    clear hb
    by_cases hlt : k < g.n
    · have hki : (k : Int) < (g.n : Int) := by omega
      go_wp2_with fail
      refine (show Calls _ _ _ _ _ from HSt.out wr k hlt HB.out).mono ?_
      rintro e w1 ⟨⟨v, rfl, hv⟩, hb1⟩
      obtain ⟨av, cv, hsh⟩ := rowShaped hv.own
      subst hsh
      have HB1 : Hid (Below w.heap.size w w1) := bthen HB.out hb1
      have c5 := (HC.out.low HB1.out).c5
      rw [HAll.out k hlt]
      clear hv hb1
      go_wp2_with fail
      go_roundw
      case rel => exact ⟨k + 1, by omega, by go_num, HB1.out⟩
      case measure => simp [intOf]; omega
    · have hkn' : k = g.n := by omega
      subst hkn'
      go_wp2_with fail
      refine (show Calls _ _ _ _ _ from HLk.out wr HB.out).mono ?_
      rintro e w1 ⟨rfl, hs1, hb1⟩
      have HS1 : Hid _ := hs1
      have HB1 : Hid (Below z w w1) := (HB.out.mono HCz.out.le).trans hb1
      clear hs1 hb1
      go_wp2_with fail
      go_ret
      exact ⟨rfl, HS1.out, HB1.out⟩
end Go.Proofs.YtabecbjfamphbaaGreatDoor
