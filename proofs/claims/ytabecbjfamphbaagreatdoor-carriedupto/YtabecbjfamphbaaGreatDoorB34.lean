/-
  Texts that the proofs of this seat share, joined: Kh, Pick, Turned, Pc, Ps, Pt, Pm.
-/
import Derived.Test.YtabecbjfamphbaaGreatDoorB33
import Derived.Test.YtabecbjfamphbaaGreatDoorB03
import Derived.Test.YtabecbjfamphbaaGreatDoorB12
import Derived.Laws.IdiomStrings
import Derived.Test.YtabecbjfamphbaaGreatDoorB26
import Derived.Test.YtabecbjfamphbaaGreatDoorB31
import Derived.Test.YtabecbjfamphbaaGreatDoorB27
/- hearsaykeep: looked. -/
namespace Go.Proofs.YtabecbjfamphbaaGreatDoor
open Go.RowKit Go.Stop Go.Extern

theorem Sl.above {w w' : World} {A : Nat → Addr} {base z : Nat} (h : Sl w A base) (hz : base ≤ z) (hb : Below z w w') : Sl w' A base :=
  h.alike (E := fun k => z ≤ k) ⟨hb.size, fun k _ hE => hb.block k (by omega), hb.os, hb.tape, hb.output⟩ (fun k hk hE => by omega)
/-- What was seen of each node is how what it has heard begins. -/
def Seen (x : MNet) (sn : List Sn) : Prop := ∀ (p : Nat) (sp : Sn), sn[p]? = some sp → ∀ (i : Nat) (t : Wd), sp.ws[i]? = some t → (x.nd p).hs[i]? = some t
theorem Seen.look {x : MNet} {sn : List Sn} (h : Seen x sn) (p : Nat) (ad : Option Addr) (cap : Nat) : Seen x (sn.set p ⟨ad, cap, (x.nd p).hs⟩) := fun q sp hq i t ht => by
  rw [List.getElem?_set] at hq
  split at hq
  · rename_i e
    subst e
    split at hq
    · cases hq
      exact ht
    · cases hq
  · exact h q sp hq i t ht
set_option maxRecDepth 100000 in
set_option maxHeartbeats 1000000 in
theorem looked_any (A : Nat → Addr) (base z rb : Nat) (g : Gr) (x : MNet) (sd : List Sd) (sn : List Sn) (hg : g.Ok) (hx : x.Ok g) (hln : sd.length ≤ 10000000) (hsn : Seen x sn) (hok : ∀ p, p < g.n → CausedOk g.n sd (x.nd p).hs) (w : World) (hw : Sl w A base) (hz : base ≤ z) (h : CircZ z w rb g x sd sn) :
    Calls Tryz.prog 16 #[.pointer (some ⟨rb, 0, none⟩)] w fun e w' => e = .returned (.bool true) ∧ (∃ sn', CircZ z w' rb g x sd sn' ∧ Seen x sn') ∧ Below z w w' := by
  have HW : Hid _ := hw
  have HX : Hid _ := hx
  have HC : Hid _ := h
  have HSn : Hid _ := hsn
  have HOk : Hid _ := hok
  have hn8 := hg.n.2
  clear hw hx h hsn hok
  go_enter Tryz.func16, Tryz.ntmps16
  go_wp2_with fail
  go_loopw [3] (fun c wr => ∃ k : Nat, k ≤ g.n ∧ c = .int .i64 k ∧ (∃ sn', CircZ z wr rb g x sd sn' ∧ Seen x sn') ∧ Below z w wr) (fun c _ => g.n - (intOf c).toNat)
  case atStart => exact ⟨0, Nat.zero_le _, rfl, ⟨sn, HC.out, HSn.out⟩, Below.refl _ _⟩
  case round =>
    obtain ⟨k, hkn, rfl, ⟨sn', hC, hS⟩, hb⟩ := hrel
    have HB : Hid _ := hb
    have HC1 : Hid _ := hC
    have HS1 : Hid _ := hS
    obtain ⟨C, hCi, _⟩ := hC.how
    have c0 := hCi.c0
    have hnl := hCi.nlen
    clear hb hC hS hCi
    by_cases hlt : k < g.n
    · have hki : (k : Int) < (g.n : Int) := by omega
      obtain ⟨sp, hsp⟩ : ∃ sp, sn'[k]? = some sp := ⟨sn'[k], List.getElem?_eq_getElem _⟩
      have HCa : Hid _ := caused_any A base z rb g x sd sn' k sp hg HX.out hlt hln hsp (HS1.out k sp hsp) (HOk.out k hlt) wr (HW.out.above hz HB.out) HC1.out
      clear hnl hsp
      go_wp2_with fail
      refine (show Calls _ _ _ _ _ from HCa.out).mono ?_
      rintro e w1 ⟨rfl, ⟨ad, cap, hc1⟩, hb1⟩
      have HC2 : Hid _ := hc1
      have HB2 : Hid _ := HB.out.trans hb1
      clear hc1 hb1
      go_wp2_with fail
      go_roundw
      case rel => exact ⟨k + 1, by omega, by go_num, ⟨_, HC2.out, Seen.look HS1.out k ad cap⟩, HB2.out⟩
      case measure => simp [intOf]; omega
    · have hkn' : k = g.n := by omega
      subst hkn'
      clear hnl
      go_wp2_with fail
      go_ret
      exact ⟨rfl, ⟨sn', HC1.out, HS1.out⟩, HB.out⟩
end Go.Proofs.YtabecbjfamphbaaGreatDoor

/- The law's small steps: pick, at, upTo, fit. -/
namespace Go.Proofs.YtabecbjfamphbaaGreatDoor
open Go.RowKit Go.Stop Go.Extern

/-- A number that an int holds. -/
def I64 (c : Int) : Prop := -9223372036854775808 ≤ c ∧ c ≤ 9223372036854775807
/-- Which of n things a number speaks of. -/
def pk (c n : Int) : Int := (if c < 0 then -(c + 1) else c) % n
theorem pk_bd (c n : Int) (h : 0 < n) : 0 ≤ pk c n ∧ pk c n < n := ⟨Int.emod_nonneg _ (by omega), Int.emod_lt_of_pos _ h⟩

set_option maxHeartbeats 1000000 in
theorem pick_any (c n : Int) (w : World) (hc : I64 c) (hn : 0 < n) (hn2 : n ≤ 9223372036854775807) :
    Calls Tryz.prog 21 #[.int .i64 c, .int .i64 n] w fun e w' => e = .returned (.int .i64 (pk c n)) ∧ w' = w := by
  obtain ⟨h1, h2⟩ := hc
  by_cases h0 : c < 0
  · have e1 : pk c n = -(Int.tmod (c + 1) n) := by unfold pk; rw [if_pos h0, ← Int.neg_tmod, Int.tmod_eq_emod_of_nonneg (by omega)]
    have hb := pk_bd c n hn
    rw [e1] at hb ⊢
    go_enter Tryz.func21, Tryz.ntmps21
    go_wp2_with fail
    go_ret
    exact ⟨rfl, rfl⟩
  · have e1 : pk c n = c % n := by unfold pk; rw [if_neg h0]
    have hb := pk_bd c n hn
    rw [e1] at hb ⊢
    go_enter Tryz.func21, Tryz.ntmps21
    go_wp2_with fail
    go_ret
    exact ⟨rfl, rfl⟩

set_option maxHeartbeats 1000000 in
theorem at_any (ad : Option Addr) (len cap : Nat) (vs : List Int) (i : Nat) (w : World) (hi : Ints w ad len vs) :
    Calls Tryz.prog 45 #[.slice ad len cap, .int .i64 (i : Int)] w fun e w' => e = .returned (.int .i64 (vs.getD i 0)) ∧ w' = w := by
  have hlen := hi.len
  by_cases h : i < len
  · obtain ⟨b, off, rfl, _, hc⟩ := hi.cell i h
    generalize vs.getD i 0 = y at *
    clear hi
    have hlt : (i : Int) < (len : Int) := by omega
    go_enter Tryz.func45, Tryz.ntmps45
    go_wp2_with fail
    go_ret
    exact ⟨rfl, rfl⟩
  · have e : vs.getD i 0 = 0 := by rw [List.getD_eq_getElem?_getD, List.getElem?_eq_none (by omega)]; rfl
    rw [e]
    clear hi
    have hlt : ¬ (i : Int) < (len : Int) := by omega
    go_enter Tryz.func45, Tryz.ntmps45
    go_wp2_with fail
    go_ret
    exact ⟨rfl, rfl⟩
/-- The first n bytes of a text, or all. -/
def upT (s : ByteArray) (n : Nat) : ByteArray := if n < s.size then s.extract 0 n else s
theorem upT_size (s : ByteArray) (n : Nat) : (upT s n).size ≤ n := by
  unfold upT
  split
  · rw [ByteArray.size_extract]; omega
  · omega
set_option maxHeartbeats 1000000 in
theorem upTo_any (s : ByteArray) (n : Nat) (w : World) :
    Calls Tryz.prog 49 #[.string s, .int .i64 (n : Int)] w fun e w' => e = .returned (.string (upT s n)) ∧ w' = w := by
  by_cases h : n < s.size
  · have e : upT s n = s.extract 0 n := if_pos h
    rw [e]
    have hlt : (n : Int) < (s.size : Int) := by omega
    have hle : (n : Int) ≤ (s.size : Int) := by omega
    go_enter Tryz.func49, Tryz.ntmps49
    go_wp2_with fail
    go_ret
    exact ⟨rfl, rfl⟩
  · have e : upT s n = s := if_neg h
    rw [e]
    have hlt : ¬ (n : Int) < (s.size : Int) := by omega
    go_enter Tryz.func49, Tryz.ntmps49
    go_wp2_with fail
    go_ret
    exact ⟨rfl, rfl⟩
set_option maxRecDepth 100000 in
set_option maxHeartbeats 1000000 in
theorem fit_any (N W B L : Int) (w : World) (hN : I64 N) (hW : I64 W) (hB : I64 B) (hL : I64 L) :
    Calls Tryz.prog 13 #[.agg #[.int .i64 N, .int .i64 W, .int .i64 B, .int .i64 L]] w
      fun e w' => e = .returned (.agg #[.int .i64 (2 + pk N 7), .int .i64 (1 + pk W 8), .int .i64 (pk B 41), .int .i64 (1 + pk L 65535)]) ∧ Below w.heap.size w w' := by
  have H1 : Hid (∀ w, Calls Tryz.prog 21 #[.int .i64 N, .int .i64 7] w fun e w' => e = .returned (.int .i64 (pk N 7)) ∧ w' = w) := fun w => pick_any N 7 w hN (by omega) (by omega)
  have H2 : Hid (∀ w, Calls Tryz.prog 21 #[.int .i64 W, .int .i64 8] w fun e w' => e = .returned (.int .i64 (pk W 8)) ∧ w' = w) := fun w => pick_any W 8 w hW (by omega) (by omega)
  have H3 : Hid (∀ w, Calls Tryz.prog 21 #[.int .i64 B, .int .i64 41] w fun e w' => e = .returned (.int .i64 (pk B 41)) ∧ w' = w) := fun w => pick_any B 41 w hB (by omega) (by omega)
  have H4 : Hid (∀ w, Calls Tryz.prog 21 #[.int .i64 L, .int .i64 65535] w fun e w' => e = .returned (.int .i64 (pk L 65535)) ∧ w' = w) := fun w => pick_any L 65535 w hL (by omega) (by omega)
  have b1 := pk_bd N 7 (by omega)
  have b2 := pk_bd W 8 (by omega)
  have b3 := pk_bd B 41 (by omega)
  have b4 := pk_bd L 65535 (by omega)
  generalize pk N 7 = x1 at *
  generalize pk W 8 = x2 at *
  generalize pk B 41 = x3 at *
  generalize pk L 65535 = x4 at *
  clear hN hW hB hL
  go_enter Tryz.func13, Tryz.ntmps13
  go_wp2_with fail
  refine (H1.out _).mono ?_
  rintro e w' ⟨rfl, rfl⟩
  clear H1
  go_wp2_with fail
  refine (H2.out _).mono ?_
  rintro e w' ⟨rfl, rfl⟩
  clear H2
  go_wp2_with fail
  refine (H3.out _).mono ?_
  rintro e w' ⟨rfl, rfl⟩
  clear H3
  go_wp2_with fail
  refine (H4.out _).mono ?_
  rintro e w' ⟨rfl, rfl⟩
  clear H4
  go_wp2_with fail
  refine bodyPost_ret (v := .agg #[.int .i64 (2 + x1), .int .i64 (1 + x2), .int .i64 x3, .int .i64 (1 + x4)]) (by simp [results, Tryz.results13, go_sem]) rfl ⟨rfl, below2 _ _ _⟩
end Go.Proofs.YtabecbjfamphbaaGreatDoor

/- The law's turned: a text with one byte another. -/
namespace Go.Proofs.YtabecbjfamphbaaGreatDoor
open Go.RowKit Go.Stop Go.Extern

theorem Crc.xor_zero_of {a b : Nat} (h : a ^^^ b = a) : b = 0 := by
  have := congrArg (a ^^^ ·) h
  simpa [← Nat.xor_assoc] using this
theorem frozen_set2 (w : World) (a p : Addr) (v : Value) : (w.setCell a v).frozen? p = w.frozen? p := by
  go_simp
/-- The bytes of a text in a block of their own. -/
structure Bys (w : World) (z : Nat) (l : List UInt8) : Prop where
  c : ∀ j, j < l.length → w.cell? ⟨z, j, none⟩ = some (.int .u8 ((l.getD j 0).toNat : Int))
  f : ∀ j, j < l.length → w.frozen? ⟨z, j, none⟩ = false
theorem bys_of (w : World) (s : ByteArray) (cap : Nat) (t : TypeId) : Bys (w.alloc (.cells (bytesRow s cap) t ((bytesRow s cap).size, (bytesRow s cap).size + 1))) w.heap.size s.data.toList := by
  have hsz : s.size ≤ (bytesRow s cap).size := by unfold bytesRow; simp
  refine ⟨fun j hj => ?_, fun j hj => ?_⟩
  · have hj' : j < s.data.size := by simpa using hj
    rw [World.cell?_alloc_mark, bytesRow_at s cap j hj']
    rw [List.getD_eq_getElem?_getD, List.getElem?_eq_getElem (by simpa using hj')]
    simp
  · have hj' : j < s.size := by simpa using hj
    rw [World.frozen?_alloc_mark]
    simp; omega
theorem Bys.set {w : World} {z j : Nat} {l : List UInt8} (h : Bys w z l) (hj : j < l.length) (x : UInt8) : Bys (w.setCell ⟨z, j, none⟩ (.int .u8 (x.toNat : Int))) z (l.set j x) := by
  have hc := h.c j hj
  refine ⟨fun q hq => ?_, fun q hq => ?_⟩
  · rw [List.length_set] at hq
    by_cases e : q = j
    · subst e
      rw [List.getD_eq_getElem?_getD, List.getElem?_set_self hj]
      go_simp
    · have hq' := h.c q hq
      rw [List.getD_eq_getElem?_getD, List.getElem?_set_ne (by omega), ← List.getD_eq_getElem?_getD]
      have e' : j ≠ q := by omega
      go_simp
  · rw [List.length_set] at hq
    exact (frozen_set2 _ _ _ _).trans (h.f q hq)
theorem u8_turn (b : UInt8) (y : Nat) (hy : y < 255) : bits .xor .u8 (b.toNat : Int) (IntKind.u8.wrap (IntKind.i64.wrap (1 + (y : Int)))) = ((b ^^^ UInt8.ofNat (1 + y)).toNat : Int) := by
  have hb := b.toNat_lt
  have h1 : IntKind.u8.wrap (IntKind.i64.wrap (1 + (y : Int))) = ((1 + y : Nat) : Int) := by
    simp only [IntKind.wrap, IntKind.bits, IntKind.signed]
    simp
    omega
  rw [h1, u8_xor_nat b.toNat (1 + y) hb (by omega), UInt8.toNat_xor, UInt8.toNat_ofNat']
  congr 2
  omega
theorem u8_other (b : UInt8) (y : Nat) (hy : y < 255) : b ^^^ UInt8.ofNat (1 + y) ≠ b := by
  intro h
  have h2 := congrArg UInt8.toNat h
  rw [UInt8.toNat_xor] at h2
  have h3 : (UInt8.ofNat (1 + y)).toNat = 0 := Crc.xor_zero_of h2
  rw [UInt8.toNat_ofNat'] at h3
  omega
set_option maxRecDepth 100000 in
set_option maxHeartbeats 2000000 in
theorem turned_any (s : ByteArray) (i v : Int) (w : World) (hs : 0 < s.size) (hs2 : s.size ≤ 1000) (hi : I64 i) (hv : I64 v) :
    Calls Tryz.prog 138 #[.string s, .int .i64 i, .int .i64 v] w
      fun e w' => (∃ j x, j < s.size ∧ x ≠ s.data.toList.getD j 0 ∧ e = .returned (.string (txt (s.data.toList.set j x)))) ∧ Below w.heap.size w w' := by
  have hcv := run_bytes_of_string (P := Tryz.prog) w 9 241 5 s Tryz.underlying9 Tryz.underlying241 Tryz.underlying5
  have HI : Hid (∀ w, Calls Tryz.prog 21 #[.int .i64 i, .int .i64 (s.size : Int)] w fun e w' => e = .returned (.int .i64 (pk i s.size)) ∧ w' = w) := fun w => pick_any i s.size w hi (by omega) (by omega)
  have HV : Hid (∀ w, Calls Tryz.prog 21 #[.int .i64 v, .int .i64 255] w fun e w' => e = .returned (.int .i64 (pk v 255)) ∧ w' = w) := fun w => pick_any v 255 w hv (by omega) (by omega)
  have hb1 := pk_bd i s.size (by omega)
  have hb2 := pk_bd v 255 (by omega)
  obtain ⟨J, hJ⟩ : ∃ J : Nat, pk i s.size = J := ⟨(pk i s.size).toNat, by omega⟩
  obtain ⟨y, hy⟩ : ∃ y : Nat, pk v 255 = y := ⟨(pk v 255).toNat, by omega⟩
  rw [hJ] at HI hb1
  rw [hy] at HV hb2
  clear hi hv hJ hy
  go_enter Tryz.func138, Tryz.ntmps138
  go_wp2_with fail
  have hbys := bys_of w s (grownCap w s.size 0 5) 5
  have hbel : Below w.heap.size w (w.alloc (.cells (bytesRow s (grownCap w s.size 0 5)) 5 ((bytesRow s (grownCap w s.size 0 5)).size, (bytesRow s (grownCap w s.size 0 5)).size + 1))).drew := (below1 _ _).drew
  have hby2 : Bys (w.alloc (.cells (bytesRow s (grownCap w s.size 0 5)) 5 ((bytesRow s (grownCap w s.size 0 5)).size, (bytesRow s (grownCap w s.size 0 5)).size + 1))).drew w.heap.size s.data.toList := ⟨hbys.c, hbys.f⟩
  generalize (w.alloc (.cells (bytesRow s (grownCap w s.size 0 5)) 5 ((bytesRow s (grownCap w s.size 0 5)).size, (bytesRow s (grownCap w s.size 0 5)).size + 1))).drew = X at *
  generalize grownCap w s.size 0 5 = cap at *
  clear hcv hbys
  refine (HI.out _).mono ?_
  rintro e w' ⟨rfl, rfl⟩
  have hJs : J < s.data.toList.length := by simp; omega
  have hcJ := hby2.c J hJs
  have hfJ := hby2.f J hJs
  have hJl : (J : Int) < (s.size : Int) := by omega
  go_wp2_with fail
  go_region_with (go_at_call 21; refine (HV.out _).mono ?_; rintro e w' ⟨rfl, rfl⟩)
  all_goals
    obtain ⟨x, hx⟩ : ∃ x : UInt8, x = s.data.toList.getD J 0 ^^^ UInt8.ofNat (1 + y) := ⟨_, rfl⟩
    have hxv : bits .xor .u8 ((s.data[J]?.getD 0).toNat : Int) (IntKind.u8.wrap (IntKind.i64.wrap (1 + (y : Int)))) = (x.toNat : Int) := by
      have e : s.data[J]?.getD 0 = s.data.toList.getD J 0 := by rw [List.getD_eq_getElem?_getD]; simp
      rw [e, hx]
      exact u8_turn _ y (by omega)
    have hxne : x ≠ s.data.toList.getD J 0 := by rw [hx]; exact u8_other _ y (by omega)
    rw [hxv]
    clear hx
    have hbx := hby2.set hJs x
    have hby3 : Bys (w'.setCell ⟨w.heap.size, J, none⟩ (.int .u8 (x.toNat : Int))).drew w.heap.size (s.data.toList.set J x) := ⟨hbx.c, hbx.f⟩
    have hbel3 : Below w.heap.size w (w'.setCell ⟨w.heap.size, J, none⟩ (.int .u8 (x.toNat : Int))).drew := (hbel.setCell (Nat.le_refl _) _).drew
    generalize (w'.setCell ⟨w.heap.size, J, none⟩ (.int .u8 (x.toNat : Int))).drew = X at *
    have hback := run_convert_bytes_back (P := Tryz.prog) X 241 9 5 ⟨w.heap.size, 0, none⟩ cap (s.data.toList.set J x) Tryz.underlying241 Tryz.underlying5 Tryz.underlying9 (fun j hj => by
      have := hby3.c j hj
      rw [Addr.add_lit, Nat.zero_add, this, List.getD_eq_getElem?_getD, List.getElem?_eq_getElem hj]
      rfl)
    rw [show (s.data.toList.set J x).length = s.size by simp] at hback
    generalize hL : s.data.toList.set J x = l' at *
    go_wp2
    go_ret
    exact ⟨⟨J, x, by omega, hxne, by rw [hL]; rfl⟩, hbel3⟩
end Go.Proofs.YtabecbjfamphbaaGreatDoor

/- All nodes of a group and the packets between them, as plain data: what holds whatever is lost, doubled or late. -/
namespace Go.Proofs.YtabecbjfamphbaaGreatDoor

/-- What a packet holds. -/
inductive Msg where
  | data (q : Nat) (f : Fm)
  | state (q : Nat) (v : List Int)
def clk (nd : Nat → NS) (p o : Nat) : Int := vw (nd p).vs p o
def upd (nd : Nat → NS) (p : Nat) (s : NS) : Nat → NS := fun q => if q = p then s else nd q
theorem upd_same (nd : Nat → NS) (p : Nat) (s : NS) : upd nd p s p = s := if_pos rfl
theorem upd_other (nd : Nat → NS) (p : Nat) (s : NS) {q : Nat} (h : q ≠ p) : upd nd p s q = nd q := if_neg h
/-- What was heard: words that were said, each the next of its origin, none ahead of its deps. -/
inductive HV (g : Gr) (said : List Fm) : List Wd → Prop
  | none : HV g said []
  | more {hs : List Wd} {f : Fm} : HV g said hs → f ∈ said → f.seq = (cntW hs f.org.toNat : Int) + 1 → (∀ q, q < g.n → f.vec.getD q 0 ≤ (cntW hs q : Int)) → HV g said (hs ++ [f.word])
theorem HV.mono {g : Gr} {said said' : List Fm} {hs : List Wd} (h : HV g said hs) (hs' : ∀ f ∈ said, f ∈ said') : HV g said' hs := by
  induction h with
  | none => exact .none
  | more _ h1 h2 h3 ih => exact .more ih (hs' _ h1) h2 h3
theorem HV.has {g : Gr} {said : List Fm} {hs : List Wd} (h : HV g said hs) (hok : ∀ f ∈ said, f.Ok g) (o : Nat) : ∀ k : Int, 1 ≤ k → k ≤ (cntW hs o : Int) → ∃ f ∈ said, f.org = o ∧ f.seq = k := by
  induction h with
  | none =>
    intro k h1 h2
    have : (cntW ([] : List Wd) o : Int) = 0 := rfl
    omega
  | more _ h1 h2 _ ih =>
    rename_i hs f _ _
    intro k hk1 hk2
    rw [cntW_append] at hk2
    have e := (hok f h1).org_eq
    by_cases hko : k ≤ (cntW hs o : Int)
    · exact ih k hk1 hko
    · by_cases hof : f.word.org = (o : Int)
      · have hof' : f.org = (o : Int) := hof
        rw [if_pos hof] at hk2
        have e2 : f.org.toNat = o := by omega
        rw [e2] at h2
        exact ⟨f, h1, hof', by omega⟩
      · rw [if_neg hof] at hk2
        omega
/-- A packet that may be on its way. -/
def GoodP (g : Gr) (nd : Nat → NS) (said : List Fm) (to : Nat) : Msg → Prop
  | .data q f => f ∈ said ∧ to < g.n ∧ q < g.n ∧ to ≠ q ∧ f.org ≠ to
  | .state q v => to < g.n ∧ q < g.n ∧ to ≠ q ∧ v.length = g.n ∧ ∀ o, o < g.n → 0 ≤ v.getD o 0 ∧ v.getD o 0 ≤ clk nd q o
structure Inv (g : Gr) (nd : Nat → NS) (said : List Fm) : Prop where
  ok : ∀ p, p < g.n → (nd p).Ok g p
  sok : ∀ f ∈ said, f.Ok g
  dist : said.Pairwise (fun a b => ¬ SameK a b)
  top : ∀ f ∈ said, f.seq ≤ clk nd f.org.toNat f.org.toNat
  has : ∀ o, o < g.n → ∀ k : Int, 1 ≤ k → k ≤ clk nd o o → ∃ f ∈ said, f.org = o ∧ f.seq = k
  heard : ∀ p, p < g.n → HV g said (nd p).hs
  st : ∀ p, p < g.n → ∀ f ∈ (nd p).st, f ∈ said
  kept : ∀ p, p < g.n → ∀ f ∈ said, f.seq ≤ clk nd p f.org.toNat → g.low (nd p).vs f.org.toNat < f.seq → f ∈ (nd p).st
  view : ∀ p q o, p < g.n → q < g.n → o < g.n → vw (nd p).vs q o ≤ clk nd q o
  low : ∀ f ∈ said, ∀ q, q < g.n → f.low ≤ clk nd q f.org.toNat
  dep : ∀ f ∈ said, ∀ q, q < g.n → f.vec.getD q 0 ≤ clk nd q q
  quiet : ∀ p, p < g.n → (nd p).st.find? (nxM (nd p).vs p g.n) = none
  ord : ∀ (i : Nat) (f : Fm), said[i]? = some f → ∀ q, q < g.n → ∀ k : Int, 1 ≤ k → k ≤ f.vec.getD q 0 → ∃ (j : Nat) (f' : Fm), j < i ∧ said[j]? = some f' ∧ f'.org = q ∧ f'.seq = k
theorem Inv.le_top {g : Gr} {nd : Nat → NS} {said : List Fm} (h : Inv g nd said) {p o : Nat} (hp : p < g.n) (ho : o < g.n) : clk nd p o ≤ clk nd o o := by
  have h1 := (h.ok p hp).clk.cnt o ho
  have h3 := ((h.ok o ho).clk.bd o o ho ho).1
  rcases Int.lt_or_le (clk nd p o) 1 with h2 | h2
  · unfold clk at *
    omega
  · obtain ⟨f, hf, e1, e2⟩ := (h.heard p hp).has h.sok o (clk nd p o) h2 (by unfold clk; omega)
    have h4 := h.top f hf
    have e3 : f.org.toNat = o := by omega
    rw [e3] at h4
    omega
theorem Inv.low_le {g : Gr} {nd : Nat → NS} {said : List Fm} (h : Inv g nd said) {p q o : Nat} (hp : p < g.n) (hq : q < g.n) (ho : o < g.n) : g.low (nd p).vs o ≤ clk nd q o :=
  Int.le_trans (lowTo_le _ _ _ _ _ hq) (h.view p q o hp hq ho)
/-- What a State frame tells is taken in. -/
theorem Inv.told {g : Gr} {nd : Nat → NS} {said : List Fm} (h : Inv g nd said) {p q : Nat} (hp : p < g.n) (hq : q < g.n) (hqp : q ≠ p) {v : List Int} (hv : ∀ o, o < g.n → 0 ≤ v.getD o 0 ∧ v.getD o 0 ≤ clk nd q o) : Inv g (upd nd p ((nd p).told g q v)) said ∧ ∀ r o, clk (upd nd p ((nd p).told g q v)) r o = clk nd r o := by
  have hc : ∀ r o, clk (upd nd p ((nd p).told g q v)) r o = clk nd r o := fun r o => by
    unfold clk
    by_cases e : r = p
    · subst e
      rw [upd_same]
      show vw (vlearn (nd r).vs q v g.n) r o = _
      rw [vw_vlearn (h.ok r hp).clk.shp hq _ _ (Nat.le_refl _), if_neg (by omega)]
    · rw [upd_other _ _ _ e]
  have hv' : ∀ o, o < g.n → 0 ≤ v.getD o 0 ∧ v.getD o 0 ≤ g.L := fun o ho => ⟨(hv o ho).1, Int.le_trans (hv o ho).2 ((h.ok q hq).clk.bd q o hq ho).2⟩
  have hlw := ((h.ok p hp).clk.learn hq hqp hv').2
  refine ⟨⟨fun r hr => ?_, h.sok, h.dist, fun f hf => by rw [hc]; exact h.top f hf, fun o ho k h1 h2 => h.has o ho k h1 (by rw [hc] at h2; exact h2), fun r hr => ?_, fun r hr f hf => ?_, fun r hr f hf h1 h2 => ?_, fun r q' o hr hq' ho => ?_, fun f hf r hr => by rw [hc]; exact h.low f hf r hr, fun f hf r hr => by rw [hc]; exact h.dep f hf r hr, fun r hr => ?_, h.ord⟩, hc⟩
  · by_cases e : r = p
    · subst e
      rw [upd_same]
      exact (h.ok r hr).told hq hqp hv'
    · rw [upd_other _ _ _ e]
      exact h.ok r hr
  · by_cases e : r = p
    · subst e
      rw [upd_same]
      exact h.heard r hr
    · rw [upd_other _ _ _ e]
      exact h.heard r hr
  · by_cases e : r = p
    · subst e
      rw [upd_same] at hf
      exact h.st r hr f (mem_forgetM.1 hf).1
    · rw [upd_other _ _ _ e] at hf
      exact h.st r hr f hf
  · rw [hc] at h1
    by_cases e : r = p
    · subst e
      rw [upd_same] at h2 ⊢
      exact mem_forgetM.2 ⟨h.kept r hr f hf h1 (Int.lt_of_le_of_lt (hlw _) h2), h2⟩
    · rw [upd_other _ _ _ e] at h2 ⊢
      exact h.kept r hr f hf h1 h2
  · rw [hc]
    by_cases e : r = p
    · subst e
      rw [upd_same]
      show vw (vlearn (nd r).vs q v g.n) q' o ≤ _
      rw [vw_vlearn (h.ok r hr).clk.shp hq _ _ (Nat.le_refl _)]
      have h1 := h.view r q' o hr hq' ho
      split
      · rename_i e'
        have h2 := (hv o ho).2
        rw [e'.1] at h1 ⊢
        omega
      · exact h1
    · rw [upd_other _ _ _ e]
      exact h.view r q' o hr hq' ho
  · by_cases e : r = p
    · subst e
      rw [upd_same]
      have h1 := h.quiet r hr
      rw [List.find?_eq_none] at h1 ⊢
      intro f hf
      have h2 := h1 f (mem_forgetM.1 hf).1
      intro h3
      apply h2
      unfold nxM at h3 ⊢
      have h4 := of_decide_eq_true h3
      refine decide_eq_true ⟨?_, fun q' hq' => ?_⟩
      · have := h4.1
        rw [show vw ((nd r).told g q v).vs r f.org.toNat = vw (nd r).vs r f.org.toNat by
          have := hc r f.org.toNat; unfold clk at this; rw [upd_same] at this; exact this] at this
        exact this
      · have := h4.2 q' hq'
        rw [show vw ((nd r).told g q v).vs r q' = vw (nd r).vs r q' by
          have := hc r q'; unfold clk at this; rw [upd_same] at this; exact this] at this
        exact this
    · rw [upd_other _ _ _ e]
      exact h.quiet r hr
theorem GoodP.mono {g : Gr} {nd nd' : Nat → NS} {said said' : List Fm} {to : Nat} {m : Msg} (h : GoodP g nd said to m) (hs : ∀ f ∈ said, f ∈ said') (hc : ∀ r o, r < g.n → o < g.n → clk nd r o ≤ clk nd' r o) : GoodP g nd' said' to m := by
  cases m with
  | data q f => exact ⟨hs f h.1, h.2⟩
  | state q v => exact ⟨h.1, h.2.1, h.2.2.1, h.2.2.2.1, fun o ho => ⟨(h.2.2.2.2 o ho).1, Int.le_trans (h.2.2.2.2 o ho).2 (hc q o h.2.1 ho)⟩⟩
/-- A word is said. -/
theorem Inv.said {g : Gr} (hg : g.Ok) {nd : Nat → NS} {said : List Fm} (h : Inv g nd said) {p : Nat} (hp : p < g.n) {body : ByteArray} (hb : (body.size : Int) ≤ g.B) (hl : clk nd p p < g.L) (hw : clk nd p p - g.low (nd p).vs p < g.W) :
    Inv g (upd nd p ((nd p).said g p ((nd p).word g p body))) (said ++ [(nd p).word g p body]) ∧ ∀ r o, r < g.n → o < g.n → clk nd r o ≤ clk (upd nd p ((nd p).said g p ((nd p).word g p body))) r o := by
  have hfo := NS.word_ok (h.ok p hp) hg hp hb hl hw
  have hsq : ((nd p).word g p body).seq = clk nd p p + 1 := rfl
  have hor : ((nd p).word g p body).org = p := rfl
  have hvc : ∀ q, ((nd p).word g p body).vec.getD q 0 = clk nd p q := fun _ => rfl
  have hlo : ((nd p).word g p body).low = g.low (nd p).vs p := rfl
  generalize (nd p).word g p body = f at *
  have hoN : f.org.toNat = p := by omega
  have hvs : ((nd p).said g p f).vs = vset (nd p).vs p p f.seq := rfl
  have hcp : ∀ r o, r < g.n → o < g.n → clk (upd nd p ((nd p).said g p f)) r o = if r = p ∧ o = p then f.seq else clk nd r o := fun r o _ _ => by
    unfold clk
    by_cases e : r = p
    · subst e
      rw [upd_same, hvs, vw_vset (h.ok r hp).clk.shp hp hp]
    · rw [upd_other _ _ _ e, if_neg (fun c => e c.1)]
  have hmono : ∀ r o, r < g.n → o < g.n → clk nd r o ≤ clk (upd nd p ((nd p).said g p f)) r o := fun r o hr ho => by
    rw [hcp r o hr ho]
    split
    · rename_i e
      rw [e.1, e.2]; omega
    · exact Int.le_refl _
  have hlw := vset_low (x := f.seq) (h.ok p hp).clk.shp hp hp (show vw (nd p).vs p p ≤ f.seq by unfold clk at hsq; omega)
  have hok := (h.ok p hp).said hp hfo hor hsq (show f.seq ≤ _ by omega)
  refine ⟨⟨fun r hr => ?_, fun a ha => ?_, ?_, fun a ha => ?_, fun o ho k h1 h2 => ?_, fun r hr => ?_, fun r hr a ha => ?_, fun r hr a ha h1 h2 => ?_, fun r q o hr hq ho => ?_, fun a ha r hr => ?_, fun a ha r hr => ?_, fun r hr => ?_, fun i a hi q hq k h1 h2 => ?_⟩, hmono⟩
  · by_cases e : r = p
    · subst e; rw [upd_same]; exact hok
    · rw [upd_other _ _ _ e]; exact h.ok r hr
  · rcases List.mem_append.1 ha with ha | ha
    · exact h.sok a ha
    · rw [List.mem_singleton.1 ha]; exact hfo
  · refine List.pairwise_append.2 ⟨h.dist, List.pairwise_singleton _ _, fun a ha b hb' hk => ?_⟩
    rw [List.mem_singleton.1 hb'] at hk
    have h1 := h.top a ha
    have e1 := hk.1
    have e2 := hk.2
    rw [show a.org.toNat = p by omega] at h1
    omega
  · rcases List.mem_append.1 ha with ha | ha
    · exact Int.le_trans (h.top a ha) (hmono _ _ (h.sok a ha).lt (h.sok a ha).lt)
    · rw [List.mem_singleton.1 ha, hoN, hcp p p hp hp, if_pos ⟨rfl, rfl⟩]
      omega
  · rw [hcp o o ho ho] at h2
    by_cases e : o = p
    · rw [if_pos ⟨e, e⟩] at h2
      by_cases hk : k = f.seq
      · exact ⟨f, by simp, by omega, hk.symm⟩
      · obtain ⟨a, ha, e1, e2⟩ := h.has o ho k h1 (by rw [e]; omega)
        exact ⟨a, List.mem_append_left _ ha, e1, e2⟩
    · rw [if_neg (fun c => e c.1)] at h2
      obtain ⟨a, ha, e1, e2⟩ := h.has o ho k h1 h2
      exact ⟨a, List.mem_append_left _ ha, e1, e2⟩
  · by_cases e : r = p
    · subst e
      rw [upd_same]
      show HV g _ ((nd r).hs ++ [f.word])
      refine .more ((h.heard r hr).mono (fun a ha => List.mem_append_left _ ha)) (by simp) ?_ (fun q hq => ?_)
      · rw [hoN, ← (h.ok r hr).clk.cnt r hr]
        exact hsq
      · rw [hvc q, ← (h.ok r hr).clk.cnt q hq]
        exact Int.le_refl _
    · rw [upd_other _ _ _ e]
      exact (h.heard r hr).mono (fun a ha => List.mem_append_left _ ha)
  · by_cases e : r = p
    · subst e
      rw [upd_same] at ha
      rcases mem_insM.1 (mem_forgetM.1 ha).1 with rfl | ha
      · simp
      · exact List.mem_append_left _ (h.st r hr a ha)
    · rw [upd_other _ _ _ e] at ha
      exact List.mem_append_left _ (h.st r hr a ha)
  · by_cases e : r = p
    · subst e
      rw [upd_same] at h2 ⊢
      refine mem_forgetM.2 ⟨mem_insM.2 ?_, h2⟩
      rcases List.mem_append.1 ha with ha | ha
      · refine Or.inr (h.kept r hr a ha ?_ (Int.lt_of_le_of_lt (hlw _) h2))
        rw [hcp r _ hr (h.sok a ha).lt] at h1
        by_cases e' : a.org.toNat = r
        · have := h.top a ha
          rw [e'] at this ⊢
          exact this
        · rw [if_neg (fun c => e' c.2)] at h1
          exact h1
      · exact Or.inl (List.mem_singleton.1 ha)
    · rw [upd_other _ _ _ e] at h2 ⊢
      rcases List.mem_append.1 ha with ha | ha
      · rw [hcp r _ hr (h.sok a ha).lt, if_neg (fun c => e c.1)] at h1
        exact h.kept r hr a ha h1 h2
      · rw [List.mem_singleton.1 ha, hoN, hcp r p hr hp, if_neg (fun c => e c.1)] at h1
        have := h.le_top hr hp
        omega
  · by_cases e : r = p
    · subst e
      rw [upd_same, hvs, vw_vset (h.ok r hr).clk.shp hr hr, hcp q o hq ho]
      by_cases e' : q = r ∧ o = r
      · rw [if_pos e', if_pos e']
        exact Int.le_refl _
      · rw [if_neg e', if_neg e']
        exact h.view r q o hr hq ho
    · rw [upd_other _ _ _ e]
      exact Int.le_trans (h.view r q o hr hq ho) (hmono q o hq ho)
  · rcases List.mem_append.1 ha with ha | ha
    · exact Int.le_trans (h.low a ha r hr) (hmono _ _ hr (h.sok a ha).lt)
    · rw [List.mem_singleton.1 ha, hlo, hoN]
      exact Int.le_trans (h.low_le hp hr hp) (hmono _ _ hr hp)
  · rcases List.mem_append.1 ha with ha | ha
    · exact Int.le_trans (h.dep a ha r hr) (hmono _ _ hr hr)
    · rw [List.mem_singleton.1 ha, hvc r]
      exact Int.le_trans (h.le_top hp hr) (hmono _ _ hr hr)
  · by_cases e : r = p
    · subst e
      rw [upd_same]
      have h1 := h.quiet r hr
      rw [List.find?_eq_none] at h1 ⊢
      intro a ha hn
      have hn' : nxM (vset (nd r).vs r r f.seq) r g.n a = true := hn
      unfold nxM at hn'
      obtain ⟨h3, h4⟩ := of_decide_eq_true hn'
      rcases mem_insM.1 (mem_forgetM.1 ha).1 with rfl | ha'
      · rw [vw_vset (h.ok r hr).clk.shp hr hr, hoN, if_pos ⟨rfl, rfl⟩] at h3
        omega
      · have hs := h.st r hr a ha'
        refine h1 a ha' (decide_eq_true ⟨?_, fun q hq => ?_⟩)
        · rw [vw_vset (h.ok r hr).clk.shp hr hr] at h3
          by_cases e' : a.org.toNat = r
          · have := h.top a hs
            rw [if_pos ⟨rfl, e'⟩] at h3
            rw [e'] at this
            omega
          · rw [if_neg (fun c => e' c.2)] at h3
            exact h3
        · by_cases e' : q = r
          · rw [e']
            exact h.dep a hs r hr
          · have := h4 q hq
            rw [vw_vset (h.ok r hr).clk.shp hr hr, if_neg (fun c => e' c.2)] at this
            exact this
    · rw [upd_other _ _ _ e]
      exact h.quiet r hr
  · rcases Nat.lt_or_ge i said.length with hlt | hge
    · rw [List.getElem?_append_left hlt] at hi
      obtain ⟨j, a', hj, hja, e⟩ := h.ord i a hi q hq k h1 h2
      exact ⟨j, a', hj, by rw [List.getElem?_append_left (by omega)]; exact hja, e⟩
    · have hil := (List.getElem?_eq_some_iff.1 hi).1
      rw [List.length_append, List.length_singleton] at hil
      obtain rfl : i = said.length := by omega
      rw [List.getElem?_append_right (Nat.le_refl _), Nat.sub_self] at hi
      obtain rfl : f = a := by simpa using hi
      rw [hvc q] at h2
      obtain ⟨a', ha', e1, e2⟩ := h.has q hq k h1 (Int.le_trans h2 (h.le_top hp hq))
      obtain ⟨j, hj⟩ := List.mem_iff_getElem?.1 ha'
      exact ⟨j, a', (List.getElem?_eq_some_iff.1 hj).1, by rw [List.getElem?_append_left (List.getElem?_eq_some_iff.1 hj).1]; exact hj, e1, e2⟩
/-- What a run of hearing makes. -/
theorem run_facts {g : Gr} {p : Nat} (hp : p < g.n) {st said : List Fm} (hst : ∀ f ∈ st, f.Ok g) (hsa : ∀ f ∈ st, f ∈ said) (k : Nat) : ∀ {vs : List (List Int)} {hs : List Wd}, Clk g p vs hs → HV g said hs →
    HV g said (runM g.n p st k vs hs).2 ∧ (∀ q o, q ≠ p → vw (runM g.n p st k vs hs).1 q o = vw vs q o) ∧ ∀ (o : Nat) (x : Int), vw vs p o < x → x ≤ vw (runM g.n p st k vs hs).1 p o → ∃ a ∈ st, a.org = o ∧ a.seq = x := by
  induction k with
  | zero => exact fun _ hv => ⟨hv, fun _ _ _ => rfl, fun o x h1 h2 => absurd (show x ≤ vw _ p o from h2) (Int.not_le.2 h1)⟩
  | succ k ih =>
    intro vs hs hc hv
    unfold runM
    cases e : st.find? (nxM vs p g.n) with
    | none => exact ⟨hv, fun _ _ _ => rfl, fun o x h1 h2 => absurd (show x ≤ vw vs p o from h2) (Int.not_le.2 h1)⟩
    | some f =>
      have hf := List.mem_of_find?_eq_some e
      have hn : nxM vs p g.n f = true := List.find?_some e
      have hn := of_decide_eq_true hn
      have hl := (hst f hf).lt
      obtain ⟨h1, h2, h3⟩ := ih (hc.take hp (hst f hf) hn.1) (.more hv (hsa f hf) (by rw [← hc.cnt _ hl]; exact hn.1) (fun q hq => by rw [← hc.cnt q hq]; exact hn.2 q hq))
      refine ⟨h1, fun q o hq => (h2 q o hq).trans (by rw [vw_vset hc.shp hp hl, if_neg (fun c => hq c.1)]), fun o x hx1 hx2 => ?_⟩
      by_cases hx : vw (vset vs p f.org.toNat f.seq) p o < x
      · exact h3 o x hx hx2
      · rw [vw_vset hc.shp hp hl] at hx
        have e1 := (hst f hf).org_eq
        by_cases e' : o = f.org.toNat
        · rw [if_pos ⟨rfl, e'⟩] at hx
          rw [e'] at hx1
          exact ⟨f, hf, by omega, by omega⟩
        · rw [if_neg (fun c => e' c.2)] at hx
          omega
/-- A word is taken in. -/
theorem Inv.got {g : Gr} {nd : Nat → NS} {said : List Fm} (h : Inv g nd said) {p : Nat} (hp : p < g.n) {f : Fm} (hf : f ∈ said) (hop : f.org ≠ p) (hw : f.seq ≤ clk nd p f.org.toNat + g.W) (hne : ∀ a ∈ (nd p).st, ¬ (a.org = f.org ∧ a.seq = f.seq)) :
    Inv g (upd nd p ((nd p).got g p f)) said ∧ ∀ r o, r < g.n → o < g.n → clk nd r o ≤ clk (upd nd p ((nd p).got g p f)) r o := by
  have hfo := h.sok f hf
  have hok := (h.ok p hp).got hp hfo hop hw hne
  have hcl := (h.ok p hp).clk.lows hfo.lt (x := f.low) (by have := hfo.low; have := hfo.seq; omega)
  have hst : ∀ a ∈ insM (nd p).st f, a.Ok g := fun a ha => by
    rcases mem_insM.1 ha with rfl | ha
    · exact hfo
    · exact (h.ok p hp).st a ha
  have hsa : ∀ a ∈ insM (nd p).st f, a ∈ said := fun a ha => by
    rcases mem_insM.1 ha with rfl | ha
    · exact hf
    · exact h.st p hp a ha
  have hvp : ∀ o, vw (vlow (nd p).vs p f.org.toNat f.low g.n) p o = clk nd p o := fun o => by
    rw [vw_vlow (h.ok p hp).clk.shp hfo.lt _ _ (Nat.le_refl _), if_neg (by omega)]
    rfl
  obtain ⟨r1, r2, r3⟩ := run_facts hp hst hsa ((nd p).st.length + 1) hcl.1 (h.heard p hp)
  obtain ⟨_, r4, r5⟩ := Clk.run hp hst ((nd p).st.length + 1) hcl.1
  have hdone := runM_done (hs := (nd p).hs) hp (fun a ha => (hst a ha).lt) ((nd p).st.length + 1) hcl.1.shp (by
    unfold leftM
    refine Nat.le_trans List.countP_le_length ?_
    rw [insM_length]
    exact Nat.le_refl _)
  have hvs : ((nd p).got g p f).vs = (runM g.n p (insM (nd p).st f) ((nd p).st.length + 1) (vlow (nd p).vs p f.org.toNat f.low g.n) (nd p).hs).1 := rfl
  have hhs : ((nd p).got g p f).hs = (runM g.n p (insM (nd p).st f) ((nd p).st.length + 1) (vlow (nd p).vs p f.org.toNat f.low g.n) (nd p).hs).2 := rfl
  have hss : ((nd p).got g p f).st = forgetM g ((nd p).got g p f).vs (insM (nd p).st f) := rfl
  rw [← hvs] at r2 r3 r4 r5 hdone
  rw [← hhs] at r1
  have hlow : ∀ o, g.low (nd p).vs o ≤ g.low ((nd p).got g p f).vs o := fun o => Int.le_trans (hcl.2 o) (r4 o)
  have hmono : ∀ r o, r < g.n → o < g.n → clk nd r o ≤ clk (upd nd p ((nd p).got g p f)) r o := fun r o hr ho => by
    by_cases e : r = p
    · subst e
      have := r5 o
      rw [hvp] at this
      show _ ≤ vw (upd nd r _ r).vs r o
      rw [upd_same]
      exact this
    · show _ ≤ vw (upd nd p _ r).vs r o
      rw [upd_other _ _ _ e]
      exact Int.le_refl _
  have hother : ∀ r o, r ≠ p → clk (upd nd p ((nd p).got g p f)) r o = clk nd r o := fun r o e => by
    unfold clk
    rw [upd_other _ _ _ e]
  have hself : ∀ o, clk (upd nd p ((nd p).got g p f)) p o = vw ((nd p).got g p f).vs p o := fun o => by
    unfold clk
    rw [upd_same]
  generalize (nd p).got g p f = s' at *
  clear hvs hhs hcl
  refine ⟨⟨fun r hr => ?_, h.sok, h.dist, fun a ha => Int.le_trans (h.top a ha) (hmono _ _ (h.sok a ha).lt (h.sok a ha).lt), fun o ho k h1 h2 => ?_, fun r hr => ?_, fun r hr a ha => ?_, fun r hr a ha h1 h2 => ?_, fun r q o hr hq ho => ?_, fun a ha r hr => Int.le_trans (h.low a ha r hr) (hmono _ _ hr (h.sok a ha).lt), fun a ha r hr => Int.le_trans (h.dep a ha r hr) (hmono _ _ hr hr), fun r hr => ?_, h.ord⟩, hmono⟩
  · by_cases e : r = p
    · subst e; rw [upd_same]; exact hok
    · rw [upd_other _ _ _ e]; exact h.ok r hr
  · by_cases e : o = p
    · subst e
      rw [hself] at h2
      by_cases hk : k ≤ clk nd o o
      · exact h.has o ho k h1 hk
      · obtain ⟨a, ha, e1, e2⟩ := r3 o k (by rw [hvp]; omega) h2
        exact ⟨a, hsa a ha, e1, e2⟩
    · rw [hother o o e] at h2
      exact h.has o ho k h1 h2
  · by_cases e : r = p
    · subst e; rw [upd_same]; exact r1
    · rw [upd_other _ _ _ e]; exact h.heard r hr
  · by_cases e : r = p
    · subst e
      rw [upd_same, hss] at ha
      exact hsa a (mem_forgetM.1 ha).1
    · rw [upd_other _ _ _ e] at ha
      exact h.st r hr a ha
  · by_cases e : r = p
    · subst e
      rw [upd_same] at h2 ⊢
      rw [hself] at h1
      rw [hss]
      refine mem_forgetM.2 ⟨mem_insM.2 ?_, h2⟩
      by_cases hk : a.seq ≤ clk nd r a.org.toNat
      · exact Or.inr (h.kept r hr a ha hk (Int.lt_of_le_of_lt (hlow _) h2))
      · obtain ⟨b, hb, e1, e2⟩ := r3 a.org.toNat a.seq (by rw [hvp]; omega) h1
        have hab : b = a := dist_eq h.dist (hsa b hb) ha ⟨by rw [e1]; exact (h.sok a ha).org_eq, e2⟩
        rw [hab] at hb
        exact mem_insM.1 hb
    · rw [upd_other _ _ _ e] at h2 ⊢
      rw [hother r _ e] at h1
      exact h.kept r hr a ha h1 h2
  · by_cases e : r = p
    · subst e
      rw [upd_same]
      by_cases e' : q = r
      · subst e'
        rw [hself]
        exact Int.le_refl _
      · rw [r2 q o e', hother q o e', vw_vlow (h.ok r hr).clk.shp hfo.lt _ _ (Nat.le_refl _)]
        have h1 := h.view r q o hr hq ho
        split
        · rename_i e2
          have h3 := h.low f hf q hq
          rw [← e2.2.2] at h3
          omega
        · exact h1
    · rw [upd_other _ _ _ e]
      exact Int.le_trans (h.view r q o hr hq ho) (hmono q o hq ho)
  · by_cases e : r = p
    · subst e
      rw [upd_same, hss]
      rw [List.find?_eq_none] at hdone ⊢
      exact fun a ha => hdone a (mem_forgetM.1 ha).1
    · rw [upd_other _ _ _ e]
      exact h.quiet r hr
/-- No right word comes from too far. -/
theorem Inv.near {g : Gr} {nd : Nat → NS} {said : List Fm} (h : Inv g nd said) {p : Nat} (hp : p < g.n) {f : Fm} (hf : f ∈ said) : f.seq ≤ clk nd p f.org.toNat + g.W := by
  have h1 := h.low f hf p hp
  have h2 := (h.sok f hf).low
  omega
/-- What a node has heard and does not keep, all have heard. -/
theorem Inv.freed {g : Gr} {nd : Nat → NS} {said : List Fm} (h : Inv g nd said) {p q : Nat} (hp : p < g.n) (hq : q < g.n) {f : Fm} (hf : f ∈ said) (h1 : f.seq ≤ clk nd p f.org.toNat) (h2 : f ∉ (nd p).st) : f.seq ≤ clk nd q f.org.toNat := by
  rcases Int.lt_or_le (g.low (nd p).vs f.org.toNat) f.seq with h3 | h3
  · exact absurd (h.kept p hp f hf h1 h3) h2
  · exact Int.le_trans h3 (h.low_le hp hq (h.sok f hf).lt)
/-- A word that some node has not heard is in its speaker's store. -/
theorem Inv.lacks {g : Gr} {nd : Nat → NS} {said : List Fm} (h : Inv g nd said) {q : Nat} (hq : q < g.n) {f : Fm} (hf : f ∈ said) (h1 : clk nd q f.org.toNat < f.seq) : f ∈ (nd f.org.toNat).st ∧ vw (nd f.org.toNat).vs q f.org.toNat < f.seq := by
  have hl := (h.sok f hf).lt
  exact ⟨h.kept _ hl f hf (h.top f hf) (Int.lt_of_le_of_lt (h.low_le hl hq hl) h1), Int.lt_of_le_of_lt (h.view _ q _ hl hq hl) h1⟩
/-- A node that has every word, heard or kept, has heard them all. -/
theorem Inv.settled {g : Gr} {nd : Nat → NS} {said : List Fm} (h : Inv g nd said) {p : Nat} (hp : p < g.n) (hall : ∀ f ∈ said, f.seq ≤ clk nd p f.org.toNat ∨ f ∈ (nd p).st) : ∀ (i : Nat) (f : Fm), said[i]? = some f → f.seq ≤ clk nd p f.org.toNat := by
  intro i
  induction i using Nat.strongRecOn with
  | _ i ih =>
    intro f hi
    have hf : f ∈ said := List.mem_of_getElem? hi
    rcases hall f hf with h1 | h1
    · exact h1
    · rcases Int.lt_or_le (clk nd p f.org.toNat) f.seq with h2 | h2
      · exfalso
        have hq := h.quiet p hp
        rw [List.find?_eq_none] at hq
        have hl := (h.sok f hf).lt
        have hdeps : ∀ q, q < g.n → f.vec.getD q 0 ≤ clk nd p q := fun q hq' => by
          rcases Int.lt_or_le (f.vec.getD q 0) 1 with h3 | h3
          · have := ((h.ok p hp).clk.bd p q hp hq').1
            unfold clk
            omega
          · obtain ⟨j, f', hj, hjf, e1, e2⟩ := h.ord i f hi q hq' (f.vec.getD q 0) h3 (Int.le_refl _)
            have := ih j hj f' hjf
            rw [show f'.org.toNat = q by omega] at this
            omega
        refine hq f h1 (decide_eq_true ⟨?_, hdeps⟩)
        have h3 := hdeps f.org.toNat hl
        rw [(h.sok f hf).own] at h3
        unfold clk at h2 h3
        omega
      · exact h2
end Go.Proofs.YtabecbjfamphbaaGreatDoor

/- Packets are delivered, till none is left: what the nodes then know. -/
namespace Go.Proofs.YtabecbjfamphbaaGreatDoor

def passM (g : Gr) (p : Nat) (f : Fm) (fr : Nat) : List (Nat × Msg) := ((List.range g.n).filter (fun (q : Nat) => decide (q ≠ p ∧ (q : Int) ≠ f.org ∧ q ≠ fr))).map (fun q => (q, .data p f))
/-- What a node makes of a packet. -/
def NS.hearM (g : Gr) (p : Nat) (s : NS) : Msg → Nat × List (Nat × Msg) × NS
  | .data q f => if q = p ∨ f.org = p then (6, [], s) else if s.newK g p f = 0 then (0, passM g p f q, s.got g p f) else (s.newK g p f, [], s)
  | .state q v => if q = p then (6, [], s) else (0, [], s.told g q v)
/-- Does node p have the word, heard or kept? -/
def Had (nd : Nat → NS) (p : Nat) (f : Fm) : Prop := f.seq ≤ clk nd p f.org.toNat ∨ f ∈ (nd p).st
theorem newK_in {g : Gr} {nd : Nat → NS} {said : List Fm} (h : Inv g nd said) {p : Nat} (hp : p < g.n) {f : Fm} (hf : f ∈ said) : ((nd p).newK g p f = 0 ∧ ¬ Had nd p f) ∨ ((nd p).newK g p f = 7 ∧ Had nd p f) := by
  unfold NS.newK
  have hn := h.near hp hf
  by_cases h1 : f.seq ≤ vw (nd p).vs p f.org.toNat
  · rw [if_pos h1]
    exact Or.inr ⟨rfl, Or.inl h1⟩
  · rw [if_neg h1]
    by_cases h2 : (nd p).st.any (fun a => decide (a.org = f.org ∧ a.seq = f.seq)) = true
    · rw [if_pos h2]
      refine Or.inr ⟨rfl, Or.inr ?_⟩
      rw [List.any_eq_true] at h2
      obtain ⟨a, ha, hd⟩ := h2
      have hd' : a.org = f.org ∧ a.seq = f.seq := of_decide_eq_true hd
      have := dist_eq h.dist (h.st p hp a ha) hf hd'
      rw [← this]
      exact ha
    · rw [if_neg h2, if_neg (show ¬ vw (nd p).vs p f.org.toNat + g.W < f.seq from by unfold clk at hn; omega)]
      refine Or.inl ⟨rfl, fun hc => ?_⟩
      rcases hc with hc | hc
      · exact h1 hc
      · apply h2
        rw [List.any_eq_true]
        exact ⟨f, hc, decide_eq_true ⟨rfl, rfl⟩⟩
theorem mem_passM {g : Gr} {p : Nat} {f : Fm} {fr : Nat} {x : Nat × Msg} (h : x ∈ passM g p f fr) : x.2 = .data p f ∧ x.1 < g.n ∧ x.1 ≠ p ∧ f.org ≠ x.1 := by
  obtain ⟨q, hq, rfl⟩ := List.mem_map.1 h
  obtain ⟨h1, h2⟩ := List.mem_filter.1 hq
  have h3 := of_decide_eq_true h2
  exact ⟨rfl, List.mem_range.1 h1, h3.1, fun e => h3.2.1 e.symm⟩
theorem passM_length {g : Gr} {p : Nat} {f : Fm} {fr : Nat} : (passM g p f fr).length ≤ g.n := by
  unfold passM
  rw [List.length_map]
  refine Nat.le_trans (List.length_filter_le _ _) ?_
  rw [List.length_range]
  exact Nat.le_refl _
/-- A packet that may be on its way is heard. -/
structure Step (g : Gr) (nd nd' : Nat → NS) (said : List Fm) (to : Nat) (m : Msg) (k : Nat) (new : List (Nat × Msg)) : Prop where
  ok : k = 0 ∨ k = 7
  inv : Inv g nd' said
  good : ∀ x ∈ new, GoodP g nd' said x.1 x.2
  clk : ∀ r o, r < g.n → o < g.n → clk nd r o ≤ clk nd' r o
  had : ∀ r f, r < g.n → f ∈ said → Had nd r f → Had nd' r f
  now : ∀ q f, m = .data q f → Had nd' to f
  told : ∀ q v, m = .state q v → ∀ o, o < g.n → v.getD o 0 ≤ vw (nd' to).vs q o
  views : ∀ r q o, r < g.n → q < g.n → o < g.n → vw (nd r).vs q o ≤ vw (nd' r).vs q o
  few : new = [] ∨ (new.length ≤ g.n ∧ ∃ f ∈ said, ¬ Had nd to f ∧ Had nd' to f)
theorem had_upd {g : Gr} {nd : Nat → NS} {said : List Fm} {p : Nat} {s : NS} (hi : Inv g (upd nd p s) said) (hp : p < g.n) (hc : ∀ r o, r < g.n → o < g.n → clk nd r o ≤ clk (upd nd p s) r o) (hst : ∀ f ∈ (nd p).st, f ∈ s.st ∨ f.seq ≤ g.low s.vs f.org.toNat) {r : Nat} {f : Fm} (hr : r < g.n) (hf : f ∈ said) (hh : Had nd r f) : Had (upd nd p s) r f := by
  have hl := (hi.sok f hf).lt
  rcases hh with h1 | h1
  · exact Or.inl (Int.le_trans h1 (hc r _ hr hl))
  · by_cases e : r = p
    · subst e
      rcases hst f h1 with h2 | h2
      · exact Or.inr (by rw [upd_same]; exact h2)
      · refine Or.inl (Int.le_trans h2 ?_)
        have := hi.low_le (p := r) (q := r) hr hr hl
        rw [upd_same] at this
        exact this
    · exact Or.inr (by rw [upd_other _ _ _ e]; exact h1)
theorem forget_or {g : Gr} {vs : List (List Int)} {st : List Fm} {f : Fm} (h : f ∈ st) : f ∈ forgetM g vs st ∨ f.seq ≤ g.low vs f.org.toNat := by
  rcases Int.lt_or_le (g.low vs f.org.toNat) f.seq with h1 | h1
  · exact Or.inl (mem_forgetM.2 ⟨h, h1⟩)
  · exact Or.inr h1
theorem upd_self (nd : Nat → NS) (p : Nat) : upd nd p (nd p) = nd := by
  funext q
  unfold upd
  split
  · rename_i e; rw [e]
  · rfl
theorem Inv.hears {g : Gr} {nd : Nat → NS} {said : List Fm} (h : Inv g nd said) {to : Nat} {m : Msg} (hm : GoodP g nd said to m) :
    Step g nd (upd nd to ((nd to).hearM g to m).2.2) said to m ((nd to).hearM g to m).1 ((nd to).hearM g to m).2.1 := by
  cases m with
  | state q v =>
    obtain ⟨hto, hq, hne, hlen, hv⟩ := hm
    have e : (nd to).hearM g to (.state q v) = (0, [], (nd to).told g q v) := if_neg (fun c => hne c.symm)
    rw [e]
    obtain ⟨hi, hc⟩ := h.told hto hq (fun c => hne c.symm) hv
    have hc' : ∀ r o, r < g.n → o < g.n → clk nd r o ≤ clk (upd nd to ((nd to).told g q v)) r o := fun r o _ _ => Int.le_of_eq (hc r o).symm
    refine ⟨Or.inl rfl, hi, fun x hx => (by cases hx), hc', fun r f hr hf hh => had_upd hi hto hc' (fun a ha => forget_or ha) hr hf hh, fun _ _ e => (by cases e), fun q' v' e' o ho => ?_, fun r q' o hr hq' ho => ?_, Or.inl rfl⟩
    · cases e'
      show _ ≤ vw (upd nd to _ to).vs q o
      rw [upd_same]
      show _ ≤ vw (vlearn (nd to).vs q v g.n) q o
      rw [vw_vlearn (h.ok to hto).clk.shp hq _ _ (Nat.le_refl _), if_pos ⟨rfl, ho⟩]
      omega
    · by_cases e' : r = to
      · subst e'
        rw [upd_same]
        show _ ≤ vw (vlearn (nd r).vs q v g.n) q' o
        rw [vw_vlearn (h.ok r hr).clk.shp hq _ _ (Nat.le_refl _)]
        split <;> omega
      · rw [upd_other _ _ _ e']
        exact Int.le_refl _
  | data q f =>
    obtain ⟨hf, hto, hq, hne, hno⟩ := hm
    rcases newK_in h hto hf with ⟨hk, hh⟩ | ⟨hk, hh⟩
    · have e : (nd to).hearM g to (.data q f) = (0, passM g to f q, (nd to).got g to f) := by
        show (if q = to ∨ f.org = to then _ else _) = _
        rw [if_neg (fun c => c.elim (fun c => hne c.symm) hno), if_pos hk]
      rw [e]
      obtain ⟨hz1, hz2, hz3⟩ := newK_zero hk
      obtain ⟨hi, hc⟩ := h.got hto hf hno hz2 hz3
      have hnow : Had (upd nd to ((nd to).got g to f)) to f := by
        rcases forget_or (g := g) (vs := ((nd to).got g to f).vs) (st := insM (nd to).st f) (mem_insM.2 (Or.inl rfl)) with h1 | h1
        · exact Or.inr (by rw [upd_same]; exact h1)
        · refine Or.inl (Int.le_trans h1 ?_)
          have := hi.low_le (p := to) (q := to) hto hto (h.sok f hf).lt
          rw [upd_same] at this
          exact this
      refine ⟨Or.inl rfl, hi, fun x hx => ?_, hc, fun r a hr ha hh => had_upd hi hto hc (fun b hb => forget_or (mem_insM.2 (Or.inr hb))) hr ha hh, fun q' f' e' => ?_, fun q' v' e' => (by cases e'), fun r q' o hr hq' ho => ?_, Or.inr ⟨passM_length, f, hf, hh, hnow⟩⟩
      · obtain ⟨h1, h2, h3, h4⟩ := mem_passM hx
        rw [h1]
        exact ⟨hf, h2, hto, h3, h4⟩
      · cases e'
        exact hnow
      · by_cases e' : r = to
        · subst e'
          by_cases e2 : q' = r
          · subst e2
            exact hc q' o hr ho
          · rw [upd_same]
            have hcl := (h.ok r hr).clk.lows (h.sok f hf).lt (x := f.low) (by have := (h.sok f hf).low; have := (h.sok f hf).seq; omega)
            have hst : ∀ a ∈ insM (nd r).st f, a.Ok g := fun a ha => by
              rcases mem_insM.1 ha with rfl | ha
              · exact h.sok _ hf
              · exact (h.ok r hr).st a ha
            have hsa : ∀ a ∈ insM (nd r).st f, a ∈ said := fun a ha => by
              rcases mem_insM.1 ha with rfl | ha
              · exact hf
              · exact h.st r hr a ha
            have := (run_facts hto hst hsa ((nd r).st.length + 1) hcl.1 (h.heard r hr)).2.1 q' o e2
            show _ ≤ vw ((nd r).ran g r f).1 q' o
            refine Int.le_trans ?_ (Int.le_of_eq this.symm)
            rw [vw_vlow (h.ok r hr).clk.shp (h.sok f hf).lt _ _ (Nat.le_refl _)]
            split <;> omega
        · rw [upd_other _ _ _ e']
          exact Int.le_refl _
    · have e : (nd to).hearM g to (.data q f) = (7, [], nd to) := by
        show (if q = to ∨ f.org = to then _ else _) = _
        rw [if_neg (fun c => c.elim (fun c => hne c.symm) hno), if_neg (by omega), hk]
      rw [e]
      show Step g nd (upd nd to (nd to)) said to (.data q f) 7 []
      rw [upd_self]
      exact ⟨Or.inr rfl, h, fun x hx => (by cases hx), fun _ _ _ _ => Int.le_refl _, fun _ _ _ _ h => h, fun q' f' e' => (by cases e'; exact hh), fun _ _ e' => (by cases e'), fun _ _ _ _ _ _ => Int.le_refl _, Or.inl rfl⟩
end Go.Proofs.YtabecbjfamphbaaGreatDoor

/- Rounds as plain data: all nodes tick, then all packets are delivered. -/
namespace Go.Proofs.YtabecbjfamphbaaGreatDoor

def total (n : Nat) (c : Nat → Nat) : Nat := ((List.range n).map c).sum
theorem total_succ (n : Nat) (c : Nat → Nat) : total (n + 1) c = total n c + c n := by
  unfold total
  rw [List.range_succ, List.map_append, List.sum_append]
  simp
theorem total_mono {n : Nat} {c d : Nat → Nat} (h : ∀ q, q < n → c q ≤ d q) : total n c ≤ total n d := by
  induction n with
  | zero => exact Nat.le_refl _
  | succ n ih =>
    rw [total_succ, total_succ]
    have := ih (fun q hq => h q (by omega))
    have := h n (by omega)
    omega
theorem total_lt {n : Nat} {c d : Nat → Nat} (h : ∀ q, q < n → c q ≤ d q) {p : Nat} (hp : p < n) (hl : c p < d p) : total n c < total n d := by
  induction n with
  | zero => omega
  | succ n ih =>
    rw [total_succ, total_succ]
    by_cases e : p = n
    · subst e
      have := total_mono (fun q hq => h q (by omega)) (n := p)
      omega
    · have := ih (fun q hq => h q (by omega)) (by omega)
      have := h n (by omega)
      omega
theorem total_le {n m : Nat} {c : Nat → Nat} (h : ∀ q, q < n → c q ≤ m) : total n c ≤ n * m := by
  induction n with
  | zero => simp [total]
  | succ n ih =>
    rw [total_succ, Nat.succ_mul]
    have := ih (fun q hq => h q (by omega))
    have := h n (by omega)
    omega
/-- How many words nodes lack. -/
noncomputable def lack (nd : Nat → NS) (said : List Fm) (q : Nat) : Nat := said.countP (fun f => @decide (¬ Had nd q f) (Classical.propDecidable _))
noncomputable def lacks (g : Gr) (nd : Nat → NS) (said : List Fm) : Nat := total g.n (lack nd said)
theorem lacks_le (g : Gr) (nd : Nat → NS) (said : List Fm) : lacks g nd said ≤ g.n * said.length := total_le (fun _ _ => List.countP_le_length)
theorem Step.pot {g : Gr} {nd nd' : Nat → NS} {said : List Fm} {to : Nat} {m : Msg} {k : Nat} {new : List (Nat × Msg)} (h : Step g nd nd' said to m k new) (hto : to < g.n) : new.length + g.n * lacks g nd' said ≤ g.n * lacks g nd said := by
  have hle : ∀ q, q < g.n → lack nd' said q ≤ lack nd said q := fun q hq => by
    unfold lack
    refine List.countP_mono_left (fun f hf hd => ?_)
    have h1 : ¬ Had nd' q f := @of_decide_eq_true _ (Classical.propDecidable _) hd
    exact @decide_eq_true _ (Classical.propDecidable _) (fun hc => h1 (h.had q f hq hf hc))
  rcases h.few with e | ⟨hl, f, hf, h1, h2⟩
  · rw [e]
    have := Nat.mul_le_mul_left g.n (total_mono hle)
    unfold lacks
    simp
    exact this
  · have hlt : lack nd' said to < lack nd said to := by
      unfold lack
      refine countP_less _ _ said (fun a ha hd => ?_) f hf ?_ ?_
      · have h3 : ¬ Had nd' to a := @of_decide_eq_true _ (Classical.propDecidable _) hd
        exact @decide_eq_true _ (Classical.propDecidable _) (fun hc => h3 (h.had to a hto ha hc))
      · exact @decide_eq_true _ (Classical.propDecidable _) h1
      · exact @decide_eq_false _ (Classical.propDecidable _) (fun hc => hc h2)
    have h3 : lacks g nd' said + 1 ≤ lacks g nd said := total_lt hle hto hlt
    have h4 := Nat.mul_le_mul_left g.n h3
    rw [Nat.mul_add, Nat.mul_one] at h4
    omega
theorem mem_erase {α : Type} {l : List α} {k : Nat} {x y : α} (hk : l[k]? = some y) (hx : x ∈ l) : x ∈ l.eraseIdx k ∨ x = y := by
  obtain ⟨i, hi⟩ := List.mem_iff_getElem?.1 hx
  by_cases e : i = k
  · subst e
    rw [hk] at hi
    exact Or.inr (Option.some.inj hi).symm
  · refine Or.inl ?_
    rw [List.mem_iff_getElem?]
    rcases Nat.lt_or_ge i k with h | h
    · exact ⟨i, by rw [List.getElem?_eraseIdx_of_lt h]; exact hi⟩
    · exact ⟨i - 1, by rw [List.getElem?_eraseIdx_of_ge (by omega), show i - 1 + 1 = i by omega]; exact hi⟩
/-- The packets of a tick. -/
def tickM (g : Gr) (p : Nat) (s : NS) : List (Nat × Msg) := (List.range g.n).flatMap (fun (q : Nat) => if q = p then [] else ((s.st.filter (fun f => decide (f.org ≠ (q : Int) ∧ vw s.vs q f.org.toNat < f.seq))).map (fun f => (q, Msg.data p f))) ++ [(q, .state p (s.vs.getD p []))])
theorem tick_good {g : Gr} {nd : Nat → NS} {said : List Fm} (h : Inv g nd said) {p : Nat} (hp : p < g.n) : ∀ x ∈ tickM g p (nd p), GoodP g nd said x.1 x.2 := by
  intro x hx
  obtain ⟨q, hq, hx⟩ := List.mem_flatMap.1 hx
  have hq' := List.mem_range.1 hq
  by_cases e : q = p
  · rw [if_pos e] at hx
    cases hx
  · rw [if_neg e] at hx
    rcases List.mem_append.1 hx with hx | hx
    · obtain ⟨f, hf, rfl⟩ := List.mem_map.1 hx
      obtain ⟨h1, h2⟩ := List.mem_filter.1 hf
      exact ⟨h.st p hp f h1, hq', hp, e, (of_decide_eq_true h2).1⟩
    · rw [List.mem_singleton.1 hx]
      exact ⟨hq', hp, e, (h.ok p hp).clk.shp.elen p hp, fun o ho => ⟨((h.ok p hp).clk.bd p o hp ho).1, Int.le_refl _⟩⟩
/-- The net as data: nodes, packets. -/
structure Net (g : Gr) (nd : Nat → NS) (bag : List (Nat × Msg)) (said : List Fm) : Prop where
  inv : Inv g nd said
  good : ∀ x ∈ bag, GoodP g nd said x.1 x.2
theorem Net.deliver {g : Gr} {nd : Nat → NS} {bag : List (Nat × Msg)} {said : List Fm} (h : Net g nd bag said) {k to : Nat} {m : Msg} (hk : bag[k]? = some (to, m)) :
    Step g nd (upd nd to ((nd to).hearM g to m).2.2) said to m ((nd to).hearM g to m).1 ((nd to).hearM g to m).2.1 ∧ Net g (upd nd to ((nd to).hearM g to m).2.2) (bag.eraseIdx k ++ ((nd to).hearM g to m).2.1) said := by
  have hg := h.good (to, m) (List.mem_of_getElem? hk)
  have hs := h.inv.hears hg
  refine ⟨hs, hs.inv, fun x hx => ?_⟩
  rcases List.mem_append.1 hx with hx | hx
  · exact (h.good x (List.mem_of_mem_eraseIdx hx)).mono (fun _ h => h) hs.clk
  · exact hs.good x hx
theorem GoodP.to {g : Gr} {nd : Nat → NS} {said : List Fm} {to : Nat} {m : Msg} (h : GoodP g nd said to m) : to < g.n := by
  cases m with
  | data q f => exact h.2.1
  | state q v => exact h.1
/-- Every word that a node lacks is on its way to it. -/
def Pend1 (g : Gr) (nd : Nat → NS) (bag : List (Nat × Msg)) (said : List Fm) : Prop := ∀ q f, q < g.n → f ∈ said → Had nd q f ∨ ∃ fr, (q, Msg.data fr f) ∈ bag
/-- Every node knows of every other what it has heard, or that is on its way to it. -/
def Pend2 (g : Gr) (nd : Nat → NS) (bag : List (Nat × Msg)) (C : Nat → Nat → Int) : Prop := ∀ p q, p < g.n → q < g.n → p ≠ q → (∀ o, o < g.n → C p o ≤ vw (nd q).vs p o) ∨ ∃ v, (q, Msg.state p v) ∈ bag ∧ ∀ o, o < g.n → C p o ≤ v.getD o 0
theorem Pend1.step {g : Gr} {nd nd' : Nat → NS} {bag : List (Nat × Msg)} {said : List Fm} (h : Pend1 g nd bag said) {k to : Nat} {m : Msg} {j : Nat} {new : List (Nat × Msg)} (hk : bag[k]? = some (to, m)) (hs : Step g nd nd' said to m j new) : Pend1 g nd' (bag.eraseIdx k ++ new) said := fun q f hq hf => by
  rcases h q f hq hf with h1 | ⟨fr, h1⟩
  · exact Or.inl (hs.had q f hq hf h1)
  · rcases mem_erase hk h1 with h2 | h2
    · exact Or.inr ⟨fr, List.mem_append_left _ h2⟩
    · injection h2 with e1 e2
      subst e1
      exact Or.inl (hs.now fr f e2.symm)
theorem Pend2.step {g : Gr} {nd nd' : Nat → NS} {bag : List (Nat × Msg)} {said : List Fm} {C : Nat → Nat → Int} (h : Pend2 g nd bag C) {k to : Nat} {m : Msg} {j : Nat} {new : List (Nat × Msg)} (hk : bag[k]? = some (to, m)) (hs : Step g nd nd' said to m j new) : Pend2 g nd' (bag.eraseIdx k ++ new) C := fun p q hp hq hpq => by
  rcases h p q hp hq hpq with h1 | ⟨v, h1, hv⟩
  · exact Or.inl (fun o ho => Int.le_trans (h1 o ho) (hs.views q p o hq hp ho))
  · rcases mem_erase hk h1 with h2 | h2
    · exact Or.inr ⟨v, List.mem_append_left _ h2, hv⟩
    · injection h2 with e1 e2
      subst e1
      exact Or.inl (fun o ho => Int.le_trans (hv o ho) (hs.told p v e2.symm o ho))
/-- Behind the ticks of all nodes. -/
theorem tick_pend {g : Gr} {nd : Nat → NS} {bag : List (Nat × Msg)} {said : List Fm} (h : Inv g nd said) (hb : ∀ p, p < g.n → ∀ x ∈ tickM g p (nd p), x ∈ bag) : Pend1 g nd bag said ∧ Pend2 g nd bag (clk nd) := by
  refine ⟨fun q f hq hf => ?_, fun p q hp hq hpq => Or.inr ⟨(nd p).vs.getD p [], hb p hp _ ?_, fun o _ => Int.le_refl _⟩⟩
  · rcases Int.lt_or_le (clk nd q f.org.toNat) f.seq with h1 | h1
    · obtain ⟨h2, h3⟩ := h.lacks hq hf h1
      have hl := (h.sok f hf).lt
      have ho := (h.sok f hf).org_eq
      have hne : q ≠ f.org.toNat := fun e => by
        have := h.top f hf
        rw [← e] at this h1
        omega
      refine Or.inr ⟨f.org.toNat, hb _ hl _ (List.mem_flatMap.2 ⟨q, List.mem_range.2 hq, ?_⟩)⟩
      rw [if_neg hne]
      exact List.mem_append_left _ (List.mem_map.2 ⟨f, List.mem_filter.2 ⟨h2, decide_eq_true ⟨by omega, h3⟩⟩, rfl⟩)
    · exact Or.inl (Or.inl h1)
  · refine List.mem_flatMap.2 ⟨q, List.mem_range.2 hq, ?_⟩
    rw [if_neg (fun e => hpq e.symm)]
    simp
/-- No packet is left: all have heard all. -/
theorem round1 {g : Gr} {nd : Nat → NS} {said : List Fm} (h : Inv g nd said) (hp : Pend1 g nd [] said) : (∀ p f, p < g.n → f ∈ said → f.seq ≤ clk nd p f.org.toNat) ∧ ∀ p o, p < g.n → o < g.n → clk nd p o = clk nd o o := by
  have h1 : ∀ p f, p < g.n → f ∈ said → f.seq ≤ clk nd p f.org.toNat := fun p f hp' hf => by
    obtain ⟨i, hi⟩ := List.mem_iff_getElem?.1 hf
    exact h.settled hp' (fun a ha => by
      rcases hp p a hp' ha with h2 | ⟨_, h2⟩
      · exact h2
      · cases h2) i f hi
  refine ⟨h1, fun p o hp' ho => Int.le_antisymm (h.le_top hp' ho) ?_⟩
  rcases Int.lt_or_le (clk nd o o) 1 with h2 | h2
  · have := ((h.ok p hp').clk.bd p o hp' ho).1
    show clk nd o o ≤ vw (nd p).vs p o
    omega
  · obtain ⟨f, hf, e1, e2⟩ := h.has o ho _ h2 (Int.le_refl _)
    have := h1 p f hp' hf
    rw [show f.org.toNat = o by omega] at this
    omega
/-- .. and once more: no store keeps a word. -/
theorem round2 {g : Gr} {nd : Nat → NS} {said : List Fm} (h : Inv g nd said) {C : Nat → Nat → Int} (hC : ∀ p f, p < g.n → f ∈ said → f.seq ≤ C p f.org.toNat) (hc : ∀ p o, p < g.n → o < g.n → C p o ≤ clk nd p o) (hL : ∀ p o, p < g.n → o < g.n → C p o ≤ g.L) (hp : Pend2 g nd [] C) : ∀ p, p < g.n → (nd p).st = [] ∧ g.low (nd p).vs p = clk nd p p := by
  intro p hp'
  have hv : ∀ q o, q < g.n → o < g.n → C q o ≤ vw (nd p).vs q o := fun q o hq ho => by
    by_cases e : q = p
    · subst e
      exact hc q o hq ho
    · rcases hp q p hq hp' e with h1 | ⟨_, h1, _⟩
      · exact h1 o ho
      · cases h1
  have hlow : ∀ f ∈ said, f.seq ≤ g.low (nd p).vs f.org.toNat := fun f hf => by
    have hl := (h.sok f hf).lt
    exact le_lowTo _ _ _ _ _ (Int.le_trans (hC p f hp' hf) (hL p _ hp' hl)) (fun q hq => Int.le_trans (hC q f hq hf) (hv q _ hq hl))
  refine ⟨?_, ?_⟩
  · cases e : (nd p).st with
    | nil => rfl
    | cons f st =>
      have hf : f ∈ (nd p).st := by rw [e]; exact List.mem_cons_self
      have h1 := ((h.ok p hp').win f hf).1
      have h2 := hlow f (h.st p hp' f hf)
      omega
  · refine Int.le_antisymm (lowTo_le _ _ _ _ _ hp') ?_
    rcases Int.lt_or_le (clk nd p p) 1 with h2 | h2
    · refine Int.le_trans ?_ (le_lowTo _ _ 0 _ _ ?_ (fun q hq => ((h.ok p hp').clk.bd q p hq hp').1))
      · omega
      · have := ((h.ok p hp').clk.bd p p hp' hp')
        omega
    · obtain ⟨f, hf, e1, e2⟩ := h.has p hp' _ h2 (Int.le_refl _)
      have := hlow f hf
      rw [show f.org.toNat = p by omega] at this
      omega
end Go.Proofs.YtabecbjfamphbaaGreatDoor

/- Packets as texts, and as what they hold. -/
namespace Go.Proofs.YtabecbjfamphbaaGreatDoor
open Go.RowKit Go.Stop Go.Extern

/-- A message that has a text. -/
def Msg.Ok (g : Gr) : Msg → Prop
  | .data q f => q < g.n ∧ f.Ok g
  | .state q v => q < g.n ∧ v.length = g.n ∧ ∀ o, o < g.n → 0 ≤ v.getD o 0 ∧ v.getD o 0 ≤ g.L
def Msg.text (g : Gr) : Msg → ByteArray
  | .data q f => textM g q f
  | .state q v => stateM g q v
def encP (g : Gr) (x : Nat × Msg) : Pk := ⟨(x.1 : Int), x.2.text g⟩
theorem forall_getD {l : List Int} {n : Nat} {P : Int → Prop} (hl : l.length = n) (h : ∀ i, i < n → P (l.getD i 0)) : ∀ v ∈ l, P v := fun v hv => by
  obtain ⟨i, hi, rfl⟩ := List.mem_iff_getElem.1 hv
  have := h i (by omega)
  rw [List.getD_eq_getElem?_getD, List.getElem?_eq_getElem hi] at this
  exact this
theorem fits_data {g : Gr} {q : Nat} {f : Fm} (hq : q < g.n) (hf : f.Ok g) : Fits g.n g.W g.B g.L 1 q f.org f.seq f.low f.vec f.body := by
  have h1 := hf.lt
  have h2 := hf.org_eq
  have h3 := hf.seq
  have h4 := hf.low
  have h5 := hf.len
  exact ⟨by omega, by omega, by omega, forall_getD hf.len hf.vec, Or.inr ⟨rfl, by omega, by omega, h3.1, h3.2, h4.1, h4.2.1, h4.2.2, hf.own, hf.body⟩⟩
theorem fits_state {g : Gr} {q : Nat} {v : List Int} (hq : q < g.n) (hl : v.length = g.n) (hv : ∀ o, o < g.n → 0 ≤ v.getD o 0 ∧ v.getD o 0 ≤ g.L) : Fits g.n g.W g.B g.L 2 q 0 0 0 v ⟨#[]⟩ :=
  ⟨by omega, by omega, by omega, forall_getD hl hv, Or.inl ⟨rfl, rfl, rfl, rfl, rfl⟩⟩
theorem enc_fits {g : Gr} (hg : g.Ok) {K F O S Lw : Int} {vs : List Int} {body : ByteArray} (h : Fits g.n g.W g.B g.L K F O S Lw vs body) : encR g.n g.W g.B g.L K F O S Lw vs body = (frameBytes g.n K F O S Lw vs body, 0) := by
  unfold encR
  rw [if_pos hg.okG, if_pos (of_fits h)]
theorem textM_eq {g : Gr} (hg : g.Ok) {q : Nat} {f : Fm} (hq : q < g.n) (hf : f.Ok g) : textM g q f = txt (frameBytes g.n 1 q f.org f.seq f.low f.vec f.body) := by
  unfold textM
  rw [enc_fits hg (fits_data hq hf)]
theorem stateM_eq {g : Gr} (hg : g.Ok) {q : Nat} {v : List Int} (hq : q < g.n) (hl : v.length = g.n) (hv : ∀ o, o < g.n → 0 ≤ v.getD o 0 ∧ v.getD o 0 ≤ g.L) : stateM g q v = txt (frameBytes g.n 2 q 0 0 0 v ⟨#[]⟩) := by
  unfold stateM
  rw [enc_fits hg (fits_state hq hl hv)]
theorem text_read {g : Gr} (hg : g.Ok) {m : Msg} (hm : m.Ok g) : rAll g.n g.W g.B g.L (m.text g) = none ∧ (m.text g).size ≤ 100 ∧ 9 + 2 * g.n ≤ (m.text g).size := by
  have hn := hg.n
  cases m with
  | data q f =>
    have h1 := read_data hg.okG (fits_data hm.1 hm.2)
    have hb := hm.2.body
    have hB := hg.B
    show rAll g.n g.W g.B g.L (textM g q f) = none ∧ (textM g q f).size ≤ 100 ∧ _
    rw [textM_eq hg hm.1 hm.2]
    refine ⟨h1.1, ?_, ?_⟩
    · rw [h1.2.2.2.2.2.2.2.2]; omega
    · show _ ≤ (textM g q f).size
      rw [textM_eq hg hm.1 hm.2, h1.2.2.2.2.2.2.2.2]; omega
  | state q v =>
    have h1 := read_state hg.okG (fits_state hm.1 hm.2.1 hm.2.2)
    show rAll g.n g.W g.B g.L (stateM g q v) = none ∧ (stateM g q v).size ≤ 100 ∧ _
    rw [stateM_eq hg hm.1 hm.2.1 hm.2.2]
    refine ⟨h1.1, ?_, ?_⟩
    · rw [h1.2.2.2.2]; omega
    · show _ ≤ (stateM g q v).size
      rw [stateM_eq hg hm.1 hm.2.1 hm.2.2, h1.2.2.2.2]; omega
theorem passL_enc (g : Gr) (p : Nat) (f : Fm) (fr : Nat) : passL (textM g p f) p f.org fr g.n = (passM g p f fr).map (encP g) := by
  unfold passL passM
  rw [List.map_map]
  have : ((List.range g.n).filter (fun (q : Nat) => decide ((q : Int) ≠ (p : Int) ∧ (q : Int) ≠ f.org ∧ (q : Int) ≠ (fr : Int)))) = ((List.range g.n).filter (fun (q : Nat) => decide (q ≠ p ∧ (q : Int) ≠ f.org ∧ q ≠ fr))) := by
    apply List.filter_congr
    intro q _
    rw [decide_eq_decide]
    constructor
    · rintro ⟨h1, h2, h3⟩; exact ⟨by omega, h2, by omega⟩
    · rintro ⟨h1, h2, h3⟩; exact ⟨by omega, h2, by omega⟩
  rw [this]
  rfl
/-- A text is heard as what it holds. -/
theorem hear_text {g : Gr} (hg : g.Ok) {p : Nat} {s : NS} {m : Msg} (hm : m.Ok g) : s.hear g p (m.text g) = ⟨(s.hearM g p m).1, (s.hearM g p m).2.1.map (encP g), (s.hearM g p m).2.2⟩ := by
  cases m with
  | data q f =>
    obtain ⟨r1, r2, r3, r4, r5, r6, r7, r8, r9⟩ := read_data hg.okG (fits_data hm.1 hm.2)
    show s.hear g p (textM g q f) = _
    rw [textM_eq hg hm.1 hm.2]
    generalize txt (frameBytes g.n 1 q f.org f.seq f.low f.vec f.body) = t at *
    have hd : dataOf g.n t = f := by
      unfold dataOf
      rw [r4, r5, r6, r7, r8]
    have h4 : byt t 4 = q := by omega
    have h5 : ((byt t 5 : Nat) : Int) = f.org := r4
    unfold NS.hear
    rw [r1]
    simp only
    rw [if_pos r2, hd, h4, h5]
    by_cases hqp : q = p
    · rw [if_pos hqp, show s.hearM g p (.data q f) = (6, [], s) from if_pos (Or.inl hqp)]
      rfl
    · rw [if_neg hqp]
      by_cases hop : f.org = p
      · rw [if_pos (show byt t 5 = p by omega), show s.hearM g p (.data q f) = (6, [], s) from if_pos (Or.inr hop)]
        rfl
      · rw [if_neg (show ¬ byt t 5 = p by omega)]
        by_cases hk : s.newK g p f = 0
        · rw [if_pos hk, show s.hearM g p (.data q f) = (0, passM g p f q, s.got g p f) from (if_neg (fun c => c.elim hqp hop)).trans (if_pos hk)]
          simp only
          rw [← passL_enc]
        · rw [if_neg hk, show s.hearM g p (.data q f) = (s.newK g p f, [], s) from (if_neg (fun c => c.elim hqp hop)).trans (if_neg hk)]
          rfl
  | state q v =>
    obtain ⟨r1, r2, r3, r4, r5⟩ := read_state hg.okG (fits_state hm.1 hm.2.1 hm.2.2)
    show s.hear g p (stateM g q v) = _
    rw [stateM_eq hg hm.1 hm.2.1 hm.2.2]
    generalize txt (frameBytes g.n 2 q 0 0 0 v ⟨#[]⟩) = t at *
    have h4 : byt t 4 = q := by omega
    unfold NS.hear
    rw [r1]
    simp only
    rw [if_neg (show ¬ byt t 2 = 1 by omega), h4, r4]
    by_cases hqp : q = p
    · rw [if_pos hqp, show s.hearM g p (.state q v) = (6, [], s) from if_pos hqp]
      rfl
    · rw [if_neg hqp, show s.hearM g p (.state q v) = (0, [], s.told g q v) from if_neg hqp]
      rfl
theorem tick_enc (g : Gr) (p : Nat) (s : NS) : s.tick g p = (tickM g p s).map (encP g) := by
  have h : ∀ k, tickTo g p s k = ((List.range k).flatMap (fun (q : Nat) => if q = p then [] else ((s.st.filter (fun f => decide (f.org ≠ (q : Int) ∧ vw s.vs q f.org.toNat < f.seq))).map (fun f => (q, Msg.data p f))) ++ [(q, .state p (s.vs.getD p []))])).map (encP g) := fun k => by
    induction k with
    | zero => rfl
    | succ k ih =>
      rw [List.range_succ, List.flatMap_append, List.map_append, ← ih]
      rw [show tickTo g p s (k + 1) = if k = p then tickTo g p s k else tickTo g p s k ++ tickW g p s.vs k s.st ++ [⟨(k : Int), stateM g p (s.vs.getD p [])⟩] from rfl]
      simp only [List.flatMap_cons, List.flatMap_nil, List.append_nil]
      by_cases e : k = p
      · rw [if_pos e, if_pos e]
        exact (List.append_nil _).symm
      · rw [if_neg e, if_neg e, List.append_assoc]
        congr 1
        rw [List.map_append, List.map_map]
        rfl
  exact h g.n
theorem GoodP.msg {g : Gr} {nd : Nat → NS} {said : List Fm} {to : Nat} {m : Msg} (hi : Inv g nd said) (h : GoodP g nd said to m) : m.Ok g := by
  cases m with
  | data q f => exact ⟨h.2.2.1, hi.sok f h.1⟩
  | state q v => exact ⟨h.2.1, h.2.2.2.1, fun o ho => ⟨(h.2.2.2.2 o ho).1, Int.le_trans (h.2.2.2.2 o ho).2 ((hi.ok q h.2.1).clk.bd q o h.2.1 ho).2⟩⟩
end Go.Proofs.YtabecbjfamphbaaGreatDoor
