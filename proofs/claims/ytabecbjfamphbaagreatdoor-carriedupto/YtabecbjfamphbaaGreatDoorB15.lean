/-
  Texts that the proofs of this seat share, joined: Tk, Nx.
-/
import Derived.Test.YtabecbjfamphbaaGreatDoorB03
import Derived.Test.YtabecbjfamphbaaGreatDoorB04
import Derived.Deep.AppendLies
import Derived.Deep.RegionLaw
import Derived.Deep.RegionHeld3
import Derived.Deep.RegionHeldLaw
/- The node's take: a word is heard. -/
namespace Go.Proofs.YtabecbjfamphbaaGreatDoor
open Go.RowKit Go.Stop Go.Extern

def Wd.cells (x : Wd) : List Value := [.int .i64 x.org, .int .i64 x.seq, .string x.body]
def wrow (hs : List Wd) : List Value := hs.flatMap Wd.cells
theorem wrow_append (a b : List Wd) : wrow (a ++ b) = wrow a ++ wrow b := by simp [wrow]
def Fr.word (f : Fr) : Wd := ⟨f.org, f.seq, f.body⟩
/-- The words that were heard, in memory. -/
structure Wds (w : World) (ha : Option Addr) (len cap : Nat) (hs : List Wd) : Prop where
  wlen : hs.length = len
  own : w.ownsRow 0 89 3 (.slice ha len cap) len (wrow hs)
theorem Wds.alike {w w' : World} {ad : Option Addr} {len cap : Nat} {hs : List Wd} {E : Nat → Prop} (h : Wds w ad len cap hs) (ha : Alike w w' E) (hE : ∀ g off, ad = some ⟨g, off, none⟩ → ¬ E g) : Wds w' ad len cap hs := by
  refine ⟨h.wlen, h.own.1, ?_⟩
  rcases h.own.2 with h | ⟨g, cap', cur, he, hg, hh, hr⟩
  · exact Or.inl h
  · cases he
    exact Or.inr ⟨g, cap, cur, rfl, hg, (ha.block g (lt_of_some hh) (hE g 0 rfl)).trans hh, hr⟩
theorem off_ha {w : World} {ha : Option Addr} {hlen hcap : Nat} {hs : List Wd} (hr : Wds w ha hlen hcap hs) {k : Nat} {cur : Array Value} {t : TypeId} {fz : Nat × Nat} (hk : w.heap[k]? = some (.cells cur t fz)) (ht : t ≠ 89) : ¬ onB ha k := by
  rintro ⟨off, rfl⟩
  rcases hr.own.2 with ⟨he, _⟩ | ⟨g, cap', cur', he, _, hh, _⟩
  · cases he
  · cases he
    exact ty_ne hk hh ht rfl
/-- What was heard is one longer, and little else is another. -/
structure TookIn (w w' : World) (b gp : Nat) (ha : Option Addr) (hs : List Wd) : Prop where
  how : ∃ ha' hcap', w'.cell? ⟨b, 7, none⟩ = some (.slice ha' hs.length hcap') ∧ Wds w' ha' hs.length hcap' hs ∧ ∀ k off, ha' = some ⟨k, off, none⟩ → onB ha k ∨ w.heap.size ≤ k
  rest : Alike w w' (fun k => k = b ∨ k = gp ∨ onB ha k)
  others : ∀ i v, i ≠ 7 → w.cell? ⟨b, i, none⟩ = some v → w'.cell? ⟨b, i, none⟩ = some v
  ty : ∃ cur, w'.heap[b]? = some (.cells cur 149 (0, 0))
theorem took_in {w Y Z w1 : World} {b gp g cap hlen hcap gv n : Nat} {rows : List Nat} {vs : List (List Int)} {ha : Option Addr} {hs : List Wd} {x : Wd} {u : Value} (ht : ∃ cur, w.heap[b]? = some (.cells cur 149 (0, 0))) (hbgp : b ≠ gp) (hwd : Wds w ha hlen hcap hs)
    (hwY : Alike w Y (fun k => k = gp)) (hYZ : Below Y.heap.size Y Z) (hgr : Z.grownBy w1 (Value.slice ha hlen hcap).ownBlock) (hat : (Value.slice ha hlen hcap).ownBlock = some g ∨ g = Z.heap.size)
    (how : w1.ownsRow 0 89 3 (.slice (some ⟨g, 0, none⟩) (hlen + 1) cap) (hlen + 1) (wrow hs ++ x.cells)) (hc : w1.cell? ⟨b, 7, none⟩ = some u) (hv : NVw Y gv n rows vs) (hgp : ∃ cur t, w.heap[gp]? = some (.cells cur t (0, 0)) ∧ t ≠ 89) :
    TookIn w (w1.setCell ⟨b, 7, none⟩ (.slice (some ⟨g, 0, none⟩) (hlen + 1) cap)) b gp ha (hs ++ [x]) ∧ NVw (w1.setCell ⟨b, 7, none⟩ (.slice (some ⟨g, 0, none⟩) (hlen + 1) cap)) gv n rows vs := by
  obtain ⟨cur, ht⟩ := ht
  obtain ⟨cg, tg, hgp, htg⟩ := hgp
  have hbl := lt_of_some ht
  have hsz := hYZ.size
  have hsz2 := hwY.size
  have hnb : ¬ onB ha b := off_ha hwd ht (by decide)
  have hngp : ¬ onB ha gp := off_ha hwd hgp htg
  have hrow : ∀ k, (Value.slice ha hlen hcap).ownBlock = some k → onB ha k := fun k hk => by
    rcases hwd.own.2 with ⟨he, _⟩ | ⟨g', cap', cur', he, _, _, _⟩
    · rw [he] at hk; cases hk
    · cases he
      cases hk
      exact ⟨0, rfl⟩
  have hg1 : Alike Z w1 (onB ha) := (Alike.refl Z _).trans (Alike.of_grown hgr) (fun k _ h => hrow k h)
  have hY1 : Alike Y w1 (onB ha) := (Alike.of_below hYZ _).trans hg1 (fun _ _ h => h)
  have htY : Y.heap[b]? = some (.cells cur 149 (0, 0)) := (hwY.block b hbl hbgp).trans ht
  have hty : w1.heap[b]? = some (.cells cur 149 (0, 0)) := (hY1.block b (by omega) hnb).trans htY
  have hset := Alike.setCell w1 ⟨b, 7, none⟩ (.slice (some ⟨g, 0, none⟩) (hlen + 1) cap)
  have hwdY : Wds Y ha hlen hcap hs := hwd.alike hwY (fun k off hk (he : k = gp) => hngp ⟨off, by rw [hk, he]⟩)
  have hgn : onB ha g ∨ Z.heap.size ≤ g := by
    rcases hat with h | h
    · exact Or.inl (hrow g h)
    · exact Or.inr (by omega)
  have hgb : g ≠ b := fun h => by
    subst h
    rcases hgn with h | h
    · exact hnb h
    · omega
  have hwl : (hs ++ [x]).length = hlen + 1 := by simp [hwd.wlen]
  have hW1 : Wds w1 (some ⟨g, 0, none⟩) (hlen + 1) cap (hs ++ [x]) := ⟨hwl, by rw [wrow_append]; simpa [wrow] using how⟩
  have hbgv : gv ≠ b := by
    obtain ⟨c, h⟩ := hv.ty
    exact ty_ne h htY (by decide)
  refine ⟨⟨⟨some ⟨g, 0, none⟩, cap, ?_, ?_, fun k off hk => ?_⟩, ?_, fun i v hi hvv => ?_, ⟨_, heap_setCell_same w1 b 7 cur _ _ hty⟩⟩, ?_⟩
  · rw [hwl]; go_simp
  · rw [hwl]
    refine hW1.alike hset (fun k off hk he => ?_)
    cases hk
    exact hgb he
  · cases hk
    rcases hgn with h | h
    · exact Or.inl h
    · exact Or.inr (by omega)
  · exact (((Alike.refl w _).trans hwY (fun k _ h => Or.inr (Or.inl h))).trans hY1 (fun k _ h => Or.inr (Or.inr h))).trans hset (fun k _ h => Or.inl h)
  · have h1 : w1.cell? ⟨b, i, none⟩ = some v := hY1.cell (hwY.cell hvv hbgp) hnb
    have hi' : ¬ i = 7 := hi
    have hi2 : ¬ 7 = i := fun h => hi h.symm
    go_simp
  · refine (hv.alike hY1 ?_ ?_).alike hset hbgv ?_
    · obtain ⟨c, h⟩ := hv.ty
      exact off_ha hwdY h (by decide)
    · exact fun q hq => off_ha hwdY (hv.each q hq) (by decide)
    · exact fun q hq => ty_ne (hv.each q hq) htY (by decide)

theorem Tryz.wordInfo : (Tryz.prog.info? 89).map (fun i => (i.zero, i.size, i.bytes)) = some (some (.agg #[.int .i64 0, .int .i64 0, .string ⟨#[]⟩]), 3, 32) := by kernel_rfl

set_option maxRecDepth 100000 in
set_option maxHeartbeats 1000000 in
theorem wordOf_any (n : Nat) (f : Fr) (w : World) : Calls Tryz.prog 100 #[Fr.agg n f] w fun e w' => e = .returned (.agg #[.int .i64 f.org, .int .i64 f.seq, .string f.body]) ∧ Below w.heap.size w w' := by
  unfold Fr.agg
  go_enter Tryz.func100, Tryz.ntmps100
  go_wp2_with fail
  refine bodyPost_ret (v := .agg #[.int .i64 f.org, .int .i64 f.seq, .string f.body]) (by simp [results, Tryz.results100, go_sem]) rfl ⟨rfl, below2 _ _ _⟩

set_option maxRecDepth 100000 in
set_option maxHeartbeats 2000000 in
theorem take_any (b n : Nat) (W B L : Int) (p gv : Nat) (rows : List Nat) (vs : List (List Int)) (ha : Option Addr) (hlen hcap : Nat) (hs : List Wd) (f : Fr) (o : Nat) (ho : f.org = o) (hon : o < n) (hp : p < n) (w : World) (hb : NB w b n W B L p gv) (hv : NVw w gv n rows vs) (h7 : w.cell? ⟨b, 7, none⟩ = some (.slice ha hlen hcap)) (hw : Wds w ha hlen hcap hs) (hl : hlen ≤ 1000000) :
    Calls Tryz.prog 150 #[.pointer (some ⟨b, 0, none⟩), Fr.agg n f] w fun e w' => e = .returned (.tuple #[]) ∧ TookIn w w' b (rows.getD p 0) ha (hs ++ [f.word]) ∧ NVw w' gv n rows (vset vs p o f.seq) := by
  have HTY : Hid (∃ cur, w.heap[b]? = some (.cells cur 149 (0, 0))) := hb.ty
  have HGP : Hid (∃ cur t, w.heap[rows.getD p 0]? = some (.cells cur t (0, 0)) ∧ t ≠ 89) := ⟨_, _, hv.each p hp, by decide⟩
  obtain ⟨kd, fm, org, seq, lo, ad, cp, vec, body⟩ := f
  simp only at ho
  subst ho
  have hal := below1 w (.cells #[.int .i64 kd, .int .i64 fm, .int .i64 (o : Int), .int .i64 seq, .int .i64 lo, .slice ad n cp, .string body] 45)
  have hsv := seven_alloc w (.int .i64 kd) (.int .i64 fm) (.int .i64 (o : Int)) (.int .i64 seq) (.int .i64 lo) (.slice ad n cp) (.string body) 45
  have hal' : Alike w _ (fun _ => False) := Alike.of_below hal _
  have hb' := hb.alike hal' (fun h => h)
  have hv' := hv.alike hal' (fun h => h) (fun _ _ h => h)
  unfold Fr.agg
  simp only
  clear hal'
  have HAL : Hid _ := hal
  clear hal
  go_enter Tryz.func150, Tryz.ntmps150
  go_wp2_with fail
  generalize w.alloc (.cells #[.int .i64 kd, .int .i64 fm, .int .i64 (o : Int), .int .i64 seq, .int .i64 lo, .slice ad n cp, .string body] 45) = X at *
  have HSv : Hid _ := hsv
  obtain ⟨s0, s1, s2, s3, s4, s5, s6, sz⟩ := hsv
  have hc := hv'.cell hp hon
  have hfz := (hv'.each p hp).free o
  have hoi : (o : Int) < (n : Int) := by omega
  have HCl : Hid (Calls Tryz.prog 102 #[.pointer (some ⟨b, 0, none⟩)] X.drew fun e w' => e = .returned (.slice (some ⟨rows.getD p 0, 0, none⟩) n n) ∧ ∃ m, w' = X.drew.drewN m) := clock_any b n W B L p gv rows vs X.drew (hb'.alike (E := fun _ => False) (Alike.of_below (Below.refl _ _).drew _) (fun h => h)) (hv'.alike (E := fun _ => False) (Alike.of_below (Below.refl _ _).drew _) (fun h => h) (fun _ _ h => h)) hp
  generalize hgp : rows.getD p 0 = gp at *
  generalize hvo : vw vs p o = y at *
  have hne : w.heap.size ≠ gp := by
    intro h
    have h1 := (hv.each p hp).lt
    rw [hgp] at h1
    omega
  have hne' : gp ≠ w.heap.size := fun h => hne h.symm
  go_region_held3 (fun x => x.cell? ⟨w.heap.size, 2, none⟩ = some (.int .i64 (o : Int)) ∧ x.cell? ⟨w.heap.size, 3, none⟩ = some (.int .i64 seq)) (first | (exact ⟨s2, s3⟩) | go_keep) (first | (go_at_call 102; refine HCl.out.mono ?_; rintro e w' ⟨rfl, m, rfl⟩))
  have hXY : Alike X ((X.drewN (1 + m)).setCell ⟨gp, o, none⟩ (.int .i64 seq)) (fun k => k = gp) := (Alike.of_below (below_drewN (Below.refl _ _) _) _).trans (Alike.setCell _ _ _) (fun _ _ h => h)
  have HNVY : Hid (NVw ((X.drewN (1 + m)).setCell ⟨gp, o, none⟩ (.int .i64 seq)) gv n rows (vset vs p o seq)) := by
    have h := (hv'.alike (E := fun _ => False) (w' := X.drewN (1 + m)) (Alike.of_below (below_drewN (Below.refl _ _) _) _) (fun h => h) (fun _ _ h => h)).set (q := p) (o := o) hp seq
    rw [hgp] at h
    exact h
  have hbgp : b ≠ gp := by
    obtain ⟨cur, ht⟩ := hb.ty
    rw [← hgp]
    exact ty_ne ht (hv.each p hp) (by decide)
  generalize (X.drewN (1 + m)).setCell ⟨gp, o, none⟩ (.int .i64 seq) = Y at *
  have hbw : b < w.heap.size := lt_of_cell h7
  have h7X : X.cell? ⟨b, 7, none⟩ = some (.slice ha hlen hcap) := (HAL.out.cell (p := ⟨b, 7, none⟩) hbw).trans h7
  have h7Y : Y.cell? ⟨b, 7, none⟩ = some (.slice ha hlen hcap) := hXY.cell h7X hbgp
  have t0 := hXY.cell s0 hne
  have t1 := hXY.cell s1 hne
  have t2 := hXY.cell s2 hne
  have t3 := hXY.cell s3 hne
  have t4 := hXY.cell s4 hne
  have t5 := hXY.cell s5 hne
  have t6 := hXY.cell s6 hne
  have fY : Y.frozen? ⟨b, 7, none⟩ = false := by
    obtain ⟨cur, ht⟩ := hb'.ty
    exact hXY.frozen (lt_of_some ht) (frozen_of_row X b 7 cur _ ht) hbgp
  have hWdY : Wds Y ha hlen hcap hs := by
    refine ⟨hw.wlen, hw.own.1, ?_⟩
    rcases hw.own.2 with h | ⟨g, cap', cur, he, hg, hh, hrr⟩
    · exact Or.inl h
    · refine Or.inr ⟨g, cap', cur, he, hg, ?_, hrr⟩
      have hg1 : g ≠ gp := by rw [← hgp]; exact ty_ne hh (hv.each p hp) (by decide)
      exact (hXY.block g (Nat.lt_of_lt_of_le (lt_of_some hh) HAL.out.size) hg1).trans ((HAL.out.block g (lt_of_some hh)).trans hh)
  have HWd : Hid _ := hWdY
  have HXY : Hid _ := hXY
  have HWY : Hid (Alike w Y (fun k => k = gp)) := (Alike.of_below HAL.out _).trans hXY (fun _ _ h => h)
  clear hXY hWdY s0 s1 s2 s3 s4 s5 s6 hc hfz h7X HCl
  obtain ⟨i0, hi, hz0, hz1, hz2⟩ := info_parts Tryz.wordInfo
  have hzY : w.heap.size < Y.heap.size := lt_of_cell t0
  have hbY : b < Y.heap.size := lt_of_cell h7Y
  have HK : Hid (∀ x : World, (∀ c : Nat, c < Y.heap.size → c = w.heap.size → x.heap[c]? = Y.heap[c]?) → x.cell? ⟨w.heap.size, 0, none⟩ = some (.int .i64 kd) ∧ x.cell? ⟨w.heap.size, 1, none⟩ = some (.int .i64 fm) ∧ x.cell? ⟨w.heap.size, 2, none⟩ = some (.int .i64 (o : Int)) ∧ x.cell? ⟨w.heap.size, 3, none⟩ = some (.int .i64 seq) ∧ x.cell? ⟨w.heap.size, 4, none⟩ = some (.int .i64 lo) ∧ x.cell? ⟨w.heap.size, 5, none⟩ = some (.slice ad n cp) ∧ x.cell? ⟨w.heap.size, 6, none⟩ = some (.string body)) := fun x hx => by
    have e : ∀ i, x.cell? ⟨w.heap.size, i, none⟩ = Y.cell? ⟨w.heap.size, i, none⟩ := fun i => World.cell?_of_block (w := Y) (hx _ hzY rfl)
    exact ⟨(e 0).trans t0, (e 1).trans t1, (e 2).trans t2, (e 3).trans t3, (e 4).trans t4, (e 5).trans t5, (e 6).trans t6⟩
  have HOwn : Hid (∀ x : World, Below Y.heap.size Y x → (x.alloc (.cells #[.int .i64 (o : Int), .int .i64 seq, .string body] 89)).ownsRow 0 89 3 (.slice ha hlen hcap) hlen (wrow hs)) := fun x hx => by
    refine World.ownsRow.alloc ⟨HWd.out.own.1, ?_⟩ _
    rcases HWd.out.own.2 with h | ⟨g, cap', cur, he, hg, hh, hrr⟩
    · exact Or.inl h
    · exact Or.inr ⟨g, cap', cur, he, hg, (hx.block g (lt_of_some hh)).trans hh, hrr⟩
  have hnrow : ∀ (k : Nat) (cur : Array Value) (t : TypeId), Y.heap[k]? = some (.cells cur t (0, 0)) → t ≠ 89 → some k ≠ (Value.slice ha hlen hcap).ownBlock := fun k cur t hk ht he => by
    rcases HWd.out.own.2 with ⟨h, _⟩ | ⟨g, cap', cur', h, _, hh, _⟩
    · rw [h] at he; cases he
    · rw [h] at he
      cases he
      exact ty_ne hk hh ht rfl
  have hnb : some b ≠ (Value.slice ha hlen hcap).ownBlock := by
    obtain ⟨cur, ht⟩ := hb'.ty
    exact hnrow b cur _ ((HXY.out.block b (lt_of_some ht) hbgp).trans ht) (by decide)
  have hnz : some w.heap.size ≠ (Value.slice ha hlen hcap).ownBlock := fun he => by
    rcases HWd.out.own.2 with ⟨h, _⟩ | ⟨g, cap', cur', h, _, hh, _⟩
    · rw [h] at he; cases he
    · rcases hw.own.2 with ⟨h', _⟩ | ⟨g', cap'', cur'', h', _, hh', _⟩
      · rw [h'] at he; cases he
      · rw [h'] at he
        cases he
        exact absurd (lt_of_some hh') (Nat.lt_irrefl _)
  have hone : ∀ u ∈ ([.int .i64 (o : Int), .int .i64 seq, .string body] : List Value), u.oneCell' = true := by
    intro u hu
    simp at hu
    rcases hu with rfl | rfl | rfl <;> rfl
  have hml : hlen + 1 ≤ maxLen := by unfold maxLen; omega
  have hbw2 : b ≠ w.heap.size := by omega
  have HWo : Hid (∀ x, Calls Tryz.prog 100 #[.agg #[.int .i64 kd, .int .i64 fm, .int .i64 (o : Int), .int .i64 seq, .int .i64 lo, .slice ad n cp, .string body]] x fun e w' => e = .returned (.agg #[.int .i64 (o : Int), .int .i64 seq, .string body]) ∧ Below x.heap.size x w') := fun x => wordOf_any n ⟨kd, fm, (o : Int), seq, lo, ad, cp, vec, body⟩ x
  go_wp2_with fail
  go_region_law
    (first
      | (refine step_append_lies _ rfl (.tmp 15) (.tmp 18) 62 rfl 0 89 i0 _ 3 32 Tryz.underlying62 hi hz0 hz1 hz2 rfl (by decide) (.slice ha hlen hcap) hlen (wrow hs) (by simp [Act.eval]) (HOwn.out w' HBw.out) ⟨w'.heap.size, 0, none⟩ 1 1 [.int .i64 (o : Int), .int .i64 seq, .string body] (by simp [Act.eval]) rfl (World.news_of_block (heap_alloc_new w' _)) hone (by decide) hml (by omega) (Nat.zero_le _) _ rfl ?_; intro g cap w1 hown hgrow hat hlt; have HO1 : Hid _ := hown; have HGr : Hid _ := hgrow; have HAt : Hid _ := hat; have HG1 : Hid (∀ c : Nat, c < Y.heap.size → c = w.heap.size → w1.heap[c]? = Y.heap[c]?) := (fun c hc hcw => (hgrow.block c (Nat.lt_of_lt_of_le hc (HBw.out.alloc HBw.out.size (.cells #[.int .i64 (o : Int), .int .i64 seq, .string body] 89)).size) (by rw [hcw]; exact hnz)).trans ((HBw.out.alloc HBw.out.size (.cells #[.int .i64 (o : Int), .int .i64 seq, .string body] 89)).block c hc)); have c71 : w1.cell? ⟨b, 7, none⟩ = some (.slice ha hlen hcap) := (hgrow.cell_far ⟨b, 7, none⟩ (Nat.lt_of_lt_of_le hbY (HBw.out.alloc HBw.out.size (.cells #[.int .i64 (o : Int), .int .i64 seq, .string body] 89)).size) hnb).trans (h7a _); have f71 : w1.frozen? ⟨b, 7, none⟩ = false := (hgrow.frozen_far ⟨b, 7, none⟩ (Nat.lt_of_lt_of_le hbY (HBw.out.alloc HBw.out.size (.cells #[.int .i64 (o : Int), .int .i64 seq, .string body] 89)).size) hnb).trans (((HBw.out.alloc HBw.out.size (.cells #[.int .i64 (o : Int), .int .i64 seq, .string body] 89)).frozen (p := ⟨b, 7, none⟩) hbY).trans fY); clear hown hgrow hat hlt)
      | (go_simp; go_at_call 100; refine (HWo.out _).mono ?_; rintro e w' ⟨rfl, hbw⟩; dsimp only; have HBw : Hid (Below Y.heap.size Y w') := (Below.refl _ _).drew.trans hbw; have c7' : w'.cell? ⟨b, 7, none⟩ = some (.slice ha hlen hcap) := (HBw.out.cell (p := ⟨b, 7, none⟩) hbY).trans h7Y; have h7a : ∀ o, (w'.alloc o).cell? ⟨b, 7, none⟩ = some (.slice ha hlen hcap) := (fun o => ((HBw.out.alloc HBw.out.size o).cell (p := ⟨b, 7, none⟩) hbY).trans h7Y); clear hbw))
  all_goals
    go_wp2_with fail
    refine bodyPost_end (v := .tuple #[]) (by simp [results, Tryz.results150, go_sem]) rfl ⟨rfl, ?_⟩
    rw [hgp]
    exact took_in HTY.out hbgp hw HWY.out (HBw.out.alloc HBw.out.size _) HGr.out HAt.out HO1.out c71 HNVY.out HGP.out
end Go.Proofs.YtabecbjfamphbaaGreatDoor

/- May a node hear a word next? -/
namespace Go.Proofs.YtabecbjfamphbaaGreatDoor
open Go.RowKit Go.Stop Go.Extern

/-- Are the first k deps no greater than the clock? -/
def depsTo (vs : List (List Int)) (p : Nat) (v : List Int) (k : Nat) : Prop := ∀ q, q < k → v.getD q 0 ≤ vw vs p q
instance (vs : List (List Int)) (p : Nat) (v : List Int) (k : Nat) : Decidable (depsTo vs p v k) := by unfold depsTo; infer_instance
def isNx (vs : List (List Int)) (p n : Nat) (o : Nat) (f : Fr) : Bool := decide (f.seq = vw vs p o + 1 ∧ depsTo vs p f.vec n)

set_option maxRecDepth 100000 in
set_option maxHeartbeats 1000000 in
theorem isNext_any (b n : Nat) (W B L : Int) (p gv : Nat) (rows : List Nat) (vs : List (List Int)) (f : Fr) (o : Nat) (ho : f.org = o) (hon : o < n) (hn : n ≤ 8) (hp : p < n) (w : World) (hb : NB w b n W B L p gv) (hv : NVw w gv n rows vs) (hi : Ints w f.ad n f.vec)
    (hcb : ∀ q, q < n → 0 ≤ vw vs p q ∧ vw vs p q ≤ 65535) :
    Calls Tryz.prog 225 #[.pointer (some ⟨b, 0, none⟩), Fr.agg n f] w fun e w' => e = .returned (.bool (isNx vs p n o f)) ∧ Below w.heap.size w w' := by
  obtain ⟨kd, fm, org, seq, lo, ad, cp, vec, body⟩ := f
  simp only at ho hi
  subst ho
  have hal := below1 w (.cells #[.int .i64 kd, .int .i64 fm, .int .i64 (o : Int), .int .i64 seq, .int .i64 lo, .slice ad n cp, .string body] 45)
  have hsv := seven_alloc w (.int .i64 kd) (.int .i64 fm) (.int .i64 (o : Int)) (.int .i64 seq) (.int .i64 lo) (.slice ad n cp) (.string body) 45
  have ha : Alike w _ (fun _ => False) := Alike.of_below hal _
  have hb' := hb.alike ha (fun h => h)
  have hv' := hv.alike ha (fun h => h) (fun _ _ h => h)
  have hi' := hi.below hal
  have HX : Hid (isNx vs p n o ⟨kd, fm, (o : Int), seq, lo, ad, cp, vec, body⟩ = decide (seq = vw vs p o + 1 ∧ depsTo vs p vec n)) := rfl
  generalize isNx vs p n o ⟨kd, fm, (o : Int), seq, lo, ad, cp, vec, body⟩ = res at *
  unfold Fr.agg
  simp only
  clear hb hv hi ha
  have HAL : Hid _ := hal
  clear hal
  go_enter Tryz.func225, Tryz.ntmps225
  go_wp2_with fail
  generalize w.alloc (.cells #[.int .i64 kd, .int .i64 fm, .int .i64 (o : Int), .int .i64 seq, .int .i64 lo, .slice ad n cp, .string body] 45) = X at *
  have HV : Hid _ := hv'
  have HI : Hid _ := hi'
  obtain ⟨s0, s1, s2, s3, s4, s5, s6, sz⟩ := hsv
  refine (clock_any b n W B L p gv rows vs X hb' hv' hp).mono ?_
  rintro e w1 ⟨rfl, m, rfl⟩
  have hc := HV.out.cell hp hon
  have hbd := hcb o hon
  have hoi : (o : Int) < (n : Int) := by omega
  have HCB : Hid _ := hcb
  clear hb' hv' hi' hcb
  generalize hvo : vw vs p o = y at *
  generalize hgp : rows.getD p 0 = gp at *
  have hwr : IntKind.i64.wrap (y + 1) = y + 1 := by rw [IntKind.wrap_i64]; omega
  by_cases hseq : seq = y + 1
  · have hne : ((seq : Int) != y + 1) = false := by simp [hseq]
    go_wp2_with fail
    go_quiet (fail)
    go_wp2_with fail
    go_loop [22] (fun c => ∃ k : Nat, k ≤ n ∧ c = .int .i64 k ∧ depsTo vs p vec k) (fun c => n - (intOf c).toNat)
    case atStart => exact ⟨0, Nat.zero_le _, rfl, fun q h => absurd h (Nat.not_lt_zero _)⟩
    case round =>
      obtain ⟨k, hkn, rfl, hd⟩ := hrel
      have HD : Hid _ := hd
      clear hd
      by_cases hlt : k < n
      · obtain ⟨c, off, rfl, _, hcc⟩ := HI.out.cell k hlt
        have hcp := HV.out.cell hp hlt
        rw [hgp] at hcp
        have hki : (k : Int) < (n : Int) := by omega
        by_cases hle : vec.getD k 0 ≤ vw vs p k
        · have HS : Hid (depsTo vs p vec (k + 1)) := fun q hq => by
            rcases Nat.lt_or_ge q k with h | h
            · exact HD.out q h
            · obtain rfl : q = k := by omega
              exact hle
          generalize vec.getD k 0 = x at *
          generalize vw vs p k = z at *
          have hgt : ¬ z < x := by omega
          go_wp2_with fail
          go_round
          case rel => exact ⟨k + 1, by omega, by go_num, HS.out⟩
          case measure => simp [intOf]; omega
        · have HF : Hid (res = false) := HX.out.trans <| decide_eq_false (fun h => hle (h.2 k hlt))
          generalize vec.getD k 0 = x at *
          generalize vw vs p k = z at *
          have hgt : z < x := by omega
          go_wp2_with fail
          go_ret
          exact ⟨by rw [HF.out]; rfl, by first | exact below_drewN HAL.out _ | exact below_drewN (below_drewN HAL.out _) _⟩
      · have hkn' : k = n := by omega
        subst hkn'
        have HF : Hid (res = true) := HX.out.trans <| decide_eq_true ⟨hseq, HD.out⟩
        go_wp2_with fail
        go_ret
        exact ⟨by rw [HF.out]; rfl, by first | exact below_drewN HAL.out _ | exact below_drewN (below_drewN HAL.out _) _⟩
  · have hne : ((seq : Int) != y + 1) = true := by simp [hseq]
    have HF : Hid (res = false) := HX.out.trans <| decide_eq_false (fun h => hseq h.1)
    go_wp2_with fail
    go_quiet (fail)
    go_wp2_with fail
    go_ret
    exact ⟨by rw [HF.out]; rfl, by first | exact below_drewN HAL.out _ | exact below_drewN (below_drewN HAL.out _) _⟩
end Go.Proofs.YtabecbjfamphbaaGreatDoor
