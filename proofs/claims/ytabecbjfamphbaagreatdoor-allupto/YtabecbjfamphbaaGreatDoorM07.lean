/- A part of the proof. -/
import Derived.Test.YtabecbjfamphbaaGreatDoorM06
namespace Go.Proofs.YtabecbjfamphbaaGreatDoor
open Go.RowKit Go.Stop Go.Extern Go.Sort
set_option maxRecDepth 100000
def gone (vs:List (List Int)) (L:Int) (n:Nat) (f:Fr):Bool:=decide (f.seq≤lowTo vs L f.org.toNat n)
theorem a6d {w:World} {n:Nat} {sa:Option Addr} {slen scap:Nat} {fs:List Fr} (hr:Frs w n sa slen scap fs) {k:Nat} {cur:Array Value} {t:TypeId} {fz:Nat × Nat} (hk:w.heap[k]?=some (.cells cur t fz)) (ht:t≠45):¬ onB sa k:=by
 rintro ⟨off,hs⟩
 rcases hr.own.2 with ⟨he,_⟩ | ⟨g,cap',cur',he,_,hh,_⟩
 ·rw [hs] at he;cases he
 ·cases he
  cases hs
  exact ty_ne hk hh ht rfl
set_option maxHeartbeats 1000000 in
theorem a7c (b n:Nat) (W B L:Int) (p gv:Nat) (rows:List Nat) (vs:List (List Int)) (sa:Option Addr) (slen scap:Nat) (fs:List Fr) (w:World) (hb:NB w b n W B L p gv) (hv:NVw w gv n rows vs) (hn:n≤8) (h6:w.cell? ⟨b,6,none⟩=some (.slice sa slen scap)) (hr:Frs w n sa slen scap fs) (hl:slen≤1000)
  (ho:∀ f∈fs,∃ o:Nat,f.org=o∧o<n) :
  Calls Tryz.prog 152 #[.pointer (some ⟨b,0,none⟩)] w fun e w'=>e=.returned (.tuple #[])∧ab2 w w' b n sa (keptF (gone vs L n) fs):=by
 have hal:=a00 w (.cells #[.pointer (some ⟨b,0,none⟩)] 96)
 have hpb:(w.alloc (.cells #[.pointer (some ⟨b,0,none⟩)] 96)).heap[w.heap.size]?=some (.cells #[.pointer (some ⟨b,0,none⟩)] 96 (0,0)):=heap_alloc_new _ _
 have ha:Alike w (w.alloc (.cells #[.pointer (some ⟨b,0,none⟩)] 96)) (fun _=>False):=Alike.of_below hal _
 have hb':=hb.alike ha (fun h=>h)
 have hv':=hv.alike ha (fun h=>h) (fun _ _ h=>h)
 have hr':=hr.low hal
 have h6':=(hal.cell (p:=⟨b,6,none⟩) (lt_of_cell h6)).trans h6
 have HTY:Hid (∃ cur,w.heap[b]?=some (.cells cur 149 (0,0))):=hb.ty
 have HNB:Hid (¬ onB sa b):=by obtain ⟨cur,ht⟩:=hb.ty;exact a6d hr ht (by decide)
 have HAL:Hid _:=hal
 have H6:Hid _:=h6
 clear hb hv hr hal ha h6
 go_enter Tryz.func152,Tryz.ntmps152
 go_wp2_with fail
 generalize w.alloc (.cells #[.pointer (some ⟨b,0,none⟩)] 96)=X at *
 have hcp:X.cell? ⟨w.heap.size,0,none⟩=some (.pointer (some ⟨b,0,none⟩)):=by rw [cell_of_row X _ 0 _ _ (0,0) hpb];rfl
 have HDl:Hid (∀ x f,Alike X x (onB sa)→f∈fs→Calls Tryz.prog 193 #[Fr.agg n f,.pointer (some ⟨w.heap.size,0,none⟩)] x fun e w'=>e=.returned (.bool (gone vs L n f))∧Below x.heap.size x w'):=fun x f hx hf=>by
  obtain ⟨o,hof,hon⟩:=ho f hf
  have hbx:NB x b n W B L p gv:=hb'.alike hx HNB.out
  have hvx:NVw x gv n rows vs:=by
   obtain ⟨cur,ht⟩:=hv'.ty
   exact hv'.alike hx (a6d hr' ht (by decide)) (fun q hq=>a6d hr' (hv'.each q hq) (by decide))
  have hpx:=hx.cell hcp (a6d hr' hpb (by decide))
  have:=aj8 b n W B L p gv rows vs w.heap.size f o hof hon hn x hbx hvx hpx
  unfold gone
  rw [hof,Int.toNat_natCast]
  exact this
 have HDc:Hid (∀ k,Calls Tryz.prog 192 #[.slice sa slen scap,.func (.func 193) #[] #[.pointer (some ⟨w.heap.size,0,none⟩)]] (X.drewN k) fun e w'=>(∃ len',e=.returned (.slice sa len' scap)∧Frs w' n sa len' scap (keptF (gone vs L n) fs))∧Alike (X.drewN k) w' (onB sa)):=fun k=>a9p n sa slen scap fs (gone vs L n) w.heap.size (X.drewN k) (hr'.low (below_drewN (Below.refl _ _) k)) hl (fun x f hx hf=>HDl.out x f ((Alike.of_below (below_drewN (Below.refl _ _) k) _).trans hx (fun _ _ h=>h)) hf)
 have HD1:Hid (Calls Tryz.prog 192 #[.slice sa slen scap,.func (.func 193) #[] #[.pointer (some ⟨w.heap.size,0,none⟩)]] X.drew fun e w'=>(∃ len',e=.returned (.slice sa len' scap)∧Frs w' n sa len' scap (keptF (gone vs L n) fs))∧Alike X.drew w' (onB sa)):=HDc.out 1
 have HPB:Hid (¬ onB sa w.heap.size):=a6d hr' hpb (by decide)
 have HCP:Hid (X.drew.cell? ⟨w.heap.size,0,none⟩=some (.pointer (some ⟨b,0,none⟩))):=hcp
 clear hb' hv' hr' HDl HDc hpb
 have HAX:Hid (Below w.heap.size w X.drew):=HAL.out.drew
 go_wp2_with fail
 go_region_with (first|(go_at_call 192;refine (show Calls _ _ _ _ _ from HD1.out).mono ?_;rintro e w' ⟨⟨len',rfl,hfr⟩,hrest⟩;have HFr:Hid _:=hfr;have HRest:Hid _:=hrest;have cp':w'.cell? ⟨w.heap.size,0,none⟩=some (.pointer (some ⟨b,0,none⟩)):=hrest.cell HCP.out HPB.out;have c6':w'.cell? ⟨b,6,none⟩=some (.slice sa slen scap):=hrest.cell ((HAX.out.cell (p:=⟨b,6,none⟩) (lt_of_cell H6.out)).trans H6.out) HNB.out;have f6':w'.frozen? ⟨b,6,none⟩=false:=(hrest.frozen (b:=b) (i:=6) (Nat.lt_of_lt_of_le (lt_of_cell H6.out) HAX.out.size) ((HAX.out.frozen (p:=⟨b,6,none⟩) (lt_of_cell H6.out)).trans (a0h HTY.out 6)) HNB.out);clear hfr hrest))
 all_goals
  go_wp2_with fail
  refine bodyPost_end (v:=.tuple #[]) (by simp [results,Tryz.results152,go_sem]) rfl ⟨rfl,?_⟩
  have hfl:=HFr.out.flen
  subst hfl
  exact b2y HTY.out HNB.out HAX.out HRest.out HFr.out (fun k off hk=>Or.inl ⟨off,hk⟩) c6'
end Go.Proofs.YtabecbjfamphbaaGreatDoor
