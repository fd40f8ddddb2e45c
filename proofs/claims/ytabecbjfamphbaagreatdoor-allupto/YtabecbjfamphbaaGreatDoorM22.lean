/- A part of the proof. -/
import Derived.Test.YtabecbjfamphbaaGreatDoorM21
import Derived.ProofKit
import Derived.LaidMore
import Derived.OpenShut
import Derived.Deep.Slices
import Derived.SizedLaws
import Derived.Test.YtabecbjfamphbaaGreatDoorRows
import Derived.LaidSub
import Derived.Stop.LaidTwo
import Derived.Stop.Joined
import Derived.Lib.SmallJoins
namespace Go.Proofs.YtabecbjfamphbaaGreatDoor
open Go.RowKit Go.Stop Go.Extern
set_option maxRecDepth 100000
section
variable {g:Gr} {x:MNet} {sd:List Sd} {sn:List Sn} {bag:List (Nat × Msg)} {said:List Fm} {m:Nat}
theorem b61 (g:Gr) (p:Nat) (f:Fm) (ho:f.org=p):NS.sayL g p f=(passM g p f p).map (encP g):=by
 rw [←af4,ho]
 rfl
end
structure Stp where
 K:Int
 a:Int
 b:Int
 v:Int
 s:ByteArray
 f0:Int
 f1:Int
 f2:Int
 f3:Int
 f4:Int
 fa:Option Addr
 fl:Nat
 fc:Nat
 fb:ByteArray
end Go.Proofs.YtabecbjfamphbaaGreatDoor
namespace Go.Proofs.YtabecbjfamphbaaGreatDoor
open Go.RowKit Go.Stop Go.Extern Go.ChangeShapes Go.WideShapes Go.ChangeAt Go.WideMaps Go.WideElems Go.Deep
set_option maxRecDepth 100000
theorem a3r {n:Int} (h:(Lit.int .i64 n).wf=true):I64 n:=by
 simp only [Lit.wf,Bool.and_eq_true,decide_eq_true_eq] at h
 exact h
theorem Tryz.b0u:Tryz.prog.cellsOf 45=7:=by kernel_rfl
theorem Tryz.intCells:Tryz.prog.cellsOf 3=1:=by kernel_rfl
theorem Tryz.strCells:Tryz.prog.cellsOf 9=1:=by kernel_rfl
theorem Tryz.b3b:Tryz.prog.cellsOf 34=1:=by kernel_rfl
section
variable {H:Type} {enc:TypeId × Value→H} {w:World} {base:Nat} {spare:Nat→Bool} {held:Bool}
theorem a1o {α:Type} {l:List α} {i n:Nat} (h:l.length=n) (hi:i<n):∃ x,l[i]?=some x:=⟨l[i],List.getElem?_eq_getElem (by omega)⟩
end
instance :Inhabited Stp:=⟨⟨0,0,0,0,⟨#[]⟩,0,0,0,0,0,none,0,0,⟨#[]⟩⟩⟩
end Go.Proofs.YtabecbjfamphbaaGreatDoor
namespace Go.Proofs.YtabecbjfamphbaaGreatDoor
open Go.RowKit Go.Stop Go.Extern
set_option maxRecDepth 100000
theorem Tryz.b7w:Tryz.prog.cellsOf 317=1:=by kernel_rfl
theorem Tryz.cellsS:Tryz.prog.cellsOf 9=1:=by kernel_rfl
theorem Tryz.star : "*" ++ "errors.errorString" = "*errors.errorString" := by decide
theorem Tryz.rowE (u : TypeId) (h : Tryz.prog.typeName? 3 u = some "*errors.errorString") : u = 298 :=
 typeName_ptr_named (nm := "errors.errorString") (by rw [Tryz.star]; kernel_rfl) (by kernel_rfl) (by decide) u (by rw [Tryz.star]; exact h)
theorem ad8 {W:World} {nm:String} {g:Nat} {v:Value} (hg:Tryz.prog.globalNamed nm=some g) (h:W.var? Tryz.prog nm=some #[v]):W.cell? ⟨g,0,none⟩=some v:=by
 have:=World.var?_cell hg h 0
 simpa using this
def nOf (k:Nat):String:=match (Rows.causalRow.laid)[k-1]? with
 | some (n,_)=>n
 | none => ""
def tOf (k:Nat):List UInt8:=match (Rows.causalRow.laid)[k-1]? with
 | some (_,.iface _ (.ptr (.agg [.lit (.string t)])))=>t
 | _=>[]
theorem b7h {W:World} {l:List (String × DataW Unit)} (h:laidMet Tryz.prog l W) {n0 n1:String} {x0 x1:List UInt8} {g0 g1:Nat}
  (hf : (l.filter fun x => x.1 == n0 || x.1 == n1) = [(n0, .iface "*errors.errorString" (.ptr (.agg [.lit (.string x0)]))), (n1, .iface "*errors.errorString" (.ptr (.agg [.lit (.string x1)])))])
  (hg0:Tryz.prog.globalNamed n0=some g0) (ht0:(Tryz.prog.globals[g0]?).map (·.type)=some 98) (hg1:Tryz.prog.globalNamed n1=some g1) (ht1:(Tryz.prog.globals[g1]?).map (·.type)=some 98) :
  ∃ a0 a1,W.cell? ⟨g0,0,none⟩=some (.iface 298 (.pointer (some a0)))∧W.cell? ⟨g1,0,none⟩=some (.iface 298 (.pointer (some a1)))∧a0≠a1 ∧
   (∃ ca ta,W.heap[a0.block]?=some (.cells ca ta (0,0)))∧(∃ ca ta,W.heap[a1.block]?=some (.cells ca ta (0,0))):=by
 have h':=h.filter (fun x=>x.1 == n0 || x.1 == n1)
 rw [hf] at h'
 obtain ⟨a0,a1,s0,s1,c0,c1,t0,t1,hv0,hv1,hc0,hs0,hz0,hc1,hs1,hz1,hne,hb0,hb1⟩:=laid_sentinels2 h' hg0 ht0 hg1 ht1 Tryz.underlying98 Tryz.rowE Tryz.underlying298 Tryz.underlying317 rfl rfl Tryz.underlying9 Tryz.b7w Tryz.cellsS
 exact ⟨a0,a1,ad8 hg0 hv0,ad8 hg1 hv1,hne,⟨c0,t0,hb0⟩,⟨c1,t1,hb1⟩⟩
theorem ac9 {W:World} (h:laidMet Tryz.prog Rows.causalRow.laid W) (i j:Nat) (h1:1≤i) (hij:i<j) (h8:j≤8) :
  ∃ a0 a1,W.cell? ⟨gOf i,0,none⟩=some (.iface 298 (.pointer (some a0)))∧W.cell? ⟨gOf j,0,none⟩=some (.iface 298 (.pointer (some a1)))∧a0≠a1 ∧
   (∃ ca ta,W.heap[a0.block]?=some (.cells ca ta (0,0)))∧(∃ ca ta,W.heap[a1.block]?=some (.cells ca ta (0,0))):=by
 have hg:∀ k,1≤k→k≤8→Tryz.prog.globalNamed (nOf k)=some (gOf k)∧(Tryz.prog.globals[gOf k]?).map (·.type)=some 98:=by
  intro k k1 k8
  rcases (by omega:k=1∨k=2∨k=3∨k=4∨k=5∨k=6∨k=7∨k=8) with rfl | rfl | rfl | rfl | rfl | rfl | rfl | rfl<;>exact ⟨by kernel_rfl,by kernel_rfl⟩
 refine b7h h (n0:=nOf i) (n1:=nOf j) (x0:=tOf i) (x1:=tOf j) ?_ (hg i h1 (by omega)).1 (hg i h1 (by omega)).2 (hg j (by omega) h8).1 (hg j (by omega) h8).2
 rcases (by omega:i=1∨i=2∨i=3∨i=4∨i=5∨i=6∨i=7) with rfl | rfl | rfl | rfl | rfl | rfl | rfl <;>
  rcases (by omega:j=2∨j=3∨j=4∨j=5∨j=6∨j=7∨j=8) with rfl | rfl | rfl | rfl | rfl | rfl | rfl<;>first | omega | kernel_rfl
theorem a7x {W:World} {g:Nat} {a b:Addr} (h:W.cell? ⟨g,0,none⟩=some (.iface 298 (.pointer (some a)))) (h':W.cell? ⟨g,0,none⟩=some (.iface 298 (.pointer (some b)))):a=b:=by
 rw [h] at h'
 cases h'
 rfl
theorem b4k {W:World} (h:laidMet Tryz.prog Rows.causalRow.laid W):∃ A,Sents W A:=by
 have hs:∀ k,1≤k→k≤8→∃ a,W.cell? ⟨gOf k,0,none⟩=some (.iface 298 (.pointer (some a)))∧∃ ca ta,W.heap[a.block]?=some (.cells ca ta (0,0)):=by
  intro k k1 k8
  by_cases hk:k=8
  ·subst hk
   obtain ⟨a0,a1,_,h2,_,_,h5⟩:=ac9 h 1 8 (by omega) (by omega) (by omega)
   exact ⟨a1,h2,h5⟩
  ·obtain ⟨a0,a1,h1,_,_,h4,_⟩:=ac9 h k 8 k1 (by omega) (by omega)
   exact ⟨a0,h1,h4⟩
 refine ⟨fun k=>if hk:1≤k∧k≤8 then Classical.choose (hs k hk.1 hk.2) else ⟨0,0,none⟩,⟨?_,?_,?_⟩⟩
 ·intro k k1 k8
  simp only [dif_pos (And.intro k1 k8)]
  exact (Classical.choose_spec (hs k k1 k8)).1
 ·intro i j i1 i8 j1 j8 hne
  simp only [dif_pos (And.intro i1 i8),dif_pos (And.intro j1 j8)]
  have ci:=(Classical.choose_spec (hs i i1 i8)).1
  have cj:=(Classical.choose_spec (hs j j1 j8)).1
  rcases Nat.lt_or_gt_of_ne hne with hlt | hlt
  ·obtain ⟨a0,a1,h1,h2,h3,_,_⟩:=ac9 h i j i1 hlt j8
   rw [a7x ci h1,a7x cj h2]
   exact h3
  ·obtain ⟨a0,a1,h1,h2,h3,_,_⟩:=ac9 h j i j1 hlt i8
   rw [a7x ci h2,a7x cj h1]
   exact h3.symm
 ·intro k k1 k8
  simp only [dif_pos (And.intro k1 k8)]
  exact (Classical.choose_spec (hs k k1 k8)).2
end Go.Proofs.YtabecbjfamphbaaGreatDoor
namespace Go.Proofs.YtabecbjfamphbaaGreatDoor
open Go.ChangeShapes Go.WideShapes Go.ChangeAt Go.WideMaps Go.WideElems Go.RowKit Go.Joins Go.Deep
set_option maxRecDepth 100000
theorem Tryz.own:ownKnob Tryz.prog.godebug=none:=by kernel_rfl
theorem Tryz.laidOut:laidOutB Tryz.prog=true:=by kernel_rfl
theorem Tryz.b7y:Tryz.prog.cellsOf 26=4:=by kernel_rfl
theorem b5z {H:Type} (d:DataW H):1≤Rows.uptoBulk d:=by
 cases d with
 | lit l=>cases l<;>simp [Rows.uptoBulk]
 | nil=>simp [Rows.uptoBulk]
 | ptr d=>simp [Rows.uptoBulk]
 | slice elems spare=>simp [Rows.uptoBulk]
 | agg parts=>simp [Rows.uptoBulk]
 | iface t d=>simp [Rows.uptoBulk]
 | map entries=>simp [Rows.uptoBulk]
 | held h=>simp [Rows.uptoBulk]
theorem a6j {H:Type} {d:DataW H} {l:List (DataW H)} (h:d∈l):Rows.uptoBulk d≤Rows.uptoBulkAll l:=by
 induction l with
 | nil=>cases h
 | cons x r ih =>
  simp only [Rows.uptoBulkAll]
  cases List.mem_cons.1 h with
  | inl e=>subst e;omega
  | inr e=>have:=ih e;omega
theorem a8y {H:Type} (l:List (DataW H)):l.length≤Rows.uptoBulkAll l:=by
 induction l with
 | nil=>simp [Rows.uptoBulkAll]
 | cons x r ih=>have:=b5z x;simp only [Rows.uptoBulkAll,List.length_cons];omega
theorem b0s {H:Type} (elems spare:List (DataW H)):elems.length+1≤Rows.uptoBulk (.slice elems spare):=by
 have h1:=a8y elems
 simp only [Rows.uptoBulk]
 omega
theorem ax5 {H:Type} {l:List (DataW H)} (hk:Rows.uptoSmall H l=true):Rows.uptoBulkAll l≤1048576:=of_decide_eq_true hk
theorem aq1 {H:Type} {enc:TypeId × Value→H} {w:World} {base:Nat} {spare:Nat→Bool} {held:Bool} {t e:TypeId} {fuel:Nat} {x:DataW H × List MemPlace} {ad:Option Addr} {len cap:Nat}
  (ht:Tryz.prog.underlying t=some (.slice e)) (h:DataW.trod enc Tryz.prog w base spare held fuel t [.slice ad len cap]=some x):len≤Rows.uptoBulk x.1:=by
 rcases open_slice ht h with ⟨hc,rfl⟩ | ⟨a,len',cap',m,n,D,Pl,hc,_,hl,_,hm,hx,_⟩
 ·simp at hc
  obtain ⟨_,rfl,_⟩:=hc
  omega
 ·simp at hc
  obtain ⟨_,rfl,_⟩:=hc
  subst hx
  have:=b0s ((List.range len).map D) ((List.range (m-len)).map fun j=>D (len+j))
  simp at this ⊢
  omega
theorem b2t {H:Type} {l:List (DataW H)} {c:Nat} (h:∀ d∈l,c≤Rows.uptoBulk d):c * l.length≤Rows.uptoBulkAll l:=by
 induction l with
 | nil=>simp [Rows.uptoBulkAll]
 | cons x r ih =>
  have h1:=h x List.mem_cons_self
  have h2:=ih (fun d hd=>h d (List.mem_cons_of_mem _ hd))
  simp only [Rows.uptoBulkAll,List.length_cons]
  rw [Nat.mul_add]
  omega
theorem b7c {H:Type} {enc:TypeId × Value→H} {W:World} {fuel:Nat} {v:Value} {x:DataW H × List MemPlace} (h:DataW.trod enc Tryz.prog W 0 (fun _=>true) true fuel 34 [v]=some x):∃ (ad:Option Addr) (len cap:Nat) (vs:List Int),v=.slice ad len cap∧Ints W ad len vs∧∀ n∈vs,I64 n:=by
 rcases open_ints Tryz.underlying34 Tryz.underlying3 Tryz.intCells h with ⟨e5,_⟩ | ⟨a,len,cap,zs,e5,_,hl,hm,hz,hx,hcell,hwf⟩
 ·simp at e5
  subst e5
  exact ⟨none,0,0,[],rfl,⟨rfl,fun _ hi=>absurd hi (Nat.not_lt_zero _)⟩,fun x hx=>by cases hx⟩
 ·simp at e5
  subst e5
  simp only [if_true] at hz
  refine ⟨some a,len,cap,zs.take len,rfl,⟨by simp;omega,fun i hi=>?_⟩,fun n hn=>a3r (hwf n (List.mem_of_mem_take hn))⟩
  obtain ⟨b,off,rfl,hc⟩:=ints_at hcell (by omega)
  have hci:=hc i (by omega)
  refine ⟨b,off,rfl,lt_of_cell hci,?_⟩
  rw [hci,List.getD_eq_getElem?_getD,List.getD_eq_getElem?_getD,List.getElem?_take,if_pos hi]
end Go.Proofs.YtabecbjfamphbaaGreatDoor
