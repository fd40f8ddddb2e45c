/- A part of the proof. -/
import Derived.Test.YtabecbjfamphbaaGreatDoorM25
namespace Go.Proofs.YtabecbjfamphbaaGreatDoor
open Go.RowKit Go.Stop Go.Extern Go.ChangeShapes Go.WideShapes Go.ChangeAt Go.WideMaps Go.WideElems Go.Deep
set_option maxRecDepth 100000
theorem Tryz.av4:Tryz.prog.cellsOf 81=15:=by kernel_rfl
structure Opp.Vk (o:Opp) (n:Nat):Prop where
 fl:o.fl≤n
 nil:o.fa=none→o.fl=0∧o.fc=0
theorem b4s {H:Type} {enc:TypeId × Value→H} {W:World} {fuel:Nat} {v:Value} {x:DataW H × List MemPlace} (h:DataW.trod enc Tryz.prog W 0 (fun _=>true) true fuel 34 [v]=some x):∃ (ad:Option Addr) (len cap:Nat) (vs:List Int),v=.slice ad len cap∧Ints W ad len vs∧(∀ n∈vs,I64 n)∧(ad=none→len=0∧cap=0):=by
 obtain ⟨ad,len,cap,vs,rfl,h1,h2⟩:=b7c h
 refine ⟨ad,len,cap,vs,rfl,h1,h2,fun e=>?_⟩
 rcases open_ints Tryz.underlying34 Tryz.underlying3 Tryz.intCells h with ⟨e5,_⟩ | ⟨a,len',cap',zs,e5,_⟩
 ·simp at e5
  exact ⟨e5.2.1,e5.2.2⟩
 ·simp at e5
  rw [e] at e5
  cases e5.1
section
variable {H:Type} {enc:TypeId × Value→H} {w:World}
theorem b7n {n:Nat} {cs:List Value} {x:DataW H × List MemPlace} (h:DataW.trod enc Tryz.prog w 0 (fun _=>true) true n 81 cs=some x) :
  ∃ o:Opp,(o.Ok w∧o.Vk (Rows.uptoBulk x.1))∧cs=o.cells:=by
 obtain ⟨xs,m,_,hx0,hcl,hxl,hf⟩:=DataW.trod_struct Tryz.underlying81 h
 rw [Tryz.av4] at hcl
 match cs,hcl with
 | [c0,c1,c2,c3,c4,c5,c6,c7,c8,c9,c10,c11,c12,c13,c14],_ =>
  have h0:DataW.trod enc Tryz.prog w 0 (fun _=>true) true m 3 (([c0,c1,c2,c3,c4,c5,c6,c7,c8,c9,c10,c11,c12,c13,c14].drop 0).take (Tryz.prog.cellsOf 3))=xs[0]?:=hf 0 _ rfl
  have h1:DataW.trod enc Tryz.prog w 0 (fun _=>true) true m 3 (([c0,c1,c2,c3,c4,c5,c6,c7,c8,c9,c10,c11,c12,c13,c14].drop 1).take (Tryz.prog.cellsOf 3))=xs[1]?:=hf 1 _ rfl
  have h2:DataW.trod enc Tryz.prog w 0 (fun _=>true) true m 3 (([c0,c1,c2,c3,c4,c5,c6,c7,c8,c9,c10,c11,c12,c13,c14].drop 2).take (Tryz.prog.cellsOf 3))=xs[2]?:=hf 2 _ rfl
  have h3:DataW.trod enc Tryz.prog w 0 (fun _=>true) true m 9 (([c0,c1,c2,c3,c4,c5,c6,c7,c8,c9,c10,c11,c12,c13,c14].drop 3).take (Tryz.prog.cellsOf 9))=xs[3]?:=hf 3 _ rfl
  have h4:DataW.trod enc Tryz.prog w 0 (fun _=>true) true m 26 (([c0,c1,c2,c3,c4,c5,c6,c7,c8,c9,c10,c11,c12,c13,c14].drop 4).take (Tryz.prog.cellsOf 26))=xs[4]?:=hf 4 _ rfl
  have h5:DataW.trod enc Tryz.prog w 0 (fun _=>true) true m 45 (([c0,c1,c2,c3,c4,c5,c6,c7,c8,c9,c10,c11,c12,c13,c14].drop 8).take (Tryz.prog.cellsOf 45))=xs[5]?:=hf 5 _ rfl
  have hxl':xs.length=6:=hxl
  obtain ⟨x0,e0⟩:=a1o hxl' (i:=0) (by omega)
  obtain ⟨x1,e1⟩:=a1o hxl' (i:=1) (by omega)
  obtain ⟨x2,e2⟩:=a1o hxl' (i:=2) (by omega)
  obtain ⟨x3,e3⟩:=a1o hxl' (i:=3) (by omega)
  obtain ⟨x4,e4⟩:=a1o hxl' (i:=4) (by omega)
  obtain ⟨x5,e5⟩:=a1o hxl' (i:=5) (by omega)
  rw [e0,Tryz.intCells] at h0
  rw [e1,Tryz.intCells] at h1
  rw [e2,Tryz.intCells] at h2
  rw [e3,Tryz.strCells] at h3
  rw [e4,Tryz.b7y] at h4
  rw [e5,Tryz.b0u] at h5
  obtain ⟨K,r0,_,z0⟩:=DataW.trod_int Tryz.underlying3 h0
  obtain ⟨on,r1,_,z1⟩:=DataW.trod_int Tryz.underlying3 h1
  obtain ⟨a,r2,_,z2⟩:=DataW.trod_int Tryz.underlying3 h2
  obtain ⟨s,r3,_,hsz⟩:=DataW.trod_string Tryz.underlying9 h3
  obtain ⟨us,m0,_,_,_,hul,hu⟩:=DataW.trod_struct Tryz.underlying26 h4
  have u0:DataW.trod enc Tryz.prog w 0 (fun _=>true) true m0 3 (([c4,c5,c6,c7].drop 0).take (Tryz.prog.cellsOf 3))=us[0]?:=hu 0 _ rfl
  have u1:DataW.trod enc Tryz.prog w 0 (fun _=>true) true m0 3 (([c4,c5,c6,c7].drop 1).take (Tryz.prog.cellsOf 3))=us[1]?:=hu 1 _ rfl
  have u2:DataW.trod enc Tryz.prog w 0 (fun _=>true) true m0 3 (([c4,c5,c6,c7].drop 2).take (Tryz.prog.cellsOf 3))=us[2]?:=hu 2 _ rfl
  have u3:DataW.trod enc Tryz.prog w 0 (fun _=>true) true m0 3 (([c4,c5,c6,c7].drop 3).take (Tryz.prog.cellsOf 3))=us[3]?:=hu 3 _ rfl
  have hul':us.length=4:=hul
  obtain ⟨v0,l0⟩:=a1o hul' (i:=0) (by omega)
  rw [l0,Tryz.intCells] at u0
  obtain ⟨v1,l1⟩:=a1o hul' (i:=1) (by omega)
  rw [l1,Tryz.intCells] at u1
  obtain ⟨v2,l2⟩:=a1o hul' (i:=2) (by omega)
  rw [l2,Tryz.intCells] at u2
  obtain ⟨v3,l3⟩:=a1o hul' (i:=3) (by omega)
  rw [l3,Tryz.intCells] at u3
  obtain ⟨N,q0,_,p0⟩:=DataW.trod_int Tryz.underlying3 u0
  obtain ⟨W,q1,_,p1⟩:=DataW.trod_int Tryz.underlying3 u1
  obtain ⟨B,q2,_,p2⟩:=DataW.trod_int Tryz.underlying3 u2
  obtain ⟨L,q3,_,p3⟩:=DataW.trod_int Tryz.underlying3 u3
  obtain ⟨ys,m',_,hy0,_,hyl,hg⟩:=DataW.trod_struct Tryz.underlying45 h5
  have g0:DataW.trod enc Tryz.prog w 0 (fun _=>true) true m' 3 (([c8,c9,c10,c11,c12,c13,c14].drop 0).take (Tryz.prog.cellsOf 3))=ys[0]?:=hg 0 _ rfl
  have g1:DataW.trod enc Tryz.prog w 0 (fun _=>true) true m' 3 (([c8,c9,c10,c11,c12,c13,c14].drop 1).take (Tryz.prog.cellsOf 3))=ys[1]?:=hg 1 _ rfl
  have g2:DataW.trod enc Tryz.prog w 0 (fun _=>true) true m' 3 (([c8,c9,c10,c11,c12,c13,c14].drop 2).take (Tryz.prog.cellsOf 3))=ys[2]?:=hg 2 _ rfl
  have g3:DataW.trod enc Tryz.prog w 0 (fun _=>true) true m' 3 (([c8,c9,c10,c11,c12,c13,c14].drop 3).take (Tryz.prog.cellsOf 3))=ys[3]?:=hg 3 _ rfl
  have g4:DataW.trod enc Tryz.prog w 0 (fun _=>true) true m' 3 (([c8,c9,c10,c11,c12,c13,c14].drop 4).take (Tryz.prog.cellsOf 3))=ys[4]?:=hg 4 _ rfl
  have g5:DataW.trod enc Tryz.prog w 0 (fun _=>true) true m' 34 (([c8,c9,c10,c11,c12,c13,c14].drop 5).take (Tryz.prog.cellsOf 34))=ys[5]?:=hg 5 _ rfl
  have g6:DataW.trod enc Tryz.prog w 0 (fun _=>true) true m' 9 (([c8,c9,c10,c11,c12,c13,c14].drop 6).take (Tryz.prog.cellsOf 9))=ys[6]?:=hg 6 _ rfl
  have hyl':ys.length=7:=hyl
  obtain ⟨y0,k0⟩:=a1o hyl' (i:=0) (by omega)
  rw [k0,Tryz.intCells] at g0
  obtain ⟨y1,k1⟩:=a1o hyl' (i:=1) (by omega)
  rw [k1,Tryz.intCells] at g1
  obtain ⟨y2,k2⟩:=a1o hyl' (i:=2) (by omega)
  rw [k2,Tryz.intCells] at g2
  obtain ⟨y3,k3⟩:=a1o hyl' (i:=3) (by omega)
  rw [k3,Tryz.intCells] at g3
  obtain ⟨y4,k4⟩:=a1o hyl' (i:=4) (by omega)
  rw [k4,Tryz.intCells] at g4
  obtain ⟨y5,k5⟩:=a1o hyl' (i:=5) (by omega)
  rw [k5,Tryz.b3b] at g5
  obtain ⟨y6,k6⟩:=a1o hyl' (i:=6) (by omega)
  rw [k6,Tryz.strCells] at g6
  obtain ⟨f0,s0,_,w0⟩:=DataW.trod_int Tryz.underlying3 g0
  obtain ⟨f1,s1,_,w1⟩:=DataW.trod_int Tryz.underlying3 g1
  obtain ⟨f2,s2,_,w2⟩:=DataW.trod_int Tryz.underlying3 g2
  obtain ⟨f3,s3,_,w3⟩:=DataW.trod_int Tryz.underlying3 g3
  obtain ⟨f4,s4,_,w4⟩:=DataW.trod_int Tryz.underlying3 g4
  obtain ⟨fb,s6,_,hbz⟩:=DataW.trod_string Tryz.underlying9 g6
  obtain ⟨fa,fl,fc,fvs,rfl,hfv,hfi,hnil⟩:=b4s (v:=c13) g5
  have hsh:=aq1 Tryz.underlying34 g5
  have hb5:Rows.uptoBulk y5.1≤Rows.uptoBulk x5.1:=by
   rw [hy0]
   have hm:=a6j (d:=y5.1) (l:=ys.map (·.1)) (List.mem_map.2 ⟨y5,List.mem_of_getElem? k5,rfl⟩)
   simp only [Rows.uptoBulk]
   omega
  have hb0:Rows.uptoBulk x5.1≤Rows.uptoBulk x.1:=by
   rw [hx0]
   have hm:=a6j (d:=x5.1) (l:=xs.map (·.1)) (List.mem_map.2 ⟨x5,List.mem_of_getElem? e5,rfl⟩)
   simp only [Rows.uptoBulk]
   omega
  simp at r0 r1 r2 r3 q0 q1 q2 q3 s0 s1 s2 s3 s4 s6
  subst r0 r1 r2 r3 q0 q1 q2 q3 s0 s1 s2 s3 s4 s6
  exact ⟨⟨K,on,a,s,N,W,B,L,f0,f1,f2,f3,f4,fa,fl,fc,fb⟩,⟨⟨a3r z0,a3r z1,a3r z2,⟨a3r p0,a3r p1,a3r p2,a3r p3⟩,⟨a3r w0,a3r w1,a3r w2,a3r w3,a3r w4⟩,⟨fvs,hfv,hfi⟩,hsz,hbz⟩,⟨by show fl≤_;omega,hnil⟩⟩,rfl⟩
theorem b2k {n:Nat} {cs:List Value} {x:DataW H × List MemPlace} (h:DataW.trod enc Tryz.prog w 0 (fun _=>true) true n 81 cs=some x):7≤Rows.uptoBulk x.1:=by
 obtain ⟨xs,m,_,rfl,_,hxl,_⟩:=DataW.trod_struct Tryz.underlying81 h
 have hxl':xs.length=6:=hxl
 have h1:=a8y (xs.map (·.1))
 rw [List.length_map,hxl'] at h1
 simp only [Rows.uptoBulk]
 omega
theorem b7g {fuel:Nat} {cs:List Value} {x:DataW H × List MemPlace} (h:DataW.trod enc Tryz.prog w 0 (fun _=>true) true fuel 22 cs=some x) :
  ∃ (ad:Option Addr) (cap:Nat) (ops:List Opp),cs=[.slice ad ops.length cap]∧Ops w w.heap.size ad ops∧(∀ o∈ops,o.Vk (Rows.uptoBulk x.1))∧7 * ops.length≤Rows.uptoBulk x.1:=by
 rcases open_slice Tryz.underlying22 h with ⟨rfl,_⟩ | ⟨a,len,cap,m,n,D,Pl,rfl,_,hl,_,hm,hxx,hx⟩
 ·exact ⟨none,0,[],rfl,⟨fun o ho=>(by cases ho),fun i o hi=>(by simp at hi)⟩,fun o ho=>(by cases ho),by simp⟩
 ·have hlm:len≤m:=by
   rw [hm]
   split<;>omega
  have hs:∀ i,i<len→∃ o:Opp,(o.Ok w∧o.Vk (Rows.uptoBulk x.1))∧∀ j,j<15→w.cell? ((a.add (i * 15)).add j)=o.cells[j]?:=fun i hi=>by
   obtain ⟨cs',hc,ht⟩:=hx i (by omega)
   obtain ⟨o,ho,hcs⟩:=b7n ht
   rw [Tryz.av4] at hc
   subst hcs
   have hbi:Rows.uptoBulk (D i)≤Rows.uptoBulk x.1:=by
    rw [hxx]
    have hm:=a6j (d:=D i) (l:=(List.range len).map D) (List.mem_map.2 ⟨i,List.mem_range.2 hi,rfl⟩)
    simp only [Rows.uptoBulk]
    omega
   exact ⟨o,⟨ho.1,⟨Nat.le_trans ho.2.fl hbi,ho.2.nil⟩⟩,(World.cells?_some hc).2.2⟩
  obtain ⟨f,hf⟩:=choose_lt hs
  have hlen:((List.range len).map f).length=len:=by simp
  refine ⟨some a,cap,(List.range len).map f,by rw [hlen],⟨fun o ho=>?_,fun i o hi=>?_⟩,fun o ho=>?_,?_⟩
  ·obtain ⟨i,hi,rfl⟩:=List.mem_map.1 ho
   exact (hf i (List.mem_range.1 hi)).1.1
  ·have hil:i<len:=by
    have:=(List.getElem?_eq_some_iff.1 hi).1
    simpa using this
   have ho:o=f i:=by
    rw [List.getElem?_map,List.getElem?_range hil] at hi
    simpa using hi.symm
   subst ho
   obtain ⟨_,hcell⟩:=hf i hil
   obtain ⟨b,off,spot⟩:=a
   have hspot:spot=none:=by
    obtain ⟨_,hcell0⟩:=hf 0 (by omega)
    have:=hcell0 0 (by omega)
    simpa [Addr.add] using World.cell?_spot this
   subst hspot
   have hc:∀ j,j<15→w.cell? ⟨b,off+i * 15+j,none⟩=(f i).cells[j]?:=fun j hj=>by
    have:=hcell j hj
    rw [Go.WideShapes.add_plain,Go.WideShapes.add_plain] at this
    exact this
   exact ⟨b,off,rfl,lt_of_cell (hc 0 (by omega)),hc⟩
  ·obtain ⟨i,hi,rfl⟩:=List.mem_map.1 ho
   exact (hf i (List.mem_range.1 hi)).1.2
  ·have hml:len≤m:=hlm
   have hx':x.1=.slice ((List.range len).map D) ((List.range (m-len)).map fun j=>D (len+j)):=by rw [hxx]
   have h1:=b2t (c:=7) (l:=(List.range len).map D) (fun y hy=>by
    obtain ⟨i,hi,rfl⟩:=List.mem_map.1 hy
    obtain ⟨cs',_,ht⟩:=hx i (by have:=List.mem_range.1 hi;omega)
    exact b2k ht)
   rw [hx',hlen]
   simp only [Rows.uptoBulk]
   rw [List.length_map,List.length_range] at h1
   omega
end
theorem b6v {H:Type} {enc:TypeId × Value→H} {W:World} {v:Value} {d:DataW H} {p:List MemPlace} {r:Reach} {b0:Nat} (hv:Value.okWide Tryz.prog W r b0 22 v) (h:DataW.Trod enc Tryz.prog W 0 (fun _=>true) true 22 v d p) :
  ∃ (ad:Option Addr) (cap:Nat) (ops:List Opp),v=.slice ad ops.length cap∧Ops W W.heap.size ad ops∧(∀ o∈ops,o.Vk (Rows.uptoBulk d))∧7 * ops.length≤Rows.uptoBulk d:=by
 obtain ⟨ad,len,cap,rfl⟩:=okWide_slice Tryz.underlying22 hv
 obtain ⟨fuel,hf⟩:=h
 obtain ⟨ad',cap',ops,hc,hs,hv',hb⟩:=b7g hf
 have hc':[Value.slice ad len cap]=[.slice ad' ops.length cap']:=hc
 simp at hc'
 obtain ⟨rfl,rfl,rfl⟩:=hc'
 exact ⟨ad,cap,ops,rfl,hs,hv',hb⟩
end Go.Proofs.YtabecbjfamphbaaGreatDoor
namespace Go.Proofs.YtabecbjfamphbaaGreatDoor
open Go.RowKit Go.Stop Go.Extern
set_option maxRecDepth 100000
structure RLay where
 wa:Option Addr
 wcap:Nat
 fs:List Fr
 ha:Option Addr
 hcap:Nat
 ta:Option Addr
 tcap:Nat
 ss:List Fr
def hrow (hd:List Nat):List Value:=hd.map (fun (i:Nat)=>Value.int .i64 (i:Int))
structure RNd (w:World) (b:Nat) (g:Gr) (p:Nat) (r:RN) (G:RLay):Prop where
 c0:w.cell? ⟨b,0,none⟩=some (.int .i64 (g.n:Int))
 c1:w.cell? ⟨b,1,none⟩=some (.int .i64 g.W)
 c2:w.cell? ⟨b,2,none⟩=some (.int .i64 g.B)
 c3:w.cell? ⟨b,3,none⟩=some (.int .i64 g.L)
 c4:w.cell? ⟨b,4,none⟩=some (.int .i64 (p:Int))
 c5:w.cell? ⟨b,5,none⟩=some (.slice G.wa G.fs.length G.wcap)
 c6:w.cell? ⟨b,6,none⟩=some (.slice G.ha r.hd.length G.hcap)
 c7:w.cell? ⟨b,7,none⟩=some (.slice G.ta G.ss.length G.tcap)
 ty:∃ cur,w.heap[b]?=some (.cells cur 228 (0,0))
 wo:Frs w g.n G.wa G.fs.length G.wcap G.fs
 ho:w.ownsRow 0 3 1 (.slice G.ha r.hd.length G.hcap) r.hd.length (hrow r.hd)
 tt:Frs w g.n G.ta G.ss.length G.tcap G.ss
 ws:G.fs.map Fr.fm=r.ws
 ts:G.ss.map (fun f=>(f.frm,f.vec))=r.ts
 fv:∀ f∈G.fs,Ints w f.ad g.n f.vec
 sv:∀ f∈G.ss,Ints w f.ad g.n f.vec
 fh:∀ f∈G.fs,∀ k,onB f.ad k→¬ onB G.ha k
 sh:∀ f∈G.ss,∀ k,onB f.ad k→¬ onB G.ha k
 hin:∀ i∈r.hd,i<G.fs.length
def RLay.foot (G:RLay) (b k:Nat):Prop:=k=b∨onB G.wa k∨onB G.ha k∨onB G.ta k∨(∃ f∈G.fs,onB f.ad k)∨∃ f∈G.ss,onB f.ad k
section
variable {w y:World} {b:Nat} {g:Gr} {p:Nat} {r:RN} {G:RLay} {E:Nat→Prop}
theorem RNd.alike (h:RNd w b g p r G) (ha:Alike w y E) (hE:∀ k,G.foot b k→¬ E k):RNd y b g p r G:=by
 obtain ⟨cur,ht⟩:=h.ty
 have h0:¬ E b:=hE _ (Or.inl rfl)
 exact ⟨ha.cell h.c0 h0,ha.cell h.c1 h0,ha.cell h.c2 h0,ha.cell h.c3 h0,ha.cell h.c4 h0,ha.cell h.c5 h0,ha.cell h.c6 h0,ha.cell h.c7 h0,⟨cur,(ha.block _ (lt_of_some ht) h0).trans ht⟩,h.wo.alike ha (fun k off e=>hE k (Or.inr (Or.inl ⟨off,e⟩))),a07 h.ho ha (fun k hk=>hE k (Or.inr (Or.inr (Or.inl hk)))),h.tt.alike ha (fun k off e=>hE k (Or.inr (Or.inr (Or.inr (Or.inl ⟨off,e⟩))))),h.ws,h.ts,fun f hf=>(h.fv f hf).alike ha (fun c off e=>hE c (Or.inr (Or.inr (Or.inr (Or.inr (Or.inl ⟨f,hf,off,e⟩)))))),fun f hf=>(h.sv f hf).alike ha (fun c off e=>hE c (Or.inr (Or.inr (Or.inr (Or.inr (Or.inr ⟨f,hf,off,e⟩)))))),h.fh,h.sh,h.hin⟩
theorem RNd.low (h:RNd w b g p r G) (hl:Below w.heap.size w y):RNd y b g p r G:=h.alike (Alike.of_below hl (fun _=>False)) (fun _ _ h=>h)
theorem RNd.hget (h:RNd w b g p r G) {i:Nat} {j:Nat} (hi:r.hd[i]?=some j):∃ gh,G.ha=some ⟨gh,0,none⟩∧w.cell? ⟨gh,i,none⟩=some (.int .i64 (j:Int)):=by
 have hil:=(List.getElem?_eq_some_iff.1 hi).1
 have ho:=h.ho
 rcases ho.2 with ⟨_,h0⟩ | ⟨gh,cap',cur,he,_⟩
 ·omega
 ·simp only [Value.slice.injEq] at he
  rw [he.1] at ho
  refine ⟨gh,he.1,?_⟩
  rw [World.ownsRow.cellAt ho i (by omega)]
  simp [hrow,hi]
theorem RNd.wget (h:RNd w b g p r G) {i:Nat} {f:Fr} (hi:G.fs[i]?=some f):∃ gw,G.wa=some ⟨gw,0,none⟩∧w.cell? ⟨gw,i * 7,none⟩=some (.int .i64 f.kind)∧w.cell? ⟨gw,i * 7+1,none⟩=some (.int .i64 f.frm)∧w.cell? ⟨gw,i * 7+2,none⟩=some (.int .i64 f.org)∧w.cell? ⟨gw,i * 7+3,none⟩=some (.int .i64 f.seq)∧w.cell? ⟨gw,i * 7+4,none⟩=some (.int .i64 f.low)∧w.cell? ⟨gw,i * 7+5,none⟩=some (.slice f.ad g.n f.cap)∧w.cell? ⟨gw,i * 7+6,none⟩=some (.string f.body):=by
 have hil:=(List.getElem?_eq_some_iff.1 hi).1
 obtain ⟨gw,cur,e,_⟩:=h.wo.block (by omega)
 have hw:=h.wo
 rw [e] at hw
 exact ⟨gw,e,hw.seven hil hi⟩
theorem RNd.tget (h:RNd w b g p r G) {i:Nat} {f:Fr} (hi:G.ss[i]?=some f):∃ gw,G.ta=some ⟨gw,0,none⟩∧w.cell? ⟨gw,i * 7,none⟩=some (.int .i64 f.kind)∧w.cell? ⟨gw,i * 7+1,none⟩=some (.int .i64 f.frm)∧w.cell? ⟨gw,i * 7+2,none⟩=some (.int .i64 f.org)∧w.cell? ⟨gw,i * 7+3,none⟩=some (.int .i64 f.seq)∧w.cell? ⟨gw,i * 7+4,none⟩=some (.int .i64 f.low)∧w.cell? ⟨gw,i * 7+5,none⟩=some (.slice f.ad g.n f.cap)∧w.cell? ⟨gw,i * 7+6,none⟩=some (.string f.body):=by
 have hil:=(List.getElem?_eq_some_iff.1 hi).1
 obtain ⟨gw,cur,e,_⟩:=h.tt.block (by omega)
 have hw:=h.tt
 rw [e] at hw
 exact ⟨gw,e,hw.seven hil hi⟩
theorem RNd.wsget (h:RNd w b g p r G) {i:Nat} {f:Fr} (hi:G.fs[i]?=some f):r.ws[i]?=some f.fm:=by rw [←h.ws,List.getElem?_map,hi];rfl
end
def RN.cntTo (r:RN) (o:Int) (k:Nat):Nat:=(r.hd.take k).countP (fun i=>decide ((r.ws[i]?).map Fm.org=some o))
theorem b1u (r:RN) (o:Nat):r.cntTo (o:Int) r.hd.length=r.cnt o:=by
 unfold RN.cntTo RN.cnt
 rw [List.take_length]
theorem ay2 {r:RN} {o:Int} {k i:Nat} {f:Fm} (hk:r.hd[k]?=some i) (hi:r.ws[i]?=some f):r.cntTo o (k+1)=r.cntTo o k+if f.org=o then 1 else 0:=by
 unfold RN.cntTo
 rw [List.take_add_one,hk,List.countP_append]
 congr 1
 simp [List.countP_cons,hi]
theorem b4v (r:RN) (o:Int) (k:Nat):r.cntTo o k≤k:=by
 unfold RN.cntTo
 exact Nat.le_trans List.countP_le_length (by simp;omega)
set_option maxHeartbeats 1000000 in
theorem a1y (b:Nat) (g:Gr) (p:Nat) (r:RN) (G:RLay) (o:Nat) (hl:r.hd.length≤1000000000) (w:World) (h:RNd w b g p r G) :
  Calls Tryz.prog 166 #[.pointer (some ⟨b,0,none⟩),.int .i64 (o:Int)] w fun e w'=>e=.returned (.int .i64 (r.cnt o:Int))∧Below w.heap.size w w':=by
 have HH:Hid (RNd w b g p r G):=h
 rw [←b1u]
 clear h
 go_enter Tryz.func166,Tryz.ntmps166
 go_wp2_with fail
 go_loopw [5,6] (fun a c wr=>∃ k:Nat,k≤r.hd.length∧c=.int .i64 k∧a=.int .i64 (r.cntTo (o:Int) k:Int)∧Below w.heap.size w wr) (fun _ c _=>r.hd.length-(intOf c).toNat)
 case atStart=>exact ⟨0,Nat.zero_le _,rfl,by simp [RN.cntTo],Below.refl _ _⟩
 case round =>
  obtain ⟨k,hkn,rfl,rfl,hb⟩:=hrel
  have HB:Hid (Below w.heap.size w wr):=hb
  have HR:Hid (RNd wr b g p r G):=HH.out.low hb
  have c6:=HR.out.c6
  have c5:=HR.out.c5
  clear hb
  by_cases hlt:k<r.hd.length
  ·have hki:(k:Int)<(r.hd.length:Int):=by omega
   obtain ⟨i,hi⟩:∃ i,r.hd[k]?=some i:=⟨r.hd[k],List.getElem?_eq_getElem _⟩
   have hil:=HR.out.hin i (List.mem_of_getElem? hi)
   obtain ⟨f,hf⟩:∃ f,G.fs[i]?=some f:=⟨G.fs[i],List.getElem?_eq_getElem hil⟩
   obtain ⟨gh,hgh,q0⟩:=HR.out.hget hi
   obtain ⟨gw,hgw,_,_,q2,_⟩:=HR.out.wget hf
   rw [hgh] at c6
   rw [hgw] at c5
   have HC:Hid _:=ay2 (o:=(o:Int)) hi (HR.out.wsget hf)
   have hle:=b4v r (o:Int) k
   have hili:(i:Int)<(G.fs.length:Int):=by omega
   clear hi hf hgh hgw
   generalize r.cntTo (o:Int) k=ck at *
   by_cases e:f.org=(o:Int)
   ·have HC1:Hid (r.cntTo (o:Int) (k+1)=ck+1):=by show _=_;rw [HC.out,if_pos (show f.fm.org=(o:Int) from e)]
    rw [e] at q2
    go_wp2_with fail
    go_quiet (fail)
    go_wp2_with fail
    go_roundw
    case rel=>exact ⟨k+1,by omega,by go_num,by rw [HC1.out];go_num,by first | exact HB.out | exact HB.out.drew | exact below_drewN HB.out _⟩
    case measure=>simp [intOf];omega
   ·have HC1:Hid (r.cntTo (o:Int) (k+1)=ck):=by show _=_;rw [HC.out,if_neg (show ¬ f.fm.org=(o:Int) from e),Nat.add_zero]
    have e1:(f.org == (o:Int))=false:=beq_eq_false_iff_ne.2 e
    go_wp2_with fail
    go_quiet (fail)
    go_wp2_with fail
    go_roundw
    case rel=>exact ⟨k+1,by omega,by go_num,by rw [HC1.out],by first | exact HB.out | exact HB.out.drew | exact below_drewN HB.out _⟩
    case measure=>simp [intOf];omega
  ·have hkn':k=r.hd.length:=by omega
   subst hkn'
   go_wp2_with fail
   go_ret
   exact ⟨rfl,HB.out⟩
def RN.clkTo (r:RN) (n:Nat):List Int:=(List.range n).map (fun (q:Nat)=>(r.cnt q:Int))
theorem b0b (r:RN) (n:Nat):r.clkTo (n+1)=r.clkTo n++[(r.cnt n:Int)]:=by simp [RN.clkTo,List.range_succ]
theorem a8p (r:RN) (n:Nat):(r.clkTo n).length=n:=by simp [RN.clkTo]
theorem b6f (r:RN) (o:Nat):r.cnt o≤r.hd.length:=List.countP_le_length
theorem a8w (a b:List Int):irow (a++b)=irow a++irow b:=by simp [irow]
theorem a1a {w w':World} {b:Nat} {t:TypeId} {c:Nat} {v:Value} {n:Nat} {xs:List Value} (h:w.ownsRow b t c v n xs) (hb:Below w.heap.size w w'):w'.ownsRow b t c v n xs:=by
 refine ⟨h.1,?_⟩
 rcases h.2 with h' | ⟨g',cap',cur,he,hg,hh,hr⟩
 ·exact Or.inl h'
 ·exact Or.inr ⟨g',cap',cur,he,hg,(hb.block g' (lt_of_some hh)).trans hh,hr⟩
theorem ab8 {w:World} {b:Nat} {t:TypeId} {c:Nat} {v:Value} {n:Nat} {xs:List Value} (h:w.ownsRow b t c v n xs):∀ k,v.ownBlock=some k→b≤k:=fun k hk=>by
 rcases h.2 with ⟨he,_⟩ | ⟨g',cap',cur,he,hg,_⟩
 ·rw [he] at hk;cases hk
 ·rw [he] at hk
  cases hk
  exact hg
set_option maxHeartbeats 1000000 in
theorem a6q (b:Nat) (g:Gr) (p:Nat) (r:RN) (G:RLay) (hn:g.n≤8) (hl:r.hd.length≤1000000000) (w:World) (h:RNd w b g p r G) :
  Calls Tryz.prog 116 #[.pointer (some ⟨b,0,none⟩)] w fun e w'=>(∃ v,e=.returned v∧w'.ownsRow w.heap.size 3 1 v g.n (irow (r.clkTo g.n)))∧Below w.heap.size w w':=by
 have HH:Hid (RNd w b g p r G):=h
 clear h
 go_enter Tryz.func116,Tryz.ntmps116
 go_wp2_with fail
 go_loopw [3,4] (fun a c wr=>∃ k:Nat,k≤g.n∧c=.int .i64 k∧wr.ownsRow w.heap.size 3 1 a k (irow (r.clkTo k))∧Below w.heap.size w wr) (fun _ c _=>g.n-(intOf c).toNat)
 case atStart=>exact ⟨0,Nat.zero_le _,rfl,⟨rfl,Or.inl ⟨rfl,rfl⟩⟩,Below.refl _ _⟩
 case round =>
  obtain ⟨k,hkn,rfl,ho,hb⟩:=hrel
  have HB:Hid (Below w.heap.size w wr):=hb
  have HO:Hid _:=ho
  have HR:Hid (RNd wr b g p r G):=HH.out.low hb
  have c0:=HR.out.c0
  obtain ⟨av,cv,hsh⟩:=a01 ho
  subst hsh
  clear hb ho
  by_cases hlt:k<g.n
  ·have hki:(k:Int)<(g.n:Int):=by omega
   go_wp2_with fail
   refine (a1y b g p r G k hl wr HR.out).mono ?_
   rintro e w1 ⟨rfl,hb1⟩
   have HB1:Hid (Below w.heap.size w w1):=bthen HB.out hb1
   have HO1:Hid (w1.ownsRow w.heap.size 3 1 (.slice av k cv) k (irow (r.clkTo k))):=a1a HO.out hb1
   have hsz:w.heap.size≤w1.heap.size:=HB1.out.size
   have HS:Hid (r.clkTo (k+1)=r.clkTo k++[(r.cnt k:Int)]):=b0b r k
   obtain ⟨i1,hj,hy0,hy1,hy2⟩:=info_parts Tryz.a3d
   clear hb1 c0
   generalize r.cnt k=ck at *
   go_wp2_with (at_builtin;refine wpList_append_own _ rfl (.tmp 18) (.tmp 20) 34 rfl w.heap.size 3 i1 _ 1 8 Tryz.underlying34 hj hy0 hy1 hy2 rfl (by decide) _ _ _ rfl (World.ownsRow.alloc HO1.out _) ⟨w1.heap.size,0,none⟩ 1 1 [.int .i64 (ck:Int)] rfl rfl ?c1 ?c2 (by unfold maxLen;omega) (by omega) (by simp;omega) ?_)
   case c1 =>
    intro q u hq
    match q,hq with
    | 0,hq=>simp at hq;subst hq;simp [Addr.add]
   case c2 =>
    intro u hu
    simp at hu
    subst hu
    rfl
   intro v4 w4 hown4 hgrow4 _
   have HG4:Hid (w4.ownsRow w.heap.size 3 1 v4 (k+1) (irow (r.clkTo (k+1)))):=by
    rw [HS.out,a8w]
    exact hown4
   have HB4:Hid (Below w.heap.size w w4):=(HB1.out.alloc hsz _).grown hgrow4 (by simp;omega) (ab8 HO1.out)
   obtain ⟨a4,c4',hg4⟩:=a01 hown4
   subst hg4
   clear hown4 hgrow4
   go_wp2_with fail
   go_roundw
   case rel=>exact ⟨k+1,by omega,by go_num,HG4.out,HB4.out⟩
   case measure=>simp [intOf];omega
  ·have hkn':k=g.n:=by omega
   subst hkn'
   go_wp2_with fail
   go_ret
   exact ⟨⟨_,rfl,HO.out⟩,HB.out⟩
def tsC (q:Nat):Int × List Int→Bool:=fun t=>decide (t.1=(q:Int))
def tsV (o:Nat):Int × List Int→Int:=fun t=>t.2.getD o 0
def wsC (p o:Nat):Fm→Bool:=fun f=>decide (f.org=(o:Int)∧o≠p)
theorem as4 {α:Type} (c:α→Bool) (v:α→Int) (l:List α) (k0:Int) {i:Nat} {a:α} (h:l[i]?=some a):top c v (l.take (i+1)) k0=if c a=true∧top c v (l.take i) k0<v a then v a else top c v (l.take i) k0:=by
 rw [List.take_add_one,h,a9w]
 rfl
theorem aq4 {r:RN} {p q o:Nat} (h:q≠p):r.knows p q o=top (wsC p o) Fm.low r.ws (top (tsC q) (tsV o) r.ts 0):=if_neg h
set_option maxHeartbeats 2000000 in
theorem a7b (b:Nat) (g:Gr) (p:Nat) (r:RN) (G:RLay) (q o:Nat) (ho:o<g.n) (hl:r.hd.length≤1000000000) (hl1:G.ss.length≤1000000000) (hl2:G.fs.length≤1000000000) (w:World) (h:RNd w b g p r G) :
  Calls Tryz.prog 174 #[.pointer (some ⟨b,0,none⟩),.int .i64 (q:Int),.int .i64 (o:Int)] w fun e w'=>e=.returned (.int .i64 (r.knows p q o))∧Below w.heap.size w w':=by
 have HH:Hid (RNd w b g p r G):=h
 have c4:=h.c4
 by_cases hqp:q=p
 ·subst hqp
  have HC:Hid _:=a1y b g q r G o hl w h
  rw [show r.knows q q o=(r.cnt o:Int) from if_pos rfl]
  clear h
  go_enter Tryz.func174,Tryz.ntmps174
  go_wp2_with fail
  refine (show Calls _ _ _ _ _ from HC.out).mono ?_
  rintro e w1 ⟨rfl,hb1⟩
  have HB1:Hid _:=hb1
  clear hb1
  go_wp2_with fail
  go_ret
  exact ⟨rfl,HB1.out⟩
 ·have hqp2:((q:Int) == (p:Int))=false:=by simp;omega
  rw [aq4 hqp]
  clear h
  go_enter Tryz.func174,Tryz.ntmps174
  go_wp2_with fail
  go_loopw [7,8] (fun a c wr=>∃ k:Nat,k≤G.ss.length∧c=.int .i64 k∧a=.int .i64 (top (tsC q) (tsV o) (r.ts.take k) 0)∧Below w.heap.size w wr) (fun _ c _=>G.ss.length-(intOf c).toNat)
  case atStart=>exact ⟨0,Nat.zero_le _,rfl,rfl,Below.refl _ _⟩
  case round =>
   obtain ⟨k,hkn,rfl,rfl,hb⟩:=hrel
   have HB:Hid (Below w.heap.size w wr):=hb
   have HR:Hid (RNd wr b g p r G):=HH.out.low hb
   have c7:=HR.out.c7
   clear hb
   by_cases hlt:k<G.ss.length
   ·have hki:(k:Int)<(G.ss.length:Int):=by omega
    obtain ⟨f,hf⟩:∃ f,G.ss[k]?=some f:=⟨G.ss[k],List.getElem?_eq_getElem _⟩
    obtain ⟨gt,hgt,_,q1,_,_,_,q5,_⟩:=HR.out.tget hf
    rw [hgt] at c7
    obtain ⟨vb,voff,hva,_,q6⟩:=(HR.out.sv f (List.mem_of_getElem? hf)).cell o ho
    have hts:r.ts[k]?=some (f.frm,f.vec):=by rw [←HR.out.ts,List.getElem?_map,hf];rfl
    have HTp:Hid _:=as4 (tsC q) (tsV o) r.ts 0 hts
    have hoi:(o:Int)<(g.n:Int):=by omega
    rw [hva] at q5
    have hvV:tsV o (f.frm,f.vec)=f.vec.getD o 0:=rfl
    clear hf hgt hts
    generalize top (tsC q) (tsV o) (r.ts.take k) 0=tk at *
    rw [hvV] at HTp
    generalize f.vec.getD o 0=vo at *
    by_cases e:f.frm=(q:Int)
    ·have hcc:tsC q (f.frm,f.vec)=true:=decide_eq_true e
     rw [e] at q1
     by_cases hgt2:tk<vo
     ·have HC1:Hid (top (tsC q) (tsV o) (r.ts.take (k+1)) 0=vo):=by show _=_;rw [HTp.out,if_pos ⟨hcc,hgt2⟩]
      go_wp2_with fail
      go_roundw
      case rel=>exact ⟨k+1,by omega,by go_num,by rw [HC1.out],by first | exact HB.out | exact HB.out.drew | exact below_drewN HB.out _⟩
      case measure=>simp [intOf];omega
     ·have HC1:Hid (top (tsC q) (tsV o) (r.ts.take (k+1)) 0=tk):=by show _=_;rw [HTp.out,if_neg (fun h=>hgt2 h.2)]
      go_wp2_with fail
      go_roundw
      case rel=>exact ⟨k+1,by omega,by go_num,by rw [HC1.out],by first | exact HB.out | exact HB.out.drew | exact below_drewN HB.out _⟩
      case measure=>simp [intOf];omega
    ·have hcc:tsC q (f.frm,f.vec)=false:=decide_eq_false e
     have HC1:Hid (top (tsC q) (tsV o) (r.ts.take (k+1)) 0=tk):=by show _=_;rw [HTp.out,if_neg (fun h=>by rw [hcc] at h;cases h.1)]
     have e1:(f.frm == (q:Int))=false:=beq_eq_false_iff_ne.2 e
     go_wp2_with fail
     go_roundw
     case rel=>exact ⟨k+1,by omega,by go_num,by rw [HC1.out],by first | exact HB.out | exact HB.out.drew | exact below_drewN HB.out _⟩
     case measure=>simp [intOf];omega
   ·have hkn':k=G.ss.length:=by omega
    subst hkn'
    have HTl:Hid (top (tsC q) (tsV o) (r.ts.take G.ss.length) 0=top (tsC q) (tsV o) r.ts 0):=by
     show _=_
     rw [show G.ss.length=r.ts.length by rw [←HR.out.ts,List.length_map],List.take_length]
    rw [HTl.out]
    obtain ⟨t0,ht0⟩:∃ t0,t0=top (tsC q) (tsV o) r.ts 0:=⟨_,rfl⟩
    rw [←ht0]
    have HT0:Hid (t0=top (tsC q) (tsV o) r.ts 0):=ht0
    clear ht0
    go_wp2_with fail
    go_loopw [7,9] (fun a c wr=>∃ k:Nat,k≤G.fs.length∧c=.int .i64 k∧a=.int .i64 (top (wsC p o) Fm.low (r.ws.take k) t0)∧Below w.heap.size w wr) (fun _ c _=>G.fs.length-(intOf c).toNat)
    case atStart=>exact ⟨0,Nat.zero_le _,rfl,rfl,HB.out⟩
    case round =>
     obtain ⟨k,hkn,rfl,rfl,hb⟩:=hrel
     have HB2:Hid (Below w.heap.size w wr):=hb
     have HR2:Hid (RNd wr b g p r G):=HH.out.low hb
     have c5:=HR2.out.c5
     have d4:=HR2.out.c4
     clear hb
     by_cases hlt:k<G.fs.length
     ·have hki:(k:Int)<(G.fs.length:Int):=by omega
      obtain ⟨f,hf⟩:∃ f,G.fs[k]?=some f:=⟨G.fs[k],List.getElem?_eq_getElem _⟩
      obtain ⟨gt,hgt,_,_,q2,_,q4,_,_⟩:=HR2.out.wget hf
      rw [hgt] at c5
      have HTp:Hid _:=as4 (wsC p o) Fm.low r.ws t0 (HR2.out.wsget hf)
      have hvV:f.fm.low=f.low:=rfl
      rw [hvV] at HTp
      clear hf hgt
      generalize top (wsC p o) Fm.low (r.ws.take k) t0=tk at *
      by_cases e:f.org=(o:Int)
      ·rw [e] at q2
       by_cases hop:o=p
       ·have hcc:wsC p o f.fm=false:=decide_eq_false (fun h=>h.2 hop)
        have HC1:Hid (top (wsC p o) Fm.low (r.ws.take (k+1)) t0=tk):=by show _=_;rw [HTp.out,if_neg (fun h=>by rw [hcc] at h;cases h.1)]
        subst hop
        go_wp2_with fail
        go_roundw
        case rel=>exact ⟨k+1,by omega,by go_num,by rw [HC1.out],by first | exact HB2.out | exact HB2.out.drew | exact below_drewN HB2.out _⟩
        case measure=>simp [intOf];omega
       ·have hcc:wsC p o f.fm=true:=decide_eq_true ⟨e,hop⟩
        have n1:((o:Int) == (p:Int))=false:=by simp;omega
        have n2:((o:Int) != (p:Int))=true:=by simp;omega
        by_cases hgt2:tk<f.low
        ·have HC1:Hid (top (wsC p o) Fm.low (r.ws.take (k+1)) t0=f.low):=by show _=_;rw [HTp.out,if_pos ⟨hcc,hgt2⟩]
         go_wp2_with fail
         go_roundw
         case rel=>exact ⟨k+1,by omega,by go_num,by rw [HC1.out],by first | exact HB2.out | exact HB2.out.drew | exact below_drewN HB2.out _⟩
         case measure=>simp [intOf];omega
        ·have HC1:Hid (top (wsC p o) Fm.low (r.ws.take (k+1)) t0=tk):=by show _=_;rw [HTp.out,if_neg (fun h=>hgt2 h.2)]
         go_wp2_with fail
         go_roundw
         case rel=>exact ⟨k+1,by omega,by go_num,by rw [HC1.out],by first | exact HB2.out | exact HB2.out.drew | exact below_drewN HB2.out _⟩
         case measure=>simp [intOf];omega
      ·have hcc:wsC p o f.fm=false:=decide_eq_false (fun h=>e h.1)
       have HC1:Hid (top (wsC p o) Fm.low (r.ws.take (k+1)) t0=tk):=by show _=_;rw [HTp.out,if_neg (fun h=>by rw [hcc] at h;cases h.1)]
       have e1:(f.org == (o:Int))=false:=beq_eq_false_iff_ne.2 e
       go_wp2_with fail
       go_roundw
       case rel=>exact ⟨k+1,by omega,by go_num,by rw [HC1.out],by first | exact HB2.out | exact HB2.out.drew | exact below_drewN HB2.out _⟩
       case measure=>simp [intOf];omega
     ·have hkn':k=G.fs.length:=by omega
      subst hkn'
      have HTl2:Hid (top (wsC p o) Fm.low (r.ws.take G.fs.length) t0=top (wsC p o) Fm.low r.ws t0):=by
       show _=_
       rw [show G.fs.length=r.ws.length by rw [←HR2.out.ws,List.length_map],List.take_length]
      rw [HTl2.out]
      go_wp2_with fail
      go_ret
      exact ⟨by rw [HT0.out];rfl,HB2.out⟩
set_option maxHeartbeats 1000000 in
theorem as9 (b:Nat) (g:Gr) (p:Nat) (r:RN) (G:RLay) (o:Nat) (ho:o<g.n) (hn:g.n≤8) (hl:r.hd.length≤1000000000) (hl1:G.ss.length≤1000000000) (hl2:G.fs.length≤1000000000) (w:World) (h:RNd w b g p r G) :
  Calls Tryz.prog 167 #[.pointer (some ⟨b,0,none⟩),.int .i64 (o:Int)] w fun e w'=>e=.returned (.int .i64 (r.lowTo p o g.n))∧Below w.heap.size w w':=by
 have HH:Hid (RNd w b g p r G):=h
 have HC:Hid _:=a1y b g p r G o hl w h
 have H0:Hid ((r.cnt o:Int)=r.lowTo p o 0):=rfl
 clear h
 go_enter Tryz.func167,Tryz.ntmps167
 go_wp2_with fail
 refine (show Calls _ _ _ _ _ from HC.out).mono ?_
 rintro e w1 ⟨rfl,hb1⟩
 have HB1:Hid (Below w.heap.size w w1):=hb1
 clear hb1
 rw [H0.out]
 go_wp2_with fail
 go_loopw [5,6] (fun a c wr=>∃ k:Nat,k≤g.n∧c=.int .i64 k∧a=.int .i64 (r.lowTo p o k)∧Below w.heap.size w wr) (fun _ c _=>g.n-(intOf c).toNat)
 case atStart=>exact ⟨0,Nat.zero_le _,rfl,rfl,HB1.out⟩
 case round =>
  obtain ⟨k,hkn,rfl,rfl,hb⟩:=hrel
  have HB:Hid (Below w.heap.size w wr):=hb
  have HR:Hid (RNd wr b g p r G):=HH.out.low hb
  have c0:=HR.out.c0
  clear hb
  by_cases hlt:k<g.n
  ·have hki:(k:Int)<(g.n:Int):=by omega
   have HKn:Hid _:=a7b b g p r G k o ho hl hl1 hl2 wr HR.out
   have HL:Hid (r.lowTo p o (k+1)=if r.knows p k o<r.lowTo p o k then r.knows p k o else r.lowTo p o k):=rfl
   generalize r.knows p k o=kn at *
   generalize r.lowTo p o k=lk at *
   go_wp2_with fail
   refine (show Calls _ _ _ _ _ from HKn.out).mono ?_
   rintro e w2 ⟨rfl,hb2⟩
   have HB2:Hid (Below w.heap.size w w2):=bthen HB.out hb2
   clear hb2
   by_cases e:kn<lk
   ·have HL1:Hid (r.lowTo p o (k+1)=kn):=by show _=_;rw [HL.out,if_pos e]
    go_wp2_with fail
    go_roundw
    case rel=>exact ⟨k+1,by omega,by go_num,by rw [HL1.out],HB2.out⟩
    case measure=>simp [intOf];omega
   ·have HL1:Hid (r.lowTo p o (k+1)=lk):=by show _=_;rw [HL.out,if_neg e]
    go_wp2_with fail
    go_roundw
    case rel=>exact ⟨k+1,by omega,by go_num,by rw [HL1.out],HB2.out⟩
    case measure=>simp [intOf];omega
  ·have hkn':k=g.n:=by omega
   subst hkn'
   go_wp2_with fail
   go_ret
   exact ⟨rfl,HB.out⟩
end Go.Proofs.YtabecbjfamphbaaGreatDoor
