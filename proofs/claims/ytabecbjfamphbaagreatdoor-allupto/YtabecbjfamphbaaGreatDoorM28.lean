/- A part of the proof. -/
import Derived.Test.YtabecbjfamphbaaGreatDoorM27
namespace Go.Proofs.YtabecbjfamphbaaGreatDoor
open Go.RowKit Go.Stop Go.Extern
set_option maxRecDepth 100000
set_option maxHeartbeats 4000000
theorem b6a {α:Type} (c:α→Bool) (v:α→Int) (l:List α):∀ k:Int,k≤top c v l k:=by
 induction l with
 | nil=>exact fun k=>Int.le_refl _
 | cons a l ih =>
  intro k
  refine Int.le_trans ?_ (ih _)
  split
  ·omega
  ·exact Int.le_refl _
theorem b51 (r:RN) (p q o:Nat):0≤r.knows p q o:=by
 unfold RN.knows
 split
 ·omega
 ·exact Int.le_trans (b6a _ _ _ _) (b6a _ _ _ _)
theorem aw2 (r:RN) (p o:Nat):∀ k,0≤r.lowTo p o k∧r.lowTo p o k≤(r.cnt o:Int)
 | 0=>⟨by show (0:Int)≤(r.cnt o:Int);omega,Int.le_refl _⟩
 | k+1=>by
  have h:=aw2 r p o k
  have h2:=b51 r p k o
  show 0≤(if r.knows p k o<r.lowTo p o k then r.knows p k o else r.lowTo p o k)∧(if r.knows p k o<r.lowTo p o k then r.knows p k o else r.lowTo p o k)≤_
  split<;>omega
theorem ar0 {α:Type} (f:Nat→List α):∀ (n i:Nat),i<n→((List.range i).flatMap f).length+(f i).length≤((List.range n).flatMap f).length
 | 0,i,h=>by omega
 | n+1,i,h=>by
  rw [List.range_succ,List.flatMap_append,List.length_append]
  by_cases e:i=n
  ·subst e
   simp
  ·have:=ar0 f n i (by omega)
   omega
theorem af8 {α:Type} (f:Nat→List α) (n:Nat):(List.range (n+1)).flatMap f=(List.range n).flatMap f++f n:=by rw [List.range_succ,List.flatMap_append];simp
theorem ah5 (P:Nat→Bool):∀ (n i:Nat),i≤n→((List.range i).filter P).length≤((List.range n).filter P).length
 | 0,i,h=>by rw [show i=0 by omega];exact Nat.le_refl _
 | n+1,i,h=>by
  by_cases e:i=n+1
  ·rw [e];exact Nat.le_refl _
  ·rw [List.range_succ,List.filter_append,List.length_append]
   have:=ah5 P n i (by omega)
   omega
def kAt (r:RN) (o:Nat) (x:Int) (i:Nat):Bool:=decide ((r.ws[i]?).map (fun f=>(f.org,f.seq))=some ((o:Int),x))
theorem b31 (r:RN) (o:Nat) (x:Int):r.a5c o x=(List.range r.ws.length).filter (kAt r o x):=rfl
def a0i (r:RN) (g:Gr) (p o j i:Nat):List Nat:=(List.range o).flatMap (r.keptO g p)++((List.range j).flatMap (fun (j:Nat)=>r.a5c o (r.lowTo p o g.n+1+(j:Int)))++(List.range i).filter (kAt r o (r.lowTo p o g.n+1+(j:Int))))
theorem ap5 {r:RN} {g:Gr} {p o j:Nat}:a0i r g p o (j+1) 0=a0i r g p o j r.ws.length:=by
 unfold a0i
 rw [af8]
 simp [b31]
theorem an6 {r:RN} {g:Gr} {p o:Nat}:a0i r g p (o+1) 0 0=a0i r g p o ((r.cnt o:Int)+g.W-r.lowTo p o g.n).toNat 0:=by
 unfold a0i
 rw [af8]
 simp [RN.keptO]
theorem ax4 {r:RN} {g:Gr} {p o j i:Nat} (h:kAt r o (r.lowTo p o g.n+1+(j:Int)) i=true):a0i r g p o j (i+1)=a0i r g p o j i++[i]:=by
 unfold a0i
 rw [List.range_succ,List.filter_append]
 simp [h]
theorem b33 {r:RN} {g:Gr} {p o j i:Nat} (h:kAt r o (r.lowTo p o g.n+1+(j:Int)) i=false):a0i r g p o j (i+1)=a0i r g p o j i:=by
 unfold a0i
 rw [List.range_succ,List.filter_append]
 simp [h]
theorem b3a {r:RN} {g:Gr} {p o j i:Nat} (ho:o<g.n) (hj:j<((r.cnt o:Int)+g.W-r.lowTo p o g.n).toNat) (hi:i≤r.ws.length):(a0i r g p o j i).length≤(r.kept g p).length:=by
 have h1:=ar0 (r.keptO g p) g.n o ho
 have h2:=ar0 (fun (j:Nat)=>r.a5c o (r.lowTo p o g.n+1+(j:Int))) ((r.cnt o:Int)+g.W-r.lowTo p o g.n).toNat j hj
 have h3:=ah5 (kAt r o (r.lowTo p o g.n+1+(j:Int))) r.ws.length i hi
 unfold a0i
 unfold RN.kept
 rw [List.length_append,List.length_append]
 have e:(r.keptO g p o).length=((List.range ((r.cnt o:Int)+g.W-r.lowTo p o g.n).toNat).flatMap (fun (j:Nat)=>r.a5c o (r.lowTo p o g.n+1+(j:Int)))).length:=rfl
 have e2:(r.a5c o (r.lowTo p o g.n+1+(j:Int))).length=((List.range r.ws.length).filter (kAt r o (r.lowTo p o g.n+1+(j:Int)))).length:=rfl
 rw [e] at h1
 have h2':((List.range j).flatMap (fun (j:Nat)=>r.a5c o (r.lowTo p o g.n+1+(j:Int)))).length+((List.range r.ws.length).filter (kAt r o (r.lowTo p o g.n+1+(j:Int)))).length≤_:=h2
 exact Nat.le_trans (Nat.add_le_add_left (Nat.le_trans (Nat.add_le_add_left h3 _) h2') _) h1
theorem b0j {r:RN} {g:Gr} {p:Nat}:a0i r g p g.n 0 0=r.kept g p:=by
 unfold a0i RN.kept
 simp
theorem a5k (a b:List Nat):hrow (a++b)=hrow a++hrow b:=by simp [hrow]
theorem aj3 (b:Nat) (g:Gr) (p:Nat) (r:RN) (G:RLay) (hg:g.Ok) (hl:r.hd.length≤1000000000) (hl1:G.ss.length≤1000000000) (hl2:G.fs.length≤1000000000) (hkl:(r.kept g p).length≤1000000) (w:World) (h:RNd w b g p r G) :
  Calls Tryz.prog 172 #[.pointer (some ⟨b,0,none⟩)] w fun e w'=>(∃ la lc,e=.returned (.slice la (r.kept g p).length lc)∧w'.ownsRow w.heap.size 3 1 (.slice la (r.kept g p).length lc) (r.kept g p).length (hrow (r.kept g p)))∧Below w.heap.size w w':=by
 have HH:Hid (RNd w b g p r G):=h
 have hn8:=hg.n.2
 have hW8:=hg.W
 have HWl:Hid (G.fs.length=r.ws.length):=by show _=_;rw [←h.ws,List.length_map]
 clear h hg
 go_enter Tryz.func172,Tryz.ntmps172
 go_wp2_with fail
 go_loopw [3,4] (fun a c wr=>∃ (o:Nat) (la:Option Addr) (lc:Nat),o≤g.n∧c=.int .i64 o∧a=.slice la (a0i r g p o 0 0).length lc∧wr.ownsRow w.heap.size 3 1 a (a0i r g p o 0 0).length (hrow (a0i r g p o 0 0))∧Below w.heap.size w wr) (fun _ c _=>g.n-(intOf c).toNat)
 case atStart=>exact ⟨0,none,0,Nat.zero_le _,rfl,rfl,⟨rfl,Or.inl ⟨rfl,rfl⟩⟩,Below.refl _ _⟩
 case round =>
  obtain ⟨o,la,lc,hon,rfl,rfl,ho,hb⟩:=hrel
  have HB:Hid (Below w.heap.size w wr):=hb
  have HO:Hid _:=ho
  have HR:Hid (RNd wr b g p r G):=HH.out.low hb
  have c0:=HR.out.c0
  clear hb ho
  by_cases hlt:o<g.n
  ·have hoi:(o:Int)<(g.n:Int):=by omega
   have HLo:Hid _:=as9 b g p r G o hlt hn8 hl hl1 hl2 wr HR.out
   have hbd:=aw2 r p o g.n
   have hcl:=b6f r o
   have HNx:Hid (a0i r g p (o+1) 0 0=a0i r g p o ((r.cnt o:Int)+g.W-r.lowTo p o g.n).toNat 0):=an6
   have HSu:Hid (∀ j i,j<((r.cnt o:Int)+g.W-r.lowTo p o g.n).toNat→i≤G.fs.length→(a0i r g p o j i).length≤1000000):=fun j i hj hi=>Nat.le_trans (b3a hlt hj (by rw [←HWl.out];exact hi)) hkl
   have HCt:Hid (∀ y,Below w.heap.size w y→Calls Tryz.prog 166 #[.pointer (some ⟨b,0,none⟩),.int .i64 (o:Int)] y fun e w'=>e=.returned (.int .i64 (r.cnt o:Int))∧Below y.heap.size y w'):=fun y hy=>a1y b g p r G o hl y (HH.out.low hy)
   have HKt:Hid (∀ j i f,G.fs[i]?=some f→kAt r o (r.lowTo p o g.n+1+(j:Int)) i=decide (f.org=(o:Int)∧f.seq=r.lowTo p o g.n+1+(j:Int))):=fun j i f hf=>by
    have h1:=HH.out.wsget hf
    unfold kAt
    rw [h1]
    simp [Fr.fm]
   obtain ⟨lw,hlw⟩:∃ lw,lw=r.lowTo p o g.n:=⟨_,rfl⟩
   obtain ⟨ct,hct⟩:∃ ct,ct=r.cnt o:=⟨_,rfl⟩
   have HLw:Hid (lw=r.lowTo p o g.n):=hlw
   rw [←hlw] at hbd HLo HNx HSu HKt
   rw [←hct] at hbd hcl HNx HSu HCt
   obtain ⟨J,hJ⟩:∃ J,J=((ct:Int)+g.W-lw).toNat:=⟨_,rfl⟩
   rw [←hJ] at HNx HSu
   have hJi:(J:Int)=(ct:Int)+g.W-lw:=by omega
   clear hlw hct hJ
   go_wp2_with fail
   refine (show Calls _ _ _ _ _ from HLo.out).mono ?_
   rintro e w1 ⟨rfl,hb1⟩
   have HB1:Hid (Below w.heap.size w w1):=bthen HB.out hb1
   have HO1:Hid (w1.ownsRow w.heap.size 3 1 (.slice la (a0i r g p o 0 0).length lc) (a0i r g p o 0 0).length (hrow (a0i r g p o 0 0))):=a1a HO.out hb1
   clear hb1 c0
   go_wp2_with fail
   refine (show Calls _ _ _ _ _ from HCt.out _ HB1.out).mono ?_
   rintro e w2 ⟨rfl,hb2⟩
   have HB2:Hid (Below w.heap.size w w2):=bthen HB1.out hb2
   have HO2:Hid (w2.ownsRow w.heap.size 3 1 (.slice la (a0i r g p o 0 0).length lc) (a0i r g p o 0 0).length (hrow (a0i r g p o 0 0))):=a1a HO1.out hb2
   have hw1:IntKind.i64.wrap (lw+1)=lw+1:=by rw [IntKind.wrap_i64];omega
   have hw2:IntKind.i64.wrap ((ct:Int)+g.W)=(ct:Int)+g.W:=by rw [IntKind.wrap_i64];omega
   clear hb2
   go_wp2_with fail
   go_loopw [3,7] (fun a c wr=>∃ (j:Nat) (la:Option Addr) (lc:Nat),j≤J∧c=.int .i64 (lw+1+(j:Int))∧a=.slice la (a0i r g p o j 0).length lc∧wr.ownsRow w.heap.size 3 1 a (a0i r g p o j 0).length (hrow (a0i r g p o j 0))∧Below w.heap.size w wr) (fun _ c _=>(lw+1+(J:Int)-intOf c).toNat)
   case atStart=>exact ⟨0,la,lc,Nat.zero_le _,by simp,rfl,HO2.out,HB2.out⟩
   case round =>
    obtain ⟨j,la2,lc2,hjn,rfl,rfl,hoj,hbj⟩:=hrel
    have HBj:Hid (Below w.heap.size w wr):=hbj
    have HOj:Hid _:=hoj
    have HRj:Hid (RNd wr b g p r G):=HH.out.low hbj
    have c1:=HRj.out.c1
    clear hbj hoj
    by_cases hjl:j<J
    ·have hle:lw+1+(j:Int)≤(ct:Int)+g.W:=by omega
     have HNj:Hid (a0i r g p o (j+1) 0=a0i r g p o j G.fs.length):=by show _=_;rw [ap5,HWl.out]
     obtain ⟨sq,hsq⟩:∃ sq,sq=lw+1+(j:Int):=⟨_,rfl⟩
     have hw3:IntKind.i64.wrap (sq+1)=sq+1:=by rw [IntKind.wrap_i64];omega
     have hle2:sq≤(ct:Int)+g.W:=by omega
     rw [←hsq]
     have HSq:Hid (sq=lw+1+(j:Int)):=hsq
     clear hsq hle
     go_wp2_with fail
     go_loopw [3,8] (fun a c wr=>∃ (i:Nat) (la:Option Addr) (lc:Nat),i≤G.fs.length∧c=.int .i64 (i:Int)∧a=.slice la (a0i r g p o j i).length lc∧wr.ownsRow w.heap.size 3 1 a (a0i r g p o j i).length (hrow (a0i r g p o j i))∧Below w.heap.size w wr) (fun _ c _=>G.fs.length-(intOf c).toNat)
     case atStart=>exact ⟨0,la2,lc2,Nat.zero_le _,rfl,rfl,HOj.out,HBj.out⟩
     case round =>
      obtain ⟨i,la3,lc3,hin,rfl,rfl,hoi3,hb3⟩:=hrel
      have HB3:Hid (Below w.heap.size w wr):=hb3
      have HO3:Hid _:=hoi3
      have HR3:Hid (RNd wr b g p r G):=HH.out.low hb3
      have c5:=HR3.out.c5
      clear hb3 hoi3
      by_cases hil:i<G.fs.length
      ·have hii:(i:Int)<(G.fs.length:Int):=by omega
       obtain ⟨f,hf⟩:∃ f,G.fs[i]?=some f:=⟨G.fs[i],List.getElem?_eq_getElem _⟩
       obtain ⟨gw,hgw,_,_,q2,q3,_⟩:=HR3.out.wget hf
       rw [hgw] at c5
       have HKa:Hid _:=HKt.out j i f hf
       rw [←HSq.out] at HKa
       have HYes:Hid (kAt r o sq i=true→a0i r g p o j (i+1)=a0i r g p o j i++[i]):=fun hk=>ax4 (by rw [←HLw.out,←HSq.out];exact hk)
       have HNo:Hid (kAt r o sq i=false→a0i r g p o j (i+1)=a0i r g p o j i):=fun hk=>b33 (by rw [←HLw.out,←HSq.out];exact hk)
       have hlen:=HSu.out j i hjl (by omega)
       have HSz:Hid (w.heap.size≤wr.heap.size):=HB3.out.size
       have hw4:IntKind.i64.wrap ((i:Int)+1)=(i:Int)+1:=by rw [IntKind.wrap_i64];omega
       obtain ⟨i1,hj,hy0,hy1,hy2⟩:=info_parts Tryz.a3d
       clear hf hgw
       by_cases e1:f.org=(o:Int)
       ·rw [e1] at q2
        by_cases e2:f.seq=sq
        ·rw [e2] at q3
         have HY:Hid (a0i r g p o j (i+1)=a0i r g p o j i++[i]):=HYes.out (by rw [HKa.out];simp [e1,e2])
         have HYl:Hid ((a0i r g p o j (i+1)).length=(a0i r g p o j i).length+1):=by show _=_;rw [HY.out,List.length_append];rfl
         clear e1 e2
         go_wp2_with (at_builtin;refine wpList_append_own _ rfl (.tmp 68) (.tmp 70) 34 rfl w.heap.size 3 i1 _ 1 8 Tryz.underlying34 hj hy0 hy1 hy2 rfl (by decide) _ _ _ rfl (World.ownsRow.alloc HO3.out _) ⟨wr.heap.size,0,none⟩ 1 1 [.int .i64 (i:Int)] rfl rfl ?c1 ?c2 (by unfold maxLen;omega) (by omega) (by have:=HSz.out;simp;omega) ?_)
         case c1 =>
          intro q u hq
          match q,hq with
          | 0,hq=>simp at hq;subst hq;simp [Addr.add]
         case c2 =>
          intro u hu
          simp at hu
          subst hu
          rfl
         intro v4 w4 hown4 hgrow4 _
         have HG4:Hid (w4.ownsRow w.heap.size 3 1 v4 (a0i r g p o j (i+1)).length (hrow (a0i r g p o j (i+1)))):=by
          show World.ownsRow _ _ _ _ _ _ _
          rw [HYl.out,HY.out,a5k]
          exact hown4
         have HB4:Hid (Below w.heap.size w w4):=(HB3.out.alloc HSz.out _).grown hgrow4 (by have:=HSz.out;simp;omega) (ab8 HO3.out)
         obtain ⟨a4,c4',hg4⟩:=a01 hown4
         subst hg4
         clear hown4 hgrow4
         go_wp2_with fail
         go_roundw
         case rel=>exact ⟨i+1,a4,c4',by omega,by go_num,by rw [HYl.out],HG4.out,HB4.out⟩
         case measure=>simp [intOf];omega
        ·have HY:Hid (a0i r g p o j (i+1)=a0i r g p o j i):=HNo.out (by rw [HKa.out];simp [e2])
         have e3:(f.seq == sq)=false:=beq_eq_false_iff_ne.2 e2
         go_wp2_with fail
         go_roundw
         case rel=>exact ⟨i+1,la3,lc3,by omega,by go_num,by rw [HY.out],by rw [HY.out];exact HO3.out,HB3.out⟩
         case measure=>simp [intOf];omega
       ·have HY:Hid (a0i r g p o j (i+1)=a0i r g p o j i):=HNo.out (by rw [HKa.out];simp [e1])
        have e3:(f.org == (o:Int))=false:=beq_eq_false_iff_ne.2 e1
        go_wp2_with fail
        go_roundw
        case rel=>exact ⟨i+1,la3,lc3,by omega,by go_num,by rw [HY.out],by rw [HY.out];exact HO3.out,HB3.out⟩
        case measure=>simp [intOf];omega
      ·have hin':i=G.fs.length:=by omega
       subst hin'
       go_wp2_with fail
       go_roundw
       case rel=>exact ⟨j+1,la3,lc3,by omega,by rw [HSq.out];go_num,by rw [HNj.out],by rw [HNj.out];exact HO3.out,HB3.out⟩
       case measure=>have:=HSq.out;simp [intOf];omega
    ·have hjn':j=J:=by omega
     subst hjn'
     have hgt:¬ lw+1+(j:Int)≤(ct:Int)+g.W:=by omega
     go_wp2_with fail
     go_roundw
     case rel=>exact ⟨o+1,la2,lc2,by omega,by go_num,by rw [HNx.out],by rw [HNx.out];exact HOj.out,HBj.out⟩
     case measure=>simp [intOf];omega
  ·have hon':o=g.n:=by omega
   subst hon'
   have HE:Hid (a0i r g p g.n 0 0=r.kept g p):=b0j
   go_wp2_with fail
   go_ret
   refine ⟨⟨la,lc,?_,?_⟩,HB.out⟩
   ·rw [←HE.out];rfl
   ·rw [←HE.out];exact HO.out
theorem b3o {w:World} {z:Nat} {la:Option Addr} {lc:Nat} {ls:List Nat} (h:w.ownsRow z 3 1 (.slice la ls.length lc) ls.length (hrow ls)):Plc w la ls:=fun i j hi=>by
 have hil:=(List.getElem?_eq_some_iff.1 hi).1
 rcases h.2 with ⟨_,h0⟩ | ⟨gh,cap',cur,he,_⟩
 ·omega
 ·simp only [Value.slice.injEq] at he
  rw [he.1] at h
  refine ⟨gh,he.1,?_⟩
  rw [World.ownsRow.cellAt h i (by omega)]
  simp [hrow,hi]
theorem a6p {r:RN} {g:Gr} {p i:Nat} (h:i∈r.kept g p):i<r.ws.length:=by
 unfold RN.kept RN.keptO RN.a5c at h
 simp only [List.mem_flatMap,List.mem_filter,List.mem_range] at h
 obtain ⟨_,_,_,_,h,_⟩:=h
 exact h
theorem RNd.wsl {w:World} {b:Nat} {g:Gr} {p:Nat} {r:RN} {G:RLay} (h:RNd w b g p r G):G.fs.length=r.ws.length:=by rw [←h.ws,List.length_map]
theorem ay6 (b:Nat) (g:Gr) (p:Nat) (r:RN) (G:RLay) (hg:g.Ok) (hl:r.hd.length≤1000000000) (hl1:G.ss.length≤1000000000) (hl2:G.fs.length≤1000000000) (hkl:(r.kept g p).length≤1000000) (w:World) (h:RNd w b g p r G) :
  Calls Tryz.prog 115 #[.pointer (some ⟨b,0,none⟩)] w fun e w'=>(∃ v,e=.returned v∧Wrd w' w.heap.size v (r.listed (r.kept g p)))∧Below w.heap.size w w':=by
 have HK:Hid _:=aj3 b g p r G hg hl hl1 hl2 hkl w h
 have HL:Hid (∀ (la:Option Addr) (lc:Nat) (y:World),Below w.heap.size w y→Plc y la (r.kept g p)→Calls Tryz.prog 175 #[.pointer (some ⟨b,0,none⟩),.slice la (r.kept g p).length lc] y fun e w'=>(∃ v,e=.returned v∧Wrd w' y.heap.size v (r.listed (r.kept g p)))∧Below y.heap.size y w'):=fun la lc y hy hp=>a8n b g p r G la lc _ (by omega) (fun i hi=>by rw [h.wsl];exact a6p hi) y hp (h.low hy)
 clear h
 generalize r.listed (r.kept g p)=out at *
 generalize r.kept g p=ks at *
 go_enter Tryz.func115,Tryz.ntmps115
 go_wp2_with fail
 refine (show Calls _ _ _ _ _ from HK.out).mono ?_
 rintro e w1 ⟨⟨la,lc,rfl,ho⟩,hb1⟩
 have HB1:Hid _:=hb1
 have HP1:Hid (Plc w1 la ks):=b3o ho
 clear ho hb1
 go_wp2_with fail
 refine (show Calls _ _ _ _ _ from HL.out la lc w1 HB1.out HP1.out).mono ?_
 rintro e w2 ⟨⟨v,rfl,hv⟩,hb2⟩
 obtain ⟨av,cv,hsh⟩:=a01 hv.own
 subst hsh
 have HV:Hid _:=hv
 have HB2:Hid (Below w.heap.size w w2):=bthen HB1.out hb2
 have HZ:Hid (w.heap.size≤w1.heap.size):=HB1.out.size
 clear hv hb2
 go_wp2_with fail
 go_ret
 exact ⟨⟨_,rfl,⟨a3g HV.out.own HZ.out⟩⟩,HB2.out⟩
def RN.a3a (r:RN) (p q k:Nat):List Int:=(List.range k).map (fun (o:Nat)=>r.knows p q o)
theorem aq7 (r:RN) (p q k:Nat):r.a3a p q (k+1)=r.a3a p q k++[r.knows p q k]:=by simp [RN.a3a,List.range_succ]
theorem a6x (r:RN) (p q k:Nat):(r.a3a p q k).length=k:=by simp [RN.a3a]
def RN.view (r:RN) (g:Gr) (p:Nat) (q:Int):List Int:=if a08 g.n q then r.a3a p q.toNat g.n else []
theorem b3p (b:Nat) (g:Gr) (p:Nat) (r:RN) (G:RLay) (q:Int) (hn:g.n≤8) (hl:r.hd.length≤1000000000) (hl1:G.ss.length≤1000000000) (hl2:G.fs.length≤1000000000) (w:World) (h:RNd w b g p r G) :
  Calls Tryz.prog 120 #[.pointer (some ⟨b,0,none⟩),.int .i64 q] w fun e w'=>(∃ v,e=.returned (.tuple #[v,.int .i64 (viewK g.n q:Int)])∧w'.ownsRow w.heap.size 3 1 v (r.view g p q).length (irow (r.view g p q)))∧Below w.heap.size w w':=by
 have HH:Hid (RNd w b g p r G):=h
 have HVE:Hid (r.view g p q=if a08 g.n q then r.a3a p q.toNat g.n else []):=rfl
 have HVK:Hid (viewK g.n q=if a08 g.n q then 0 else 1):=rfl
 have c0:=h.c0
 have c1:=h.c1
 have c2:=h.c2
 have c3:=h.c3
 clear h
 go_enter Tryz.func120,Tryz.ntmps120
 go_wp2_with fail
 refine (a2b g.n g.W g.B g.L q w).mono ?_
 rintro e w1 ⟨rfl,hb1⟩
 have HB1:Hid (Below w.heap.size w w1):=hb1
 clear hb1 c0 c1 c2 c3
 by_cases hq:a08 g.n q=true
 ·have hq2:=of_decide_eq_true hq
  have HV2:Hid (r.view g p q=r.a3a p q.toNat g.n):=by show _=_;rw [HVE.out,if_pos hq]
  have HK2:Hid (viewK g.n q=0):=by show _=_;rw [HVK.out,if_pos hq]
  obtain ⟨m,rfl⟩:∃ m:Nat,q=m:=⟨q.toNat,by omega⟩
  rw [show (m:Int).toNat=m by omega] at HV2
  rw [decide_eq_true hq2]
  clear hq2 hq
  go_wp2_with fail
  go_loopw [7,8] (fun a c wr=>∃ k:Nat,k≤g.n∧c=.int .i64 k∧wr.ownsRow w.heap.size 3 1 a k (irow (r.a3a p m k))∧Below w.heap.size w wr) (fun _ c _=>g.n-(intOf c).toNat)
  case atStart=>exact ⟨0,Nat.zero_le _,rfl,⟨rfl,Or.inl ⟨rfl,rfl⟩⟩,HB1.out⟩
  case round =>
   obtain ⟨k,hkn,rfl,ho,hb⟩:=hrel
   have HB:Hid (Below w.heap.size w wr):=hb
   have HO:Hid _:=ho
   have HR:Hid (RNd wr b g p r G):=HH.out.low hb
   have c0:=HR.out.c0
   obtain ⟨av,cv,hsh⟩:=a01 ho
   subst hsh
   clear hb ho
   by_cases hlt:k<g.n
   ·have hki:(k:Int)<(g.n:Int):=by omega
    go_wp2_with fail
    refine (a7b b g p r G m k hlt hl hl1 hl2 wr HR.out).mono ?_
    rintro e w1 ⟨rfl,hb1⟩
    have HB1:Hid (Below w.heap.size w w1):=bthen HB.out hb1
    have HO1:Hid (w1.ownsRow w.heap.size 3 1 (.slice av k cv) k (irow (r.a3a p m k))):=a1a HO.out hb1
    have hsz:w.heap.size≤w1.heap.size:=HB1.out.size
    have HS:Hid (r.a3a p m (k+1)=r.a3a p m k++[r.knows p m k]):=aq7 r p m k
    obtain ⟨i1,hj,hy0,hy1,hy2⟩:=info_parts Tryz.a3d
    clear hb1 c0
    generalize r.knows p m k=ck at *
    go_wp2_with (at_builtin;refine wpList_append_own _ rfl (.tmp 31) (.tmp 33) 34 rfl w.heap.size 3 i1 _ 1 8 Tryz.underlying34 hj hy0 hy1 hy2 rfl (by decide) _ _ _ rfl (World.ownsRow.alloc HO1.out _) ⟨w1.heap.size,0,none⟩ 1 1 [.int .i64 ck] rfl rfl ?c1 ?c2 (by unfold maxLen;omega) (by omega) (by simp;omega) ?_)
    case c1 =>
     intro q u hq
     match q,hq with
     | 0,hq=>simp at hq;subst hq;simp [Addr.add]
    case c2 =>
     intro u hu
     simp at hu
     subst hu
     rfl
    intro v4 w4 hown4 hgrow4 _
    have HG4:Hid (w4.ownsRow w.heap.size 3 1 v4 (k+1) (irow (r.a3a p m (k+1)))):=by
     rw [HS.out,a8w]
     exact hown4
    have HB4:Hid (Below w.heap.size w w4):=(HB1.out.alloc hsz _).grown hgrow4 (by simp;omega) (ab8 HO1.out)
    obtain ⟨a4,c4',hg4⟩:=a01 hown4
    subst hg4
    clear hown4 hgrow4
    go_wp2_with fail
    go_roundw
    case rel=>exact ⟨k+1,by omega,by go_num,HG4.out,HB4.out⟩
    case measure=>simp [intOf];omega
   ·have hkn':k=g.n:=by omega
    subst hkn'
    have HLn:Hid ((r.a3a p m g.n).length=g.n):=a6x r p m g.n
    go_wp2_with fail
    go_ret2
    refine ⟨⟨_,by rw [HK2.out];rfl,?_⟩,HB.out⟩
    rw [HV2.out,HLn.out]
    exact HO.out
 ·have hqf:a08 g.n q=false:=by simpa using hq
  have HV2:Hid (r.view g p q=[]):=by show _=_;rw [HVE.out,hqf];rfl
  have HK2:Hid (viewK g.n q=1):=by show _=_;rw [HVK.out,hqf];rfl
  rw [show decide (0≤q∧q<(g.n:Int))=false from hqf]
  clear hqf hq
  go_wp2_with fail
  go_ret2
  refine ⟨⟨_,by rw [HK2.out];rfl,?_⟩,HB1.out⟩
  rw [HV2.out]
  exact World.ownsRow_nil _ _ _ _
theorem b26 {w:World} {base n:Nat} {v:Value} {vs:List Int} (hn:0<n) (h:w.ownsRow base 3 1 v n (irow vs)):∃ a c,v=.slice a n c∧Ints w a n vs:=by
 rcases h.2 with ⟨_,h0⟩ | ⟨gh,cap',cur,he,hr⟩
 ·omega
 ·subst he
  exact ⟨_,_,rfl,a3b h⟩
theorem Sim.clock {g:Gr} {p:Nat} {s:NS} {r:RN} (h:Sim g p s r) (hp:p<g.n):s.vs.getD p []=r.clkTo g.n:=by
 have hl:(s.vs.getD p []).length=g.n:=h.ok.clk.shp.elen p hp
 refine List.ext_getElem (by rw [hl,a8p]) fun i h1 h2=>?_
 have hi:i<g.n:=by omega
 have e:=h.mid.cnt hi
 unfold vw at e
 rw [List.getD_eq_getElem?_getD,List.getElem?_eq_getElem h1] at e
 simp [RN.clkTo]
 exact e.symm
def a1t (fs:List Fr) (ks:List Nat):List Fr:=ks.filterMap (fun i=>fs[i]?)
theorem a4k {fs:List Fr}:∀ {ks:List Nat},(∀ i∈ks,i<fs.length)→(a1t fs ks).length=ks.length∧∀ (j i:Nat),ks[j]?=some i→(a1t fs ks)[j]?=fs[i]?
 | [],_=>⟨rfl,fun j i h=>by simp at h⟩
 | k :: ks,h=>by
  have hkl:k<fs.length:=h k (List.mem_cons_self ..)
  have hk:fs[k]?=some fs[k]:=List.getElem?_eq_getElem hkl
  have ih:=a4k (ks:=ks) fun i hi=>h i (List.mem_cons_of_mem _ hi)
  have e:a1t fs (k :: ks)=fs[k]'(h k (List.mem_cons_self ..)) :: a1t fs ks:=by
   unfold a1t
   rw [List.filterMap_cons,hk]
  rw [e]
  refine ⟨by simp [ih.1],fun j i hj=>?_⟩
  cases j with
  | zero =>
   simp at hj
   subst hj
   simp [hk]
  | succ j =>
   simp at hj
   rw [List.getElem?_cons_succ]
   exact ih.2 j i hj
theorem a97 (fs:List Fr) (r:RN) (hw:fs.map Fr.fm=r.ws) (ks:List Nat):(a1t fs ks).map Fr.fm=r.at ks:=by
 unfold a1t RN.at
 rw [List.map_filterMap,←hw]
 congr 1
 funext i
 rw [List.getElem?_map]
theorem b1c (b:Nat) (g:Gr) (p:Nat) (s:NS) (r:RN) (G:RLay) (hg:g.Ok) (hp:p<g.n) (hs:Sim g p s r) (hkd:∀ f∈G.fs,f.kind=1) (hl:r.hd.length≤1000000000) (hl1:G.ss.length≤1000000000) (hl2:G.fs.length≤1000000000) (w:World) (h:RNd w b g p r G) :
  Calls Tryz.prog 111 #[.pointer (some ⟨b,0,none⟩)] w fun e w'=>(∃ v,e=.returned v∧Pks w' w.heap.size v (s.tick g p))∧Below w.heap.size w w':=by
 have hn8:=hg.n
 have hin:∀ i∈r.kept g p,i<G.fs.length:=fun i hi=>by rw [h.wsl];exact a6p hi
 have hFA:=a4k hin
 have HFm:Hid ((a1t G.fs (r.kept g p)).map Fr.fm=s.st):=by show _=_;rw [a97 G.fs r h.ws,hs.kept hp]
 have HSH:Hid (s.st.length≤64):=hs.ok.short hg
 have hfl:(a1t G.fs (r.kept g p)).length≤64:=by rw [←List.length_map (f:=Fr.fm),HFm.out];exact HSH.out
 have hkl:(r.kept g p).length≤64:=by rw [←hFA.1];exact hfl
 have HK:Hid _:=aj3 b g p r G hg hl hl1 hl2 (by omega) w h
 have HGet:Hid (∀ (j i:Nat),(r.kept g p)[j]?=some i→i<G.fs.length∧∃ f,(a1t G.fs (r.kept g p))[j]?=some f∧G.fs[i]?=some f):=fun j i hj=>by
  have hi:=hin i (List.mem_of_getElem? hj)
  exact ⟨hi,_,by rw [hFA.2 j i hj,List.getElem?_eq_getElem hi],List.getElem?_eq_getElem hi⟩
 have HFl:Hid ((a1t G.fs (r.kept g p)).length=(r.kept g p).length):=hFA.1
 have HCk:Hid (s.vs.getD p []=r.clkTo g.n):=hs.clock hp
 have HTE:Hid (s.tick g p=a0z g p s g.n):=rfl
 obtain ⟨sx,hsx⟩:∃ sx,sx=a4d g p (r.clkTo g.n):=⟨_,rfl⟩
 have HSX:Hid (sx=a4d g p (s.vs.getD p [])):=by show _=_;rw [HCk.out,hsx]
 have HSt:Hid (∀ (ad:Option Addr) (cp:Nat) (y:World),Ints y ad g.n (r.clkTo g.n)→Calls Tryz.prog 173 #[.agg #[.int .i64 (g.n:Int),.int .i64 g.W,.int .i64 g.B,.int .i64 g.L],.agg #[.int .i64 2,.int .i64 (p:Int),.int .i64 0,.int .i64 0,.int .i64 0,.slice ad g.n cp,.string ⟨#[]⟩]] y fun e w'=>e=.returned (.string sx)∧Below y.heap.size y w'):=fun ad cp y hy=>by
  have hb:∀ o,o<g.n→0≤(r.clkTo g.n).getD o 0∧(r.clkTo g.n).getD o 0≤g.L:=fun o ho=>by
   rw [←HCk.out]
   exact hs.ok.clk.bd p o hp ho
  rw [hsx,a8e hg hp (a8p r g.n) hb]
  exact a2t g.n g.W g.B g.L 2 p 0 0 0 ad g.n cp ⟨#[]⟩ (r.clkTo g.n) y hy hg.okG (a6u hp (a8p r g.n) hb)
 have HTx:Hid (∀ (f:Fr) (y:World),f∈G.fs→Below w.heap.size w y→Calls Tryz.prog 173 #[.agg #[.int .i64 (g.n:Int),.int .i64 g.W,.int .i64 g.B,.int .i64 g.L],.agg #[.int .i64 1,.int .i64 (p:Int),.int .i64 f.org,.int .i64 f.seq,.int .i64 f.low,.slice f.ad g.n f.cap,.string f.body]] y fun e w'=>e=.returned (.string (textM g p f.fm))∧Below y.heap.size y w'):=fun f y hf hy=>by
  have hok:f.fm.Ok g:=hs.mid.wok _ (by rw [←h.ws];exact List.mem_map_of_mem hf)
  rw [a7v hg hp hok]
  exact a2t g.n g.W g.B g.L 1 p f.org f.seq f.low f.ad g.n f.cap f.body f.vec y ((h.fv f hf).below hy) hg.okG (a5y hp hok)
 have HKn:Hid (∀ (q o:Nat) (y:World),q<g.n→o<g.n→Below w.heap.size w y→Calls Tryz.prog 174 #[.pointer (some ⟨b,0,none⟩),.int .i64 (q:Int),.int .i64 (o:Int)] y fun e w'=>e=.returned (.int .i64 (vw s.vs q o))∧Below y.heap.size y w'):=fun q o y hq ho hy=>by
  rw [←hs.mid.knows hq ho]
  exact a7b b g p r G q o ho hl hl1 hl2 y (h.low hy)
 have HOr:Hid (∀ f∈G.fs,∃ o:Nat,f.org=o∧o<g.n):=fun f hf=>(hs.mid.wok f.fm (by rw [←h.ws];exact List.mem_map_of_mem hf)).org
 have HKd:Hid (∀ f∈G.fs,f.kind=1):=hkd
 have HH:Hid (RNd w b g p r G):=h
 have HCl:Hid (∀ y,Below w.heap.size w y→Calls Tryz.prog 116 #[.pointer (some ⟨b,0,none⟩)] y fun e w'=>(∃ v,e=.returned v∧w'.ownsRow y.heap.size 3 1 v g.n (irow (r.clkTo g.n)))∧Below y.heap.size y w'):=fun y hy=>a6q b g p r G hn8.2 hl y (h.low hy)
 clear h hs hkd hFA hsx hin
 generalize a1t G.fs (r.kept g p)=fs at *
 generalize r.clkTo g.n=cks at *
 generalize r.kept g p=ks at *
 go_enter Tryz.func111,Tryz.ntmps111
 go_wp2_with fail
 refine (show Calls _ _ _ _ _ from HK.out).mono ?_
 rintro e w1 ⟨⟨la,lc,rfl,ho⟩,hb1⟩
 have HB1:Hid (Below w.heap.size w w1):=hb1
 have HP1:Hid (Plc w1 la ks):=b3o ho
 clear ho hb1
 go_wp2_with fail
 refine (show Calls _ _ _ _ _ from HCl.out w1 HB1.out).mono ?_
 rintro e w2 ⟨⟨v,rfl,ho⟩,hb2⟩
 obtain ⟨ca,cc,hcv,hci⟩:=b26 (by omega) ho
 subst hcv
 have HB2:Hid (Below w.heap.size w w2):=bthen HB1.out hb2
 have HP2:Hid (Plc w2 la ks):=HP1.out.low hb2
 have HCI:Hid (Ints w2 ca g.n cks):=hci
 have HR2:Hid (RNd w2 b g p r G):=HH.out.low HB2.out
 clear ho hb2 hci
 have HKp:Hid (∀ y,Below w2.heap.size w2 y→y.cell? ⟨b,0,none⟩=some (.int .i64 (g.n:Int))∧y.cell? ⟨b,1,none⟩=some (.int .i64 g.W)∧y.cell? ⟨b,2,none⟩=some (.int .i64 g.B)∧y.cell? ⟨b,3,none⟩=some (.int .i64 g.L)∧y.cell? ⟨b,4,none⟩=some (.int .i64 (p:Int))):=fun y hy=>by
  have h1:=HR2.out.low hy
  exact ⟨h1.c0,h1.c1,h1.c2,h1.c3,h1.c4⟩
 have hk0:=HKp.out w2 (Below.refl _ _)
 go_wp2_with fail
 go_region_held3 (fun y=>y.cell? ⟨b,0,none⟩=some (.int .i64 (g.n:Int))∧y.cell? ⟨b,1,none⟩=some (.int .i64 g.W)∧y.cell? ⟨b,2,none⟩=some (.int .i64 g.B)∧y.cell? ⟨b,3,none⟩=some (.int .i64 g.L)∧y.cell? ⟨b,4,none⟩=some (.int .i64 (p:Int))) (first|(exact hk0)|(exact HK1.out) | go_keep)
  (first|(go_at_call 173;refine (show Calls _ _ _ _ _ from HSt.out _ _ _ (HCI.out.below (by first | exact (Below.refl _ _).drew | exact below_drewN (Below.refl _ _) _ | exact Below.refl _ _))).mono ?_;rintro e w3 ⟨rfl,hb3⟩;have HB3:Hid (Below w2.heap.size w2 w3):=bthen (by first | exact (Below.refl _ _).drew | exact below_drewN (Below.refl _ _) _ | exact Below.refl _ _) hb3;have HK1:Hid _:=HKp.out w3 HB3.out;clear hb3))
 rename_i hHeld
 clear hHeld hk0 HKp HSt HCI
 have HBw:Hid (Below w.heap.size w w3):=bthen HB2.out HB3.out
 have HPw:Hid (Plc w3 la ks):=HP2.out.low HB3.out
 obtain ⟨i1,hj,hy0,hy1,hy2⟩:=info_parts Tryz.a13
 clear HK HCl HB1 HP1 HB2 HP2 HR2
 go_wp2_with fail
 go_loopw [3,7] (fun pv c wr=>∃ k:Nat,k≤g.n∧c=.int .i64 k∧Pks wr w3.heap.size pv (a0z g p s k)∧Below w3.heap.size w3 wr) (fun _ c _=>g.n-(intOf c).toNat)
 case atStart=>exact ⟨0,Nat.zero_le _,rfl,Pks.nil _ _,Below.refl _ _⟩
 case round =>
  obtain ⟨k,hkn,rfl,hps,hbel⟩:=hrel
  have HPS:Hid _:=hps
  have HB3r:Hid (Below w3.heap.size w3 wr):=hbel
  have HBel:Hid (Below w.heap.size w wr):=bthen HBw.out hbel
  have HRr:Hid (RNd wr b g p r G):=HH.out.low HBel.out
  have d0:=HRr.out.c0
  have d4:=HRr.out.c4
  clear hps hbel
  obtain ⟨av,cv,hshape⟩:=a01 HPS.out.own
  subst hshape
  by_cases hlt:k<g.n
  ·have hki:(k:Int)<(g.n:Int):=by omega
   by_cases hkp:k=p
   ·subst hkp
    have HTk:Hid (a0z g k s (k+1)=a0z g k s k):=if_pos rfl
    go_wp2_with fail
    go_roundw
    case rel=>exact ⟨k+1,by omega,by go_num,by rw [HTk.out];exact HPS.out,HB3r.out⟩
    case measure=>simp [intOf];omega
   ·have hne:((k:Int) == (p:Int))=false:=by simp;omega
    have HTk:Hid (a0z g p s (k+1)=a0z g p s k++tickW g p s.vs k s.st++[⟨(k:Int),sx⟩]):=by
     show a0z g p s (k+1)=_
     rw [HSX.out]
     exact if_neg hkp
    have HLn:Hid (∀ j,(tickJ g p s fs k j).length≤65 * k+64):=fun j=>a7j g p s fs HSH.out hfl k j
    have HT0:Hid (Pks wr w3.heap.size (.slice av (a0z g p s k).length cv) (tickJ g p s fs k 0)):=by rw [aa3];exact HPS.out
    go_wp2_with fail
    clear d0 d4
    go_loopw [3,8] (fun pv c wq=>∃ j:Nat,j≤ks.length∧c=.int .i64 j∧Pks wq w3.heap.size pv (tickJ g p s fs k j)∧Below w3.heap.size w3 wq) (fun _ c _=>ks.length-(intOf c).toNat)
    case atStart=>exact ⟨0,Nat.zero_le _,rfl,HT0.out,HB3r.out⟩
    case round =>
     obtain ⟨j,hjn,rfl,hps2,hbel2⟩:=hrel
     have HPS2:Hid _:=hps2
     have HB3q:Hid (Below w3.heap.size w3 wr):=hbel2
     have HBel2:Hid (Below w.heap.size w wr):=bthen HBw.out hbel2
     clear hps2 hbel2
     obtain ⟨av2,cv2,hshape2⟩:=a01 HPS2.out.own
     subst hshape2
     by_cases hlt2:j<ks.length
     ·have hji:(j:Int)<(ks.length:Int):=by omega
      have HRq:Hid (RNd wr b g p r G):=HH.out.low HBel2.out
      have HPq:Hid (Plc wr la ks):=HPw.out.low HB3q.out
      obtain ⟨i,hi⟩:∃ i,ks[j]?=some i:=⟨ks[j],List.getElem?_eq_getElem _⟩
      obtain ⟨hil,f,hfj,hf⟩:=HGet.out j i hi
      have hfm:=List.mem_of_getElem? hf
      obtain ⟨o,hof,hon⟩:=HOr.out f hfm
      obtain ⟨gl,hgl,q⟩:=HPq.out j i hi
      obtain ⟨gw,hgw,q0,q1,q2,q3,q4,q5,q6⟩:=HRq.out.wget hf
      have c5:=HRq.out.c5
      rw [hgw] at c5
      have hkd:=HKd.out f hfm
      have HTs:Hid _:=aa4 (g:=g) (p:=p) (s:=s) (k:=k) hfj
      have HSe:Hid (sends s.vs k f.fm=decide (f.org≠(k:Int)∧vw s.vs k f.org.toNat<f.seq)):=rfl
      have HTf:Hid (∀ y,Below w.heap.size w y→_):=fun y hy=>HTx.out f y hfm hy
      obtain ⟨kd,fm,org,seq,lo,ad,cp,vec,body⟩:=f
      have hof':org=(o:Int):=hof
      have hkd':kd=1:=hkd
      subst hof' hkd'
      simp only at q0 q1 q2 q3 q4 q5 q6 HSe HTf
      have hili:(i:Int)<(G.fs.length:Int):=by omega
      have hoi:(o:Int)<(g.n:Int):=by omega
      clear hof hkd hfj hf hfm hi hgw
      rw [show (o:Int).toNat=o by omega] at HSe
      generalize textM g p (Fr.fm ⟨1,fm,(o:Int),seq,lo,ad,cp,vec,body⟩)=tx at *
      generalize sends s.vs k (Fr.fm ⟨1,fm,(o:Int),seq,lo,ad,cp,vec,body⟩)=se at *
      have HKc:Hid (∀ y,Below w.heap.size w y→_):=fun y hy=>HKn.out k o y hlt hon hy
      generalize vw s.vs k o=kn at *
      subst hgl
      have hal:∀ (bb ii:Nat) (vv:Value),wr.cell? ⟨bb,ii,none⟩=some vv→∀ o,(wr.alloc o).cell? ⟨bb,ii,none⟩=some vv:=fun bb ii vv hc o=>((a00 wr o).cell (p:=⟨bb,ii,none⟩) (lt_of_cell hc)).trans hc
      have z:=hal _ _ _ q
      have z0:=hal _ _ _ q0
      have z1:=hal _ _ _ q1
      have z2:=hal _ _ _ q2
      have z3:=hal _ _ _ q3
      have z4:=hal _ _ _ q4
      have z5:=hal _ _ _ q5
      have z6:=hal _ _ _ q6
      have zc:=hal _ _ _ c5
      clear hal
      go_wp2_with fail
      go_region
      clear z z0 z1 z2 z3 z4 z5 z6 zc q q0 q1 q2 q3 q4 q5 q6 c5
      have HBx:Hid (Below wr.heap.size wr (wr.alloc (.cells #[.int .i64 1,.int .i64 fm,.int .i64 (o:Int),.int .i64 seq,.int .i64 lo,.slice ad g.n cp,.string body] 45)).drew):=(a00 _ _).drew
      have HSv:Hid (Seven wr.heap.size (wr.alloc (.cells #[.int .i64 1,.int .i64 fm,.int .i64 (o:Int),.int .i64 seq,.int .i64 lo,.slice ad g.n cp,.string body] 45)).drew (.int .i64 1) (.int .i64 fm) (.int .i64 (o:Int)) (.int .i64 seq) (.int .i64 lo) (.slice ad g.n cp) (.string body)):=(a05 wr (.int .i64 1) (.int .i64 fm) (.int .i64 (o:Int)) (.int .i64 seq) (.int .i64 lo) (.slice ad g.n cp) (.string body) 45).below (Below.refl (wr.heap.size+1) _).drew (by omega)
      have fz:(wr.alloc (.cells #[.int .i64 1,.int .i64 fm,.int .i64 (o:Int),.int .i64 seq,.int .i64 lo,.slice ad g.n cp,.string body] 45)).drew.frozen? ⟨wr.heap.size,1,none⟩=false:=frozen_of_row _ _ 1 _ 45 (heap_alloc_new _ _)
      generalize (wr.alloc (.cells #[.int .i64 1,.int .i64 fm,.int .i64 (o:Int),.int .i64 seq,.int .i64 lo,.slice ad g.n cp,.string body] 45)).drew=X at *
      have HRX:Hid (RNd X b g p r G):=HRq.out.low HBx.out
      have e4:=HRX.out.c4
      have e1:=HSv.out.c1
      have e2:=HSv.out.c2
      go_wp2_with fail
      have HBy:Hid (Below wr.heap.size wr (X.setCell ⟨wr.heap.size,1,none⟩ (.int .i64 (p:Int)))):=HBx.out.setCell (Nat.le_refl _) _
      have HSy:Hid (Seven wr.heap.size (X.setCell ⟨wr.heap.size,1,none⟩ (.int .i64 (p:Int))) (.int .i64 1) (.int .i64 (p:Int)) (.int .i64 (o:Int)) (.int .i64 seq) (.int .i64 lo) (.slice ad g.n cp) (.string body)):=HSv.out.set1 _
      generalize X.setCell ⟨wr.heap.size,1,none⟩ (.int .i64 (p:Int))=Y at *
      clear e4 e1 e2 fz HRX HSv HBx
      have HBwY:Hid (Below w.heap.size w Y):=bthen HBel2.out HBy.out
      refine (show Calls _ _ _ _ _ from HKc.out Y HBwY.out).mono ?_
      rintro e w4 ⟨rfl,hb4⟩
      have HB4r:Hid (Below wr.heap.size wr w4):=bthen HBy.out hb4
      have HB4w:Hid (Below w.heap.size w w4):=bthen HBwY.out hb4
      have HB43:Hid (Below w3.heap.size w3 w4):=bthen HB3q.out HB4r.out
      have HS4:Hid (Seven wr.heap.size w4 (.int .i64 1) (.int .i64 (p:Int)) (.int .i64 (o:Int)) (.int .i64 seq) (.int .i64 lo) (.slice ad g.n cp) (.string body)):=HSy.out.below hb4 HSy.out.z
      have HP4:Hid (Pks w4 w3.heap.size (.slice av2 (tickJ g p s fs k j).length cv2) (tickJ g p s fs k j)):=HPS2.out.alike (Alike.of_below HB4r.out (fun _=>False)) (fun _ _ _ h=>h)
      have s2:=HS4.out.c2
      have s3:=HS4.out.c3
      clear hb4 HKc
      by_cases y1:(o:Int)=(k:Int)
      ·have b1:((o:Int) != (k:Int))=false:=by simp [y1]
       have b2:((o:Int) == (k:Int))=true:=by simp [y1]
       have HSf:Hid (se=false):=HSe.out.trans (decide_eq_false (fun h=>h.1 y1))
       clear HSe y1
       go_wp2_with fail
       go_roundw
       case rel=>exact ⟨j+1,by omega,by go_num,by rw [HTs.out,HSf.out];exact (List.append_nil (tickJ g p s fs k j)).symm ▸ HP4.out,HB43.out⟩
       case measure=>simp [intOf];omega
      ·have b1:((o:Int) != (k:Int))=true:=by simp [y1]
       by_cases y3:kn<seq
       ·have HSt:Hid (se=true):=HSe.out.trans (decide_eq_true ⟨y1,y3⟩)
        have b3:decide (kn<seq)=true:=decide_eq_true y3
        clear HSe
        go_wp2_with fail
        have HR4:Hid (RNd w4 b g p r G):=HH.out.low HB4w.out
        have HKp:Hid (∀ y,Below w4.heap.size w4 y→y.cell? ⟨b,0,none⟩=some (.int .i64 (g.n:Int))∧y.cell? ⟨b,1,none⟩=some (.int .i64 g.W)∧y.cell? ⟨b,2,none⟩=some (.int .i64 g.B)∧y.cell? ⟨b,3,none⟩=some (.int .i64 g.L)∧y.cell? ⟨wr.heap.size,0,none⟩=some (.int .i64 1)∧y.cell? ⟨wr.heap.size,1,none⟩=some (.int .i64 (p:Int))∧y.cell? ⟨wr.heap.size,2,none⟩=some (.int .i64 (o:Int))∧y.cell? ⟨wr.heap.size,3,none⟩=some (.int .i64 seq)∧y.cell? ⟨wr.heap.size,4,none⟩=some (.int .i64 lo)∧y.cell? ⟨wr.heap.size,5,none⟩=some (.slice ad g.n cp)∧y.cell? ⟨wr.heap.size,6,none⟩=some (.string body)):=fun y hy=>by
         have h1:=HR4.out.low hy
         have h2:=HS4.out.below hy HS4.out.z
         exact ⟨h1.c0,h1.c1,h1.c2,h1.c3,h2.c0,h2.c1,h2.c2,h2.c3,h2.c4,h2.c5,h2.c6⟩
        have hk0:=HKp.out w4 (Below.refl _ _)
        clear s2 s3
        go_region_held3 (fun y=>y.cell? ⟨b,0,none⟩=some (.int .i64 (g.n:Int))∧y.cell? ⟨b,1,none⟩=some (.int .i64 g.W)∧y.cell? ⟨b,2,none⟩=some (.int .i64 g.B)∧y.cell? ⟨b,3,none⟩=some (.int .i64 g.L)∧y.cell? ⟨wr.heap.size,0,none⟩=some (.int .i64 1)∧y.cell? ⟨wr.heap.size,1,none⟩=some (.int .i64 (p:Int))∧y.cell? ⟨wr.heap.size,2,none⟩=some (.int .i64 (o:Int))∧y.cell? ⟨wr.heap.size,3,none⟩=some (.int .i64 seq)∧y.cell? ⟨wr.heap.size,4,none⟩=some (.int .i64 lo)∧y.cell? ⟨wr.heap.size,5,none⟩=some (.slice ad g.n cp)∧y.cell? ⟨wr.heap.size,6,none⟩=some (.string body)) (first|(exact hk0)|(exact HK1.out) | go_keep)
         (first|(go_at_call 173;refine (show Calls _ _ _ _ _ from HTf.out _ (bthen HB4w.out (by first | exact (Below.refl _ _).drew | exact below_drewN (Below.refl _ _) _ | exact Below.refl _ _))).mono ?_;rintro e w5 ⟨rfl,hb5⟩;have HB5:Hid (Below w4.heap.size w4 w5):=bthen (by first | exact (Below.refl _ _).drew | exact below_drewN (Below.refl _ _) _ | exact Below.refl _ _) hb5;have HK1:Hid _:=HKp.out w5 HB5.out;clear hb5))
        rename_i hHeld
        clear hHeld hk0
        have HB5w:Hid (Below w.heap.size w w5):=bthen HB4w.out HB5.out
        have HB53:Hid (Below w3.heap.size w3 w5):=bthen HB43.out HB5.out
        have HP5:Hid (Pks w5 w3.heap.size (.slice av2 (tickJ g p s fs k j).length cv2) (tickJ g p s fs k j)):=HP4.out.alike (Alike.of_below HB5.out (fun _=>False)) (fun _ _ _ h=>h)
        have hza:w3.heap.size≤w5.heap.size:=HB53.out.size
        go_wp2_with (at_builtin;refine wpList_append_own _ rfl (.tmp 84) (.tmp 88) 54 rfl w3.heap.size 109 i1 _ 2 24 Tryz.underlying54 hj hy0 hy1 hy2 rfl (by decide) _ _ _ rfl (World.ownsRow.alloc HP5.out.own _) ⟨w5.heap.size,0,none⟩ 1 1 [.int .i64 k,.string tx] rfl rfl ?c1 ?c2 (by have:=HLn.out j;unfold maxLen;omega) (by have:=HLn.out j;omega) (by simp;omega) ?_)
        case c1 =>
         intro q u hq
         match q,hq with
         | 0,hq=>simp at hq;subst hq;simp [Addr.add]
         | 1,hq=>simp at hq;subst hq;simp [Addr.add]
        case c2 =>
         intro u hu
         simp at hu
         rcases hu with rfl | rfl<;>rfl
        intro v6 w6 hown6 hgrow6 _
        have HG6:Hid (Pks w6 w3.heap.size v6 (tickJ g p s fs k (j+1))):=by
         refine ⟨?_⟩
         rw [HTs.out,HSt.out,if_pos rfl,a0q,List.length_append]
         exact hown6
        have HB6:Hid (Below w3.heap.size w3 w6):=(HB53.out.alloc hza _).grown hgrow6 (by simp;omega) HP5.out.block
        obtain ⟨a6,c6',hg6⟩:=a01 hown6
        subst hg6
        clear hown6 hgrow6
        go_wp2_with fail
        go_roundw
        case rel=>exact ⟨j+1,by omega,by go_num,HG6.out,HB6.out⟩
        case measure=>simp [intOf];omega
       ·have HSf:Hid (se=false):=HSe.out.trans (decide_eq_false (fun h=>y3 h.2))
        have b3:decide (kn<seq)=false:=decide_eq_false y3
        clear HSe
        go_wp2_with fail
        go_roundw
        case rel=>exact ⟨j+1,by omega,by go_num,by rw [HTs.out,HSf.out];exact (List.append_nil (tickJ g p s fs k j)).symm ▸ HP4.out,HB43.out⟩
        case measure=>simp [intOf];omega
     ·have hjn':j=ks.length:=by omega
      subst hjn'
      have hzb:w3.heap.size≤wr.heap.size:=HB3q.out.size
      go_wp2_with (at_builtin;refine wpList_append_own _ rfl (.tmp 90) (.tmp 94) 54 rfl w3.heap.size 109 i1 _ 2 24 Tryz.underlying54 hj hy0 hy1 hy2 rfl (by decide) _ _ _ rfl (World.ownsRow.alloc HPS2.out.own _) ⟨wr.heap.size,0,none⟩ 1 1 [.int .i64 k,.string sx] rfl rfl ?c1 ?c2 (by have:=HLn.out ks.length;unfold maxLen;omega) (by have:=HLn.out ks.length;omega) (by simp;omega) ?_)
      case c1 =>
       intro q u hq
       match q,hq with
       | 0,hq=>simp at hq;subst hq;simp [Addr.add]
       | 1,hq=>simp at hq;subst hq;simp [Addr.add]
      case c2 =>
       intro u hu
       simp at hu
       rcases hu with rfl | rfl<;>rfl
      intro v6 w6 hown6 hgrow6 _
      have HG6:Hid (Pks w6 w3.heap.size v6 (a0z g p s (k+1))):=by
       refine ⟨?_⟩
       rw [HTk.out,←al7 HFm.out,HFl.out,a0q,List.length_append]
       exact hown6
      have HB6:Hid (Below w3.heap.size w3 w6):=(HB3q.out.alloc hzb _).grown hgrow6 (by simp;omega) HPS2.out.block
      obtain ⟨a6,c6',hg6⟩:=a01 hown6
      subst hg6
      clear hown6 hgrow6
      go_wp2_with fail
      go_roundw
      case rel=>exact ⟨k+1,by omega,by go_num,HG6.out,HB6.out⟩
      case measure=>simp [intOf];omega
  ·have hkn':k=g.n:=by omega
   subst hkn'
   go_wp2_with fail
   go_ret
   exact ⟨⟨_,rfl,by rw [HTE.out];exact ⟨a3g HPS.out.own HBw.out.size⟩⟩,HBel.out⟩
end Go.Proofs.YtabecbjfamphbaaGreatDoor
