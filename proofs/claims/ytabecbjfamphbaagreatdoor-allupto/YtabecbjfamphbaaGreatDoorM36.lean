/- A part of the proof. -/
import Derived.Test.YtabecbjfamphbaaGreatDoorM22
namespace Go.Proofs.YtabecbjfamphbaaGreatDoor
open Go.RowKit Go.Stop Go.Extern
set_option maxRecDepth 100000
def Lies (w:World) (z:Nat) (ad:Option Addr) (ws:List Wd):Prop:=∀ (i:Nat) (t:Wd),ws[i]?=some t→∃ gb,ad=some ⟨gb,0,none⟩∧gb<z∧w.cell? ⟨gb,i * 3,none⟩=some (.int .i64 t.org)∧w.cell? ⟨gb,i * 3+1,none⟩=some (.int .i64 t.seq)∧w.cell? ⟨gb,i * 3+2,none⟩=some (.string t.body)
theorem Wrd.lies {w y:World} {base:Nat} {ad:Option Addr} {len cap:Nat} {ws:List Wd} (h:Wrd w base (.slice ad len cap) ws) (hb:Below w.heap.size w y):Lies y w.heap.size ad ws:=fun i t hi=>by
 obtain ⟨gb,hgb,_,b0,b1,b2⟩:=h.get hi
 exact ⟨gb,hgb,lt_of_cell b0,(hb.cell (p:=⟨gb,i * 3,none⟩) (lt_of_cell b0)).trans b0,(hb.cell (p:=⟨gb,i * 3+1,none⟩) (lt_of_cell b0)).trans b1,(hb.cell (p:=⟨gb,i * 3+2,none⟩) (lt_of_cell b0)).trans b2⟩
theorem au9 {g:Gr} {p:Nat} {s:NS} (h:s.Ok g p) (hg:g.Ok):s.kept.length≤64:=by
 unfold NS.kept
 rw [List.length_map]
 exact h.short hg
end Go.Proofs.YtabecbjfamphbaaGreatDoor
