/- What MessageFault and MessageOf of the document's answer come to: what is wrong with a message; its bytes. -/
import Derived.Test.YtaajlggpjholeajDoorWrR1
import Derived.Test.YtaajlggpjholeajDoorOwZ
import Derived.Test.YtaajlggpjholeajDoorWrR2
import Derived.Deep.CutRange
import Derived.Test.YtaajlggpjholeajDoorPkMCheckAll
import Derived.Test.YtaajlggpjholeajDoorPkFix
import Derived.Laws.OwnMore
namespace Go.Proofs.YtaajlggpjholeajDoor
open Go.RowKit
def IsMsg (w:World) (v:Value) (k mi:Int) (b:Mx):Prop:=∃s,v=.agg #[.int .i64 k,.int .i64 mi,.int .i64 b.rows,.int .i64 b.cols,s]∧I_ w s b.cells
def unzL (zs:List Int):List Int:=zs.map unz
theorem unzL_snoc(zs:List Int)(x:Int):unzL (zs++[x])=unzL zs++[unz x]:=by simp[unzL]
theorem unzL_len(zs:List Int):(unzL zs).length=zs.length:=by simp[unzL]
def encX (k mi:Int) (b:Mx):List Int:=if msgF k mi b=0 then msgB k mi b else []
def EncEnd (w w':World) (k mi:Int) (b:Mx) (e:Ending):Prop:=∃s,e=.returned (.tuple #[s,errV (msgF k mi b)])∧IsBys w' s (encX k mi b)∧NilOk s∧Below w.heap.size w w'
def decE (l:List Int):Int:=match rdMsg l with|none=>7|some _=>0
def DecEnd (w w':World) (l:List Int) (e:Ending):Prop:=
 ∃mv j,e=.returned (.tuple #[mv,.int .i64 j,errV (decE l)])∧Below w.heap.size w w'∧match rdMsg l with
  |none=>IsMsg w' mv 0 0 ⟨0,0,[]⟩∧j=0
  |some ((k,mi,b),c)=>IsMsg w' mv k mi b∧j=(c:Int)∧∀a0 a1 a2 a3 s,mv=.agg #[a0,a1,a2,a3,s]→NilOk s
/- To be proved of package wire in the text WrC:
wenc_any (v:Value) (k mi:Int) (b:Mx) (w:World) (hv:IsMsg w v k mi b):Calls prog (wire.Encode) #[v] w (fun e w'=>EncEnd w w' k mi b e)
wdec_any (v:Value) (l:List Int) (w:World) (hv:IsBys w v l):Calls prog (wire.Decode) #[v] w (fun e w'=>DecEnd w w' l e) -/
def WBk (w:World) (B:Nat) (cs:Array Value) (t:TypeId):Prop:=w.heap[B]?=some (.cells cs t (0,0))
theorem WBk.lt{w:World}{B:Nat}{cs:Array Value}{t:TypeId}(h:WBk w B cs t):B<w.heap.size:=(Array.getElem?_eq_some_iff.1 h).1
theorem WBk.c{w:World}{B:Nat}{cs:Array Value}{t:TypeId}(h:WBk w B cs t){i:Nat}{x:Value}(hx:cs[i]?=some x):w.cell? ⟨B,i,none⟩=some x:=by rw[Joins.cell_of_block h];exact hx
theorem WBk.f{w:World}{B:Nat}{cs:Array Value}{t:TypeId}(h:WBk w B cs t)(i:Nat):w.frozen? ⟨B,i,none⟩=false:=Joins.unfrozen_of_block h i
theorem WBk.bel{w w':World}{N B:Nat}{cs:Array Value}{t:TypeId}(h:WBk w B cs t)(hb:Below N w w')(hB:B<N):WBk w' B cs t:=(hb.block B hB).trans h
theorem WBk.kept{w w':World}{B:Nat}{cs:Array Value}{t:TypeId}(h:WBk w B cs t)(hb:Below w.heap.size w w'):WBk w' B cs t:=h.bel hb h.lt
theorem WBk.new(w:World)(cs:Array Value)(t:TypeId):WBk (w.alloc (.cells cs t)) w.heap.size cs t:=heap_alloc_new w _
theorem WBk.set{w:World}{B:Nat}{cs:Array Value}{t:TypeId}(h:WBk w B cs t)(i:Nat)(y:Value):WBk (w.setCell ⟨B,i,none⟩ y) B (cs.setIfInBounds i y) t:=by
 unfold WBk
 rw[Joins.block_setCell h]
theorem WBk.other{w:World}{B B' i:Nat}{cs:Array Value}{t:TypeId}(h:WBk w B cs t)(hne:B≠B')(y:Value):WBk (w.setCell ⟨B',i,none⟩ y) B cs t:=((grw_set w B' i y).block B h.lt (fun e=>hne (Option.some.inj e))).trans h
end Go.Proofs.YtaajlggpjholeajDoor
