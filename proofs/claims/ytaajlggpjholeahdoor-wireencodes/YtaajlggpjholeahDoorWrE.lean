/- What Encode and Decode of package wire are to answer. -/
import Derived.Test.YtaajlggpjholeahDoorWrR4
import Derived.Test.YtaajlggpjholeahDoorMCheckAll
namespace Go.Proofs.YtaajlggpjholeahDoor
open Go.RowKit
def encX (k mi:Int) (b:Mx):List Int:=if msgF k mi b=0 then msgB k mi b else []
def EncEnd (w w':World) (k mi:Int) (b:Mx) (e:Ending):Prop:=∃s,e=.returned (.tuple #[s,errV (msgF k mi b)])∧IsBys w' s (encX k mi b)∧NilOk s∧Below w.heap.size w w'
def decE (l:List Int):Int:=match rdMsg l with|none=>7|some _=>0
def DecEnd (w w':World) (l:List Int) (e:Ending):Prop:=
 ∃mv j,e=.returned (.tuple #[mv,.int .i64 j,errV (decE l)])∧Below w.heap.size w w'∧match rdMsg l with
  |none=>IsMsg w' mv 0 0 ⟨0,0,[]⟩∧j=0
  |some ((k,mi,b),c)=>IsMsg w' mv k mi b∧j=(c:Int)∧∀a0 a1 a2 a3 s,mv=.agg #[a0,a1,a2,a3,s]→NilOk s
theorem decE_no{l:List Int}(h:rdMsg l=none):decE l=7:=by unfold decE;rw[h]
theorem decE_yes{l:List Int}{x:(Int×Int×Mx)×Nat}(h:rdMsg l=some x):decE l=0:=by unfold decE;rw[h]
/- To be proved of package wire in the text WrC:
wenc_any (v:Value) (k mi:Int) (b:Mx) (w:World) (hv:IsMsg w v k mi b):Calls prog (wire.Encode) #[v] w (fun e w'=>EncEnd w w' k mi b e)
wdec_any (v:Value) (l:List Int) (w:World) (hv:IsBys w v l):Calls prog (wire.Decode) #[v] w (fun e w'=>DecEnd w w' l e) -/
end Go.Proofs.YtaajlggpjholeahDoor
