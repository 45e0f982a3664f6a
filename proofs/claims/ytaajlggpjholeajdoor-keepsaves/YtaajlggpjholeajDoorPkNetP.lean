/- Nets as plain data: how wide, what stands behind each layer, Grads together; facts on lists of them. No program in sight. -/
import Derived.Test.YtaajlggpjholeajDoorLists
import Derived.Test.YtaajlggpjholeajDoorLBox
import Derived.Test.YtaajlggpjholeajDoorLy
import Derived.Test.YtaajlggpjholeajDoorPlain
namespace Go.Proofs.YtaajlggpjholeajDoor
open Go.RowKit
theorem drop_at{α:Type}{xs:List α}{i:Nat}{x:α}(h:xs[i]?=some x):xs.drop i=x::xs.drop (i+1):=by
 obtain ⟨hi,rfl⟩:=List.getElem?_eq_some_iff.1 h
 exact List.drop_eq_getElem_cons hi
end Go.Proofs.YtaajlggpjholeajDoor
/- Plain facts on what layers give: what Check takes. No program in sight. -/
namespace Go.Proofs.YtaajlggpjholeajDoor
end Go.Proofs.YtaajlggpjholeajDoor
/- A step, as plain data: what is wrong, what comes of a net and of its speed. No program in sight. -/
namespace Go.Proofs.YtaajlggpjholeajDoor
open Go.RowKit
def H_ (a b:Mx):Bool:=decide (a.rows=b.rows∧a.cols=b.cols)
def stt1E (l:Ly) (p:Mx×Mx):Int:=if l_ l≠0 then l_ l else if q_ p.1≠0 then q_ p.1 else if q_ p.2≠0 then q_ p.2 else if H_ p.1 l.w=false∨H_ p.2 l.b=false then 2 else 0
def sttE:List Ly→List (Mx×Mx)→Int
 |l::ls,p::ps=>if stt1E l p≠0 then stt1E l p else sttE ls ps
 |_,_=>0
def stateE (ls:List Ly) (ps:List (Mx×Mx)) (n:Int):Int:=if 12<ls.length then 3 else if ps.length≠ls.length then 2 else if n<0∨1000000000<n then 1 else sttE ls ps
end Go.Proofs.YtaajlggpjholeajDoor
