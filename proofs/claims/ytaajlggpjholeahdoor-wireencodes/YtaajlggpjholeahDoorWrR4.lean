/- What MessageRead of the document's answer comes to: the message at the beginning of some bytes, or none. -/
import Derived.Test.YtaajlggpjholeahDoorWrR2
import Derived.Test.YtaajlggpjholeahDoorWrR3
import Derived.Deep.CutRange
namespace Go.Proofs.YtaajlggpjholeahDoor
open Go.RowKit
theorem rdEnd_bad{l:List Int}{k mi:Int}{m:Mx}{t:List Int}(h:msgF k mi m≠0):rdEnd l k mi m t=none:=by
 unfold rdEnd
 rw[if_pos h]
theorem rdEnd_short{l:List Int}{k mi:Int}{m:Mx}{t:List Int}(h:t.length<2):rdEnd l k mi m t=none:=by
 unfold rdEnd
 split
 ·rfl
 ·match t,h with
  |[],_=>rfl
  |[x],_=>rfl
  |x::y::t,h=>exact absurd h (by simp only[List.length_cons];omega)
theorem rdEnd_at{l:List Int}{k mi:Int}{m:Mx}{a:Nat}{b0 b1:Int}(h:msgF k mi m=0)(h0:l[a]?=some b0)(h1:l[a+1]?=some b1):rdEnd l k mi m (l.drop a)=if sumsG 0 0 (l.take a)=[b0,b1] then some ((k,mi,m),a+2) else none:=by
 obtain ⟨i0,e0⟩:=List.getElem?_eq_some_iff.1 h0
 obtain ⟨i1,e1⟩:=List.getElem?_eq_some_iff.1 h1
 have hd:l.drop a=b0::b1::l.drop (a+1+1):=by rw[List.drop_eq_getElem_cons i0,e0,List.drop_eq_getElem_cons i1,e1]
 have hl:l.length - (l.drop a).length=a:=by rw[List.length_drop];omega
 unfold rdEnd
 rw[if_neg (by rw[h];simp),hl,hd]
def unzL (zs:List Int):List Int:=zs.map unz
theorem unzL_snoc(zs:List Int)(x:Int):unzL (zs++[x])=unzL zs++[unz x]:=by simp[unzL]
theorem unzL_len(zs:List Int):(unzL zs).length=zs.length:=by simp[unzL]
end Go.Proofs.YtaajlggpjholeahDoor
