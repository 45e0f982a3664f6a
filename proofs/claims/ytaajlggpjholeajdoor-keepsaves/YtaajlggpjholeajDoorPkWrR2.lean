/- What SevenAt of the document's answer comes to: a number is read at some place. -/
import Derived.Test.YtaajlggpjholeajDoorWrR1
import Derived.Test.YtaajlggpjholeajDoorPkWrQ
import Derived.Test.YtaajlggpjholeajDoorPkRBlank
import Derived.Laws.AppendOwn
import Derived.Deep.CutRange
namespace Go.Proofs.YtaajlggpjholeajDoor
open Go.RowKit
def IsMsg (w:World) (v:Value) (k mi:Int) (b:Mx):Prop:=∃s,v=.agg #[.int .i64 k,.int .i64 mi,.int .i64 b.rows,.int .i64 b.cols,s]∧I_ w s b.cells
theorem zig_cast(x:Int):(zig x:Int)=if 0≤x then 2*x else -2*x - 1:=by
 unfold zig
 split<;>omega
theorem wr_take{l:List Nat}{i n:Nat}(h:l[i]?=some n):wrNs (l.take (i+1))=wrNs (l.take i)++sev n:=by
 rw[List.take_add_one,h,wr_app]
 simp[wrNs]
theorem wr_len(l:List Nat):(wrNs l).length≤9*l.length:=by
 induction l with
 |nil=>simp[wrNs]
 |cons n t ih=>
  have e:wrNs (n::t)=sev n++wrNs t:=by simp[wrNs]
  have:=sevF_len 9 n
  rw[e,List.length_append,List.length_cons]
  unfold sev
  omega
def wrI (l:List Nat) (i:Nat):List Int:=wrNs (l.take i)
end Go.Proofs.YtaajlggpjholeajDoor
