/- What the comparing of two lists that hold the same comes to: lists of matrices, of Grads, of layers. -/
import Derived.Test.YtaajlggpjholeajDoorLists
import Derived.Test.YtaajlggpjholeajDoorPkLForth
import Derived.Test.YtaajlggpjholeajDoorLBox
import Derived.RangeFuncNested
import Derived.RangeFuncBound
import Derived.RangeFuncCalls
import Derived.RangeFuncLeaves
import Derived.Maps.AppendAt
import Derived.Test.YtaajlggpjholeajDoorReg
namespace Go.Proofs.YtaajlggpjholeajDoor
open Go.RowKit
set_option maxHeartbeats 4000000 in
set_option maxRecDepth 100000 in
theorem l3state_any(va:Option Addr)(vn vk:Nat)(xa:Option Addr)(xn xk:Nat)(n:Int)(w:World):Calls Tryd.prog 5 #[.agg #[.slice va vn vk,.slice xa xn xk,.int .i64 n]] w fun e w'=>e=.returned (.agg #[.slice va vn vk,.slice xa xn xk,.int .i64 n])∧Below w.heap.size w w':=by
 have HB0:=h_ (o_ w (.cells #[.slice va vn vk,.slice xa xn xk,.int .i64 n] 25))
 obtain ⟨W,hW⟩:=gM (w.alloc (.cells #[.slice va vn vk,.slice xa xn xk,.int .i64 n] 25))
 go_enter Tryd.func5,Tryd.ntmps5
 go_wp2
 refine bodyPost_ret (v:=.agg #[.slice va vn vk,.slice xa xn xk,.int .i64 n]) (by simp[results,Tryd.results5,go_sem]) rfl ⟨rfl,?_⟩
 exact a_ HB0.out
end Go.Proofs.YtaajlggpjholeajDoor
