/- What checkAll of package mat comes to: the first fault of some matrices. -/
import Derived.Test.YtaajlggpjholeahDoorMCheck
import Derived.Test.YtaajlggpjholeahDoorPlain
namespace Go.Proofs.YtaajlggpjholeahDoor
open Go.RowKit
theorem c_{w w':World}(hb:Below w.heap.size w w'){p:Addr}{v:Value}(h:w.cell? p=some v):w'.cell? p=some v:=
 (hb.cell (p:=p) (World.block_lt_of_cell? w _ h)).trans h
theorem n_{k:Int}(h:k≠0):errV k=.iface 32 (.int .i64 k):=by unfold errV;rw[if_neg h]
theorem e_{k:Int}(h:k=0):errV k=.nilIface:=by unfold errV;rw[if_pos h]
end Go.Proofs.YtaajlggpjholeahDoor
