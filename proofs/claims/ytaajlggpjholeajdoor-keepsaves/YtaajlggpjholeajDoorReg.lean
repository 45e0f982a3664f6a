/- Small facts for regions whose order is drawn and that hold a call, a box that is made, and a store into it. No program in sight. -/
import Derived.Test.YtaajlggpjholeajDoorLists
import Derived.Test.YtaajlggpjholeajDoorPkLForth
import Derived.Deep.CutRange
import Derived.Deep.RegionHeld3
namespace Go.Proofs.YtaajlggpjholeajDoor
open Go.RowKit
theorem a_{V u:World}{o:Obj}(h:Below V.heap.size V u):Below V.heap.size V (u.alloc o):=b_ h (o_ _ _)
theorem d_{V u:World}(h:Below V.heap.size V u):Below V.heap.size V u.drew:=r_ h
end Go.Proofs.YtaajlggpjholeajDoor
