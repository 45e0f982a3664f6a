/- What forth of the kinds of package layer comes to: what a layer that fits gives of a matrix that goes with it. -/
import Derived.Test.YtaajlggpjholeajDoorLNamed
import Derived.Test.YtaajlggpjholeajDoorPkMAt
import Derived.Test.YtaajlggpjholeajDoorLists
import Derived.Deep.CutRange
import Derived.Deep.RegionHeld3
namespace Go.Proofs.YtaajlggpjholeajDoor
open Go.RowKit
theorem a_{V u:World}{o:Obj}(h:Below V.heap.size V u):Below V.heap.size V (u.alloc o):=b_ h (o_ _ _)
theorem d_{V u:World}(h:Below V.heap.size V u):Below V.heap.size V u.drew:=r_ h
end Go.Proofs.YtaajlggpjholeajDoor
