/- What the closures of Add, Times and Sums of package mat come to. -/
import Derived.Test.YtaajlggpjholeajDoorPkRBlank
import Derived.Test.YtaajlggpjholeajDoorPlain
namespace Go.Proofs.YtaajlggpjholeajDoor
open Go.RowKit
theorem b_{w u v:World}(h:Below w.heap.size w u)(k:Below u.heap.size u v):Below w.heap.size w v:=h.trans (k.mono h.size)
theorem below_box{w u v:World}{o:Obj}(h:Below w.heap.size w u)(k:Below (u.alloc o).heap.size (u.alloc o) v):Below w.heap.size w v:=b_ (b_ h (o_ _ _)) k
end Go.Proofs.YtaajlggpjholeajDoor
