/- A list of matrices that came in, opened. -/
import Derived.Test.YtaajlggpjholeajDoorOpenMf
import Derived.Test.YtaajlggpjholeajDoorMCheckAll
import Derived.Test.YtaajlggpjholeajDoorPkMAt2
import Derived.Test.YtaajlggpjholeajDoorPlain
import Derived.Deep.Slices
namespace Go.Proofs.YtaajlggpjholeajDoor
open Go.ChangeShapes Go.WideShapes Go.ChangeAt Go.RowKit Go.Joins Go.Deep
end Go.Proofs.YtaajlggpjholeajDoor
