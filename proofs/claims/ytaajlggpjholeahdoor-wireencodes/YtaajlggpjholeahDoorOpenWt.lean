/- How much each of the parameters may weigh. -/
import Derived.Test.YtaajlggpjholeahDoorOpenMf
import Derived.SizedLaws
namespace Go.Proofs.YtaajlggpjholeahDoor
open Go.ChangeShapes Go.WideShapes Go.ChangeAt Go.RowKit Go.Joins Go.Deep
end Go.Proofs.YtaajlggpjholeahDoor
