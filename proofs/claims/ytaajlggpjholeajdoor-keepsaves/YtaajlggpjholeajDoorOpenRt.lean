/- Rates that came in, opened: a struct by value of two ints. -/
import Derived.Test.YtaajlggpjholeajDoorOpenMx
namespace Go.Proofs.YtaajlggpjholeajDoor
open Go.ChangeShapes Go.WideShapes Go.ChangeAt Go.RowKit Go.Joins
end Go.Proofs.YtaajlggpjholeajDoor
