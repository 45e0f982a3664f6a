/- The three cells of a variable that holds a matrix. No program in sight. -/
import Derived.Test.YtaajlggpjholeajDoorPkRBlank
namespace Go.Proofs.YtaajlggpjholeajDoor
open Go.RowKit
end Go.Proofs.YtaajlggpjholeajDoor
