/- What each of package layer comes to: a matrix in new memory of what a function value gives, cell by cell. Condition: the function gives f i at each cell, and turns nothing old. -/
import Derived.Test.YtaajlggpjholeajDoorLBox
namespace Go.Proofs.YtaajlggpjholeajDoor
open Go.RowKit
end Go.Proofs.YtaajlggpjholeajDoor
