/- What forth of the kinds of package layer comes to: what a layer that fits gives of a matrix that goes with it. -/
import Derived.Test.YtaajlggpjholeajDoorLNamed
import Derived.Test.YtaajlggpjholeajDoorThree
import Derived.Test.YtaajlggpjholeajDoorLKind
import Derived.Test.YtaajlggpjholeajDoorPkNetP
namespace Go.Proofs.YtaajlggpjholeajDoor
open Go.RowKit
end Go.Proofs.YtaajlggpjholeajDoor
