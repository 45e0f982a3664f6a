/- What Ints of package galleysame comes to: whether two lists of ints are the same. -/
import Derived.Test.YtaajlggpjholeahDoorRows
import Derived.WalkKit
import Derived.WalkSpells
import Derived.WalkLawsBesides
import Derived.Outline
import Derived.Deep.QuietTactic
import Derived.BigQuiet
import Derived.Test.YtaajlggpjholeahDoorPlain
namespace Go.Proofs.YtaajlggpjholeahDoor
open Go.RowKit
end Go.Proofs.YtaajlggpjholeahDoor
