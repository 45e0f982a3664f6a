/- What Ints of package galleysame comes to: whether two lists of ints are the same. -/
import Derived.Test.YtaajlggpjholeajDoorRows
import Derived.WalkKit
import Derived.WalkSpells
import Derived.WalkLawsBesides
import Derived.Outline
import Derived.Deep.QuietTactic
import Derived.BigQuiet
import Derived.Test.YtaajlggpjholeajDoorPlain
namespace Go.Proofs.YtaajlggpjholeajDoor
open Go.RowKit
end Go.Proofs.YtaajlggpjholeajDoor
