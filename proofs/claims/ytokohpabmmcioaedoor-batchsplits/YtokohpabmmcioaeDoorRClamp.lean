/- What Clamp of the document's answer comes to: the plain function cl; the world is as it was. For every int. -/
import Derived.Test.YtokohpabmmcioaeDoorRows
import Derived.Test.YtokohpabmmcioaeDoorPlain
namespace Go.Proofs.YtokohpabmmcioaeDoor
open Go.RowKit
end Go.Proofs.YtokohpabmmcioaeDoor
