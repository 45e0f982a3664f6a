/- What the closures of Add, Times and Sums of package mat come to. -/
import Derived.Test.YtjmmplpecmnlnaeMAt
import Derived.Test.YtjmmplpecmnlnaePlain
namespace Go.Proofs.Ytjmmplpecmnlnae
open Go.RowKit
end Go.Proofs.Ytjmmplpecmnlnae
