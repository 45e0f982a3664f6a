/- What the closures of Add, Times and Sums of package mat come to. -/
import Derived.Test.YtogmbihigjpmfadMAt
import Derived.Test.YtogmbihigjpmfadPlain
namespace Go.Proofs.Ytogmbihigjpmfad
open Go.RowKit
end Go.Proofs.Ytogmbihigjpmfad
