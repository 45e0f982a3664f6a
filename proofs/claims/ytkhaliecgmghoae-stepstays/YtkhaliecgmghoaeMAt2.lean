/- What the closures of Add, Times and Sums of package mat come to. -/
import Derived.Test.YtkhaliecgmghoaeMAt
import Derived.Test.YtkhaliecgmghoaePlain
namespace Go.Proofs.Ytkhaliecgmghoae
open Go.RowKit
end Go.Proofs.Ytkhaliecgmghoae
