/- What Check and Wide of package layer come to, for every layer. -/
import Derived.Test.YtbkkhdekjgabfadLAt
namespace Go.Proofs.Ytbkkhdekjgabfad
open Go.RowKit
end Go.Proofs.Ytbkkhdekjgabfad
