/- What the closures of package layer come to, and what addToRows does: to each row a row is added. -/
import Derived.Test.YtjmmplpecmnlnaeLEach
namespace Go.Proofs.Ytjmmplpecmnlnae
open Go.RowKit
/-- A call that gives a matrix in new memory. -/
def MxNew (w : World) (m : Mx) (e : Ending) (w' : World) : Prop := ∃ a n k, e = .returned (.agg #[.int .i64 m.rows, .int .i64 m.cols, .slice a n k]) ∧ NewInts w.heap.size w' (.slice a n k) m.cells ∧ Below w.heap.size w w'
end Go.Proofs.Ytjmmplpecmnlnae
