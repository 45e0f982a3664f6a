/- A nil slice has no room: of what came in. No program in sight. -/
import Derived.Test.YtkncgelkbpeagacMem
namespace Go.Proofs.Ytkncgelkbpeagac
open Go.RowKit
/-- A nil slice has no room. -/
def NilOk (v : Value) : Prop := ∀ n k, v = .slice none n k → n = 0 ∧ k = 0
/-- Of the third cell of each element of a list of matrices. -/
def NilsOk (w : World) (v : Value) : Prop := ∀ b off n k, v = .slice (some ⟨b, off, none⟩) n k → ∀ i, i < n → ∀ s, w.cell? ⟨b, off + i * 3 + 2, none⟩ = some s → NilOk s
end Go.Proofs.Ytkncgelkbpeagac
