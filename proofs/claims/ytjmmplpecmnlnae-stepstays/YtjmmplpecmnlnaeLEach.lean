/- What each of package layer comes to: a matrix in new memory of what a function value gives, cell by cell. Condition: the function gives f i at each cell, and turns nothing old. -/
import Derived.Test.YtjmmplpecmnlnaeLBox
namespace Go.Proofs.Ytjmmplpecmnlnae
open Go.RowKit
/-- What is asked of the function value: number K, captured cap. -/
def GivesE (K : Nat) (cap : Array Value) (zs : List Int) (f : Nat → Int) (w : World) : Prop :=
  ∀ (W : World) (i : Nat) (xi x : Int), xi = (i : Int) → zs[i]? = some x → Below w.heap.size w W → Calls Try.prog K (#[.int .i64 xi, .int .i64 x] ++ cap) W fun e w' => e = .returned (.int .i64 (f i)) ∧ Below W.heap.size W w'
end Go.Proofs.Ytjmmplpecmnlnae
