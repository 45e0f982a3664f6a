/- A list of ints that came in, opened. -/
import Derived.Test.YtgdggaieekakhagDoorOpenMx
namespace Go.Proofs.YtgdggaieekakhagDoor
open Go.ChangeShapes Go.WideShapes Go.ChangeAt Go.RowKit Go.Joins
set_option maxRecDepth 100000 in
theorem ints_param {H : Type} {enc : TypeId × Value → H} {w : World} {r : Reach} {b0 : Nat} {v : Value} {d : DataW H} {p : List MemPlace} (hv : Value.okWide Tryd.prog w r b0 23 v) (h : DataW.Trod enc Tryd.prog w 0 (fun _ => true) true 23 v d p) : ∃ zs, IsInts w v zs := by
  obtain ⟨a, len, cap, rfl⟩ := okWide_slice Tryd.underlying23 hv
  obtain ⟨fuel, hf⟩ := h
  exact ints_open (x := (d, p)) (by simpa [Value.cells] using hf)
end Go.Proofs.YtgdggaieekakhagDoor
