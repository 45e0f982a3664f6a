/- A list of ints that came in, opened. -/
import Derived.Test.YtcpgomjaegickagOpenMx
namespace Go.Proofs.Ytcpgomjaegickag
open Go.ChangeShapes Go.WideShapes Go.ChangeAt Go.RowKit Go.Joins
set_option maxRecDepth 100000 in
theorem ints_param {H : Type} {enc : TypeId × Value → H} {w : World} {r : Reach} {b0 : Nat} {v : Value} {d : DataW H} {p : List MemPlace} (hv : Value.okWide Try.prog w r b0 37 v) (h : DataW.Trod enc Try.prog w 0 (fun _ => true) true 37 v d p) : ∃ zs, IsInts w v zs := by
  obtain ⟨a, len, cap, rfl⟩ := okWide_slice Try.underlying37 hv
  obtain ⟨fuel, hf⟩ := h
  exact ints_open (x := (d, p)) (by simpa [Value.cells] using hf)
end Go.Proofs.Ytcpgomjaegickag
