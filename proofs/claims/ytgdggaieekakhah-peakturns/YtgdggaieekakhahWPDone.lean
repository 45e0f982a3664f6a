/- The walk of the law PlanDone, and of what it asks first: waves and turns can be done, and go back part by part. -/
import Derived.Test.YtgdggaieekakhahPnE
import Derived.Test.YtgdggaieekakhahPnW
import Derived.Test.YtgdggaieekakhahPlE
namespace Go.Proofs.Ytgdggaieekakhah
open Go.RowKit
theorem planX_two : makeX 2 2 false = [[(1, 0), (1, 1), (2, 0), (2, 1)], [(1, 0), (2, 0), (1, 1), (2, 1)]] := by kernel_rfl
set_option maxHeartbeats 1600000 in
set_option maxRecDepth 100000 in
theorem pfact_any (w : World) : Calls Try.prog 4 #[] w fun e w' => e = .returned (.bool true) ∧ Below w.heap.size w w' := by
  have HC := hide (pturns_any 2 2 w)
  unfold Built at HC
  rw [planX_two, show makeE 2 2 = 0 from rfl, err_eq rfl] at HC
  go_enter Try.func4, Try.ntmps4
  go_wp2_with fail
  refine HC.out.mono ?_
  rintro e w1 ⟨s, rfl, hp, hl, hb1⟩
  obtain ⟨a, cap, rfl, h2, h3, h4⟩ := hp
  obtain ⟨b, off, rfl, hcl⟩ := h4.resolve_left (by simp)
  obtain ⟨z, hz, hi⟩ := hcl 1 _ rfl
  obtain ⟨a2, cap2, rfl, i2, i3, i4⟩ := hi
  obtain ⟨b2, off2, rfl, hc2⟩ := i4.resolve_left (by simp)
  obtain ⟨d1, d2⟩ := hc2 1 _ rfl
  have HB1 := hide hb1
  simp only [List.length_cons, List.length_nil] at hz d1 d2 h2 i2
  clear hl hb1 hcl hc2 h4 i4
  go_wp2
  go_ret
  exact ⟨rfl, HB1.out⟩
end Go.Proofs.Ytgdggaieekakhah
