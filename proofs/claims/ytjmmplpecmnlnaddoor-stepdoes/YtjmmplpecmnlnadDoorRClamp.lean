/- What Clamp of the document's answer comes to: the plain function cl; the world is as it was. For every int. -/
import Derived.Test.YtjmmplpecmnlnadDoorRows
import Derived.Test.YtjmmplpecmnlnadDoorPlain
namespace Go.Proofs.YtjmmplpecmnlnadDoor
open Go.RowKit
set_option maxHeartbeats 400000 in
theorem rclamp_any (x : Int) (w : World) : Calls Tryd.prog 84 #[.int .i64 x] w fun e w' => e = .returned (.int .i64 (cl x)) ∧ w' = w := by
  by_cases h1 : x < -2147483647
  · rw [cl_lo x h1]
    go_enter Tryd.func84, Tryd.ntmps84
    go_wp2
    go_ret
    exact ⟨rfl, rfl⟩
  · by_cases h2 : 2147483647 < x
    · rw [cl_hi x h2]
      go_enter Tryd.func84, Tryd.ntmps84
      go_wp2
      go_ret
      exact ⟨rfl, rfl⟩
    · rw [cl_in x (by omega) (by omega)]
      go_enter Tryd.func84, Tryd.ntmps84
      go_wp2
      go_ret
      exact ⟨rfl, rfl⟩
end Go.Proofs.YtjmmplpecmnlnadDoor
