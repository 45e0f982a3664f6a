/- What package fix and its document's answer come to on numbers: Clamp, Add, Sub, Mul, as the plain functions cl, ad, sb, ml; the world is as it was. For every int. -/
import Derived.Test.YtaajlggpjholeahDoorRows
import Derived.Test.YtaajlggpjholeahDoorPlain
namespace Go.Proofs.YtaajlggpjholeahDoor
open Go.RowKit
set_option maxHeartbeats 400000 in
theorem clamp_any (x : Int) (w : World) : Calls Tryd.prog 45 #[.int .i64 x] w fun e w' => e = .returned (.int .i64 (cl x)) ∧ w' = w := by
  by_cases h1 : x < -2147483647
  · rw [cl_lo x h1]
    go_enter Tryd.func45, Tryd.ntmps45
    go_wp2
    go_ret
    exact ⟨rfl, rfl⟩
  · by_cases h2 : 2147483647 < x
    · rw [cl_hi x h2]
      go_enter Tryd.func45, Tryd.ntmps45
      go_wp2
      go_ret
      exact ⟨rfl, rfl⟩
    · rw [cl_in x (by omega) (by omega)]
      go_enter Tryd.func45, Tryd.ntmps45
      go_wp2
      all_goals
        go_ret
        exact ⟨ret_int (by omega), rfl⟩
end Go.Proofs.YtaajlggpjholeahDoor
