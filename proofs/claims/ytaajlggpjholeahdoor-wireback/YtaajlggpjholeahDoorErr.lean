/- What Error of package galleysame comes to at an error that is an Errno or nil. Condition: the library's variable errors.errorType is as its text lays it. -/
import Derived.Test.YtaajlggpjholeahDoorTold
import Derived.Test.YtaajlggpjholeahDoorMCheck
namespace Go.Proofs.YtaajlggpjholeahDoor
open Go.RowKit
theorem Handle.below {w w' : World} (h : Handle w) (hb : Below w.heap.size w w') : Handle w' := by
  unfold Handle at h ⊢
  rw [hb.cell (p := ⟨0, 0, none⟩) (World.block_lt_of_cell? w _ h)]; exact h
theorem error_any (k n : Int) (w : World) (hg : Handle w) : Calls Tryd.prog 9 #[errV k, .int .i64 n] w fun e w' => e = .returned (.bool (k == n)) ∧ Below w.heap.size w w' := by
  by_cases hk : k = 0
  · subst hk
    rw [show errV 0 = .nilIface from rfl]
    go_enter Tryd.func9, Tryd.ntmps9
    go_wp2_with (go_at_call 26; refine (told_nil _).mono ?_; rintro e w1 ⟨rfl, rfl⟩)
    go_ret
    exact ⟨rfl, Below.refl _ _⟩
  · rw [show errV k = .iface 32 (.int .i64 k) by unfold errV; rw [if_neg hk]]
    exact error_hit k n w hg
theorem error_same {k n : Int} (h : k = n) (w : World) (hg : Handle w) : Calls Tryd.prog 9 #[errV k, .int .i64 n] w fun e w' => e = .returned (.bool true) ∧ Below w.heap.size w w' := by
  refine (error_any k n w hg).mono ?_
  rintro e w' ⟨rfl, hb⟩
  exact ⟨by rw [h]; simp, hb⟩
end Go.Proofs.YtaajlggpjholeahDoor
