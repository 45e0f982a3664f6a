/- What Told of package plain and Error of package galleysame come to at an Errno and at nil. Condition: the library's variable errors.errorType is as its text lays it. -/
import Derived.Test.YtaajlggpjholeahDoorAs
import Derived.WalkLawsBesides
import Derived.Below
namespace Go.Proofs.YtaajlggpjholeahDoor
open Go.RowKit
theorem Handle.alloc {w : World} (h : Handle w) (o : Obj) : Handle (w.alloc o) := by
  unfold Handle; rw [World.cell?_alloc_lt _ _ ⟨0, 0, none⟩ (World.block_lt_of_cell? w _ h)]; exact h
theorem told_hit (k : Int) (w : World) (hg : Handle w) : Calls Tryd.prog 26 #[.iface 32 (.int .i64 k)] w fun e w' => e = .returned (.int .i64 k) ∧ Below w.heap.size w w' := by
  have hA := hg.alloc (.cells #[.int .i64 0] 32)
  have htA : (w.alloc (.cells #[.int .i64 0] 32)).cell? ⟨w.heap.size, 0, none⟩ = some (.int .i64 0) := by simp
  have hfA : (w.alloc (.cells #[.int .i64 0] 32)).frozen? ⟨w.heap.size, 0, none⟩ = false := by simp
  go_enter Tryd.func26, Tryd.ntmps26
  go_wp2_with (go_at_call 39; refine (as_hit k _ (.int .i64 0) _ hA htA hfA).mono ?_; rintro e w' ⟨rfl, rfl⟩)
  go_ret
  exact ⟨rfl, by repeat (first | exact Below.refl _ _ | refine Below.alloc ?_ (by first | exact Nat.le_refl _ | (simp only [World.size_alloc]; omega) | omega) _)⟩
theorem error_hit (k n : Int) (w : World) (hg : Handle w) : Calls Tryd.prog 9 #[.iface 32 (.int .i64 k), .int .i64 n] w fun e w' => e = .returned (.bool (k == n)) ∧ Below w.heap.size w w' := by
  go_enter Tryd.func9, Tryd.ntmps9
  go_wp2_with (go_at_call 26; refine (told_hit k _ hg).mono ?_; rintro e w1 ⟨rfl, hb⟩)
  go_ret
  exact ⟨rfl, hb⟩
theorem told_nil (w : World) : Calls Tryd.prog 26 #[.nilIface] w fun e w' => e = .returned (.int .i64 0) ∧ w' = w := by
  go_enter Tryd.func26, Tryd.ntmps26
  go_wp2
  go_ret
  exact ⟨rfl, rfl⟩
end Go.Proofs.YtaajlggpjholeahDoor
