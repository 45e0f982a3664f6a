/- What Check of package mat comes to: the fault of a matrix as an error. -/
import Derived.Test.YtgdggaieekakhagDoorRFault
import Derived.Test.YtgdggaieekakhagDoorFix
namespace Go.Proofs.YtgdggaieekakhagDoor
open Go.RowKit
/-- An Errno as an error; OK is nil. -/
def errV (k : Int) : Value := if k = 0 then .nilIface else .iface 29 (.int .i64 k)
theorem ret_err {k : Int} {v : Value} (h : v = errV k) : Ending.returned v = .returned (errV k) := by rw [h]
theorem err_of {k j : Int} (h : j = k) (hj : j ≠ 0) : Value.iface 29 (.int .i64 j) = errV k := by subst h; unfold errV; rw [if_neg hj]
theorem err_no {k : Int} (h : 0 = k) : Value.nilIface = errV k := by subst h; rfl
theorem ends_iff (x : Int) : inEnds x = true ↔ -2147483647 ≤ x ∧ x ≤ 2147483647 := by simp [inEnds]
theorem cl_same {x : Int} (h : inEnds x = true) : (x != cl x) = false := by
  rw [ends_iff] at h; rw [cl_in x h.1 h.2]; simp
theorem cl_off {x : Int} (h : inEnds x = false) : (x != cl x) = true := by
  have h' : ¬ (-2147483647 ≤ x ∧ x ≤ 2147483647) := fun e => by rw [(ends_iff x).2 e] at h; cases h
  rw [bne_iff_ne]
  have := cl_bd x
  omega
end Go.Proofs.YtgdggaieekakhagDoor
