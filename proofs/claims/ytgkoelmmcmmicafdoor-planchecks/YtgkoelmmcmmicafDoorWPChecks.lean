/- The walk of the law PlanChecks: Check and Even of package plan answer what the document's answer does. Condition: the library's variable errors.errorType is as its text lays it. -/
import Derived.Test.YtgkoelmmcmmicafDoorPnE
import Derived.Test.YtgkoelmmcmmicafDoorPlR2
import Derived.Test.YtgkoelmmcmmicafDoorPlR3
import Derived.Test.YtgkoelmmcmmicafDoorErr
namespace Go.Proofs.YtgkoelmmcmmicafDoor
open Go.RowKit
set_option maxHeartbeats 16000000 in
set_option maxRecDepth 100000 in
theorem checks_walk (v : Value) (p : List (List (Int × Int))) (M : Int) (w : World) (hv : IsPlan w v p) (hH : Handle w) : Calls Tryd.prog 4 #[v, .int .i64 M] w fun e w' => e = .returned (.bool true) ∧ Below w.heap.size w w' := by
  have HH := hide hH
  have HV := hide hv
  obtain ⟨E, hE⟩ : ∃ E, planE p M = E := ⟨_, rfl⟩
  obtain ⟨X, hX⟩ : ∃ X, evenX p M = X := ⟨_, rfl⟩
  have HE := hide hE
  have HX0 := hide hX
  have C0 := hide (Below.refl w.heap.size w)
  obtain ⟨a, cap, rfl⟩ := hv.shape
  obtain ⟨n, hn⟩ : ∃ n, p.length = n := ⟨_, rfl⟩
  rw [hn] at HV ⊢
  clear hH hE hX hv hn
  go_enter Tryd.func4, Tryd.ntmps4
  have HX := hide (pcheck_any _ p M w HV.out)
  rw [HE.out] at HX
  go_wp2_with fail
  refine HX.out.mono ?_
  rintro e u1 ⟨rfl, hb⟩
  replace C0 := hide (below_go C0.out hb)
  clear hb HX
  have HX := hide (rplan_any _ p M u1 (HV.out.below C0.out))
  rw [HE.out] at HX
  go_wp2_with fail
  refine HX.out.mono ?_
  rintro e u2 ⟨rfl, hb⟩
  replace C0 := hide (below_go C0.out hb)
  clear hb HX
  have HX := hide (error_same (k := E) (n := E) rfl u2 (HH.out.below C0.out))
  go_wp2_with fail
  refine HX.out.mono ?_
  rintro e u3 ⟨rfl, hb⟩
  replace C0 := hide (below_go C0.out hb)
  clear hb HX
  have HX := hide (peven_any _ p M u3 (HV.out.below C0.out))
  rw [HE.out, HX0.out] at HX
  go_wp2_with fail
  refine HX.out.mono ?_
  rintro e u4 ⟨rfl, hb⟩
  replace C0 := hide (below_go C0.out hb)
  clear hb HX
  have HX := hide (error_same (k := E) (n := E) rfl u4 (HH.out.below C0.out))
  go_wp2_with fail
  refine HX.out.mono ?_
  rintro e u5 ⟨rfl, hb⟩
  replace C0 := hide (below_go C0.out hb)
  clear hb HX
  by_cases c : E = 0
  · have HX := hide (reven_any _ p u5 (HV.out.below C0.out))
    rw [show evenB p = X by rw [← HX0.out]; unfold evenX; rw [HE.out, if_pos c]] at HX
    have nE : (E == 0) = true := by simp [c]
    clear c
    go_wp2_with fail
    refine HX.out.mono ?_
    rintro e u6 ⟨rfl, hb⟩
    replace C0 := hide (below_go C0.out hb)
    clear hb HX
    cases X
    · go_wp2
      go_ret
      exact ⟨rfl, C0.out⟩
    · go_wp2
      go_ret
      exact ⟨rfl, C0.out⟩
  · have nE : (E == 0) = false := by simpa using c
    obtain rfl : X = false := by rw [← HX0.out]; unfold evenX; rw [HE.out, if_neg c]
    clear c
    go_wp2
    go_ret
    exact ⟨rfl, C0.out⟩
end Go.Proofs.YtgkoelmmcmmicafDoor
