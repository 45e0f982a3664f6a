/- The walk of the law PlanMakes: Wave and Turns of package plan give what the document's answer does. Condition: the library's variable errors.errorType is as its text lays it. -/
import Derived.Test.YtgkoelmmcmmicafDoorPnW
import Derived.Test.YtgkoelmmcmmicafDoorPlR3
import Derived.Test.YtgkoelmmcmmicafDoorPlR4
import Derived.Test.YtgkoelmmcmmicafDoorErr
namespace Go.Proofs.YtgkoelmmcmmicafDoor
open Go.RowKit
theorem plans_same (v u : Value) (p : List (List (Int × Int))) (w : World) (hv : IsPlan w v p) (hu : IsPlan w u p) : Calls Tryd.prog 21 #[v, u] w fun e w' => e = .returned (.bool true) ∧ Below w.heap.size w w' := by
  refine (rplans_any v u p p w hv hu).mono ?_
  rintro e w' ⟨rfl, hb⟩
  exact ⟨by rw [← sameP_yes rfl], hb⟩
set_option maxHeartbeats 16000000 in
set_option maxRecDepth 100000 in
theorem makes_walk (S M : Int) (w : World) (hH : Handle w) : Calls Tryd.prog 5 #[.int .i64 S, .int .i64 M] w fun e w' => e = .returned (.bool true) ∧ Below w.heap.size w w' := by
  have HH := hide hH
  obtain ⟨E, hE⟩ : ∃ E, makeE S M = E := ⟨_, rfl⟩
  have HE := hide hE
  have C0 := hide (Below.refl w.heap.size w)
  clear hH hE
  go_enter Tryd.func5, Tryd.ntmps5
  have HX := hide (pwave_any S M w)
  unfold Built at HX
  rw [HE.out] at HX
  go_wp2_with fail
  refine HX.out.mono ?_
  rintro e u1 ⟨s1, rfl, hp, _, hb⟩
  replace C0 := hide (below_go C0.out hb)
  have HP1 := hide hp
  have C1 := hide (Below.refl u1.heap.size u1)
  clear hb hp HX
  have HX := hide (rplanof_any S M true u1)
  rw [HE.out] at HX
  go_wp2_with fail
  refine HX.out.mono ?_
  rintro e u2 ⟨s2, rfl, hp, hb⟩
  replace C0 := hide (below_go C0.out hb)
  replace C1 := hide (below_go C1.out hb)
  have HP2 := hide hp
  have C2 := hide (Below.refl u2.heap.size u2)
  clear hb hp HX
  have HX := hide (error_same (k := E) (n := E) rfl u2 (HH.out.below C0.out))
  go_wp2_with fail
  refine HX.out.mono ?_
  rintro e u3 ⟨rfl, hb⟩
  replace C0 := hide (below_go C0.out hb)
  replace C1 := hide (below_go C1.out hb)
  replace C2 := hide (below_go C2.out hb)
  clear hb HX
  have HX := hide (plans_same _ _ _ u3 (HP1.out.below C1.out) (HP2.out.below C2.out))
  go_wp2_with fail
  refine HX.out.mono ?_
  rintro e u4 ⟨rfl, hb⟩
  replace C0 := hide (below_go C0.out hb)
  clear hb HX C1 C2 HP1 HP2
  have HX := hide (pturns_any S M u4)
  unfold Built at HX
  rw [HE.out] at HX
  go_wp2_with fail
  refine HX.out.mono ?_
  rintro e u5 ⟨s5, rfl, hp, _, hb⟩
  replace C0 := hide (below_go C0.out hb)
  have HP1 := hide hp
  have C1 := hide (Below.refl u5.heap.size u5)
  clear hb hp HX
  have HX := hide (rplanof_any S M false u5)
  rw [HE.out] at HX
  go_wp2_with fail
  refine HX.out.mono ?_
  rintro e u6 ⟨s6, rfl, hp, hb⟩
  replace C0 := hide (below_go C0.out hb)
  replace C1 := hide (below_go C1.out hb)
  have HP2 := hide hp
  have C2 := hide (Below.refl u6.heap.size u6)
  clear hb hp HX
  have HX := hide (error_same (k := E) (n := E) rfl u6 (HH.out.below C0.out))
  go_wp2_with fail
  refine HX.out.mono ?_
  rintro e u7 ⟨rfl, hb⟩
  replace C0 := hide (below_go C0.out hb)
  replace C1 := hide (below_go C1.out hb)
  replace C2 := hide (below_go C2.out hb)
  clear hb HX
  have HX := hide (plans_same _ _ _ u7 (HP1.out.below C1.out) (HP2.out.below C2.out))
  go_wp2_with fail
  refine HX.out.mono ?_
  rintro e u8 ⟨rfl, hb⟩
  replace C0 := hide (below_go C0.out hb)
  clear hb HX C1 C2 HP1 HP2
  go_wp2
  go_ret
  exact ⟨rfl, C0.out⟩
end Go.Proofs.YtgkoelmmcmmicafDoor
