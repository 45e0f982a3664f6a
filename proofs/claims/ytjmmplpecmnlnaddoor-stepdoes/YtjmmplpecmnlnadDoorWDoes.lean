/- The walk of the law StepDoes: Do of package step answers what the document's answer does. Condition: the library's variable errors.errorType is as its text lays it. -/
import Derived.Test.YtjmmplpecmnlnadDoorStpD
import Derived.Test.YtjmmplpecmnlnadDoorRStepE
import Derived.Test.YtjmmplpecmnlnadDoorRStepO
import Derived.Test.YtjmmplpecmnlnadDoorSameL
import Derived.Test.YtjmmplpecmnlnadDoorErr
namespace Go.Proofs.YtjmmplpecmnlnadDoor
open Go.RowKit
set_option maxHeartbeats 16000000 in
set_option maxRecDepth 100000 in
theorem does_walk (v0 : Value) (m0 : List Ly) (v1 : Value) (m1 : List (Mx × Mx)) (v2 : Value) (m2 : List (Mx × Mx)) (le ke : Int) (w : World) (w0 : IsLys w v0 m0) (w1 : IsGds w v1 m1) (w2 : IsGds w v2 m2) (hH : Handle w) : Calls Tryd.prog 6 #[v0, v1, v2, .agg #[.int .i64 le, .int .i64 ke]] w fun e w' => e = .returned (.bool true) ∧ Below w.heap.size w w' := by
  obtain ⟨V, hV⟩ : ∃ V, V = w.alloc (.cells #[.int .i64 le, .int .i64 ke] 60) := ⟨_, rfl⟩
  have HV := hide hV
  have HWV : Hid (Below w.heap.size w V) := by rw [hV]; exact hide (bel_alloc (Below.refl _ _))
  have HR : Hid (Box V w.heap.size [.int .i64 le, .int .i64 ke]) := by rw [hV]; exact hide (Box.new w _ 60 rfl)
  have M0 := hide (w0.below HWV.out)
  have M1 := hide (w1.below HWV.out)
  have M2 := hide (w2.below HWV.out)
  have HH := hide (hH.below HWV.out)
  obtain ⟨E, hE⟩ : ∃ E, stE m0 m1 m2 le ke = E := ⟨_, rfl⟩
  have HE := hide hE
  clear hV w0 w1 w2 hE hH
  go_enter Tryd.func6, Tryd.ntmps6
  have C0 := hide (Below.refl V.heap.size V)
  have r0 := (HR.out.below C0.out) 0 _ rfl
  have r1 := (HR.out.below C0.out) 1 _ rfl
  have HX := hide (stepdo_any v0 v1 v2 m0 m1 m2 le ke _ (M0.out.below C0.out) (M1.out.below C0.out) (M2.out.below C0.out))
  go_wp2_with fail
  rw [← HV.out]
  refine HX.out.mono ?_
  rintro e u1 ⟨x1, x2, rfl, hm, hm2, hb⟩
  replace C0 := hide (below_next C0.out hb)
  clear HX hb
  have C1 := hide (Below.refl u1.heap.size u1)
  rw [HE.out]
  have HX1 := hide (show IsLys u1 x1 (doL m0 m1 m2 le ke) from hm.reads)
  have HX2 := hide (show IsGds u1 x2 (doG m0 m1 m2 le ke) from hm2.reads)
  clear hm hm2 r0 r1
  have r0 := (HR.out.below C0.out) 0 _ rfl
  have r1 := (HR.out.below C0.out) 1 _ rfl
  have HX := hide (rstepfault_any v0 v1 v2 m0 m1 m2 le ke _ (M0.out.below C0.out) (M1.out.below C0.out) (M2.out.below C0.out))
  go_wp2_with fail
  refine HX.out.mono ?_
  rintro e u2 ⟨rfl, hb⟩
  replace C0 := hide (below_next C0.out hb)
  replace C1 := hide (below_next C1.out hb)
  clear HX hb
  have C2 := hide (Below.refl u2.heap.size u2)
  rw [HE.out]
  clear r0 r1
  have HX := hide (error_same (k := E) (n := E) rfl _ (HH.out.below C0.out))
  go_wp2_with fail
  refine HX.out.mono ?_
  rintro e u3 ⟨rfl, hb⟩
  replace C0 := hide (below_next C0.out hb)
  replace C1 := hide (below_next C1.out hb)
  replace C2 := hide (below_next C2.out hb)
  clear HX hb
  have C3 := hide (Below.refl u3.heap.size u3)
  have r0 := (HR.out.below C0.out) 0 _ rfl
  have r1 := (HR.out.below C0.out) 1 _ rfl
  by_cases hE : E = 0
  case neg =>
    have hE' : (E != 0) = true := by simpa using hE
    have e1 : doL m0 m1 m2 le ke = [] := by unfold doL; rw [HE.out, if_neg hE]
    have e2 : doG m0 m1 m2 le ke = [] := by unfold doG; rw [HE.out, if_neg hE]
    have h1 := HX1.out
    have h2 := HX2.out
    rw [e1] at h1
    rw [e2] at h2
    obtain ⟨pa, pk, rfl, _, _⟩ := h1.shape
    obtain ⟨qa, qk, rfl, _, _⟩ := h2.shape
    clear h1 h2 e1 e2
    go_wp2
    go_ret
    exact ⟨rfl, below_next HWV.out C0.out⟩
  case pos =>
  subst hE
  obtain ⟨_, h12, l1, l2, he⟩ := stE_zero HE.out
  have e1 : doL m0 m1 m2 le ke = stpL le ke m0 m1 m2 := by unfold doL; rw [HE.out, if_pos rfl]
  have e2 : doG m0 m1 m2 le ke = stpG ke m0 m1 m2 := by unfold doG; rw [HE.out, if_pos rfl]
  rw [e1] at HX1
  rw [e2] at HX2
  have HP := hide (And.intro (show m0.length ≤ 12 by omega) (And.intro l1 (And.intro l2 he)))
  clear h12 l1 l2 he e1 e2
  have HX := hide (rstepof_any v0 v1 v2 m0 m1 m2 le ke _ (M0.out.below C0.out) (M1.out.below C0.out) (M2.out.below C0.out) HP.out.1 HP.out.2.1 HP.out.2.2.1 HP.out.2.2.2)
  go_wp2_with fail
  refine HX.out.mono ?_
  rintro e u4 ⟨y1, y2, rfl, hm, hm2, hb⟩
  replace C0 := hide (below_next C0.out hb)
  replace C1 := hide (below_next C1.out hb)
  replace C2 := hide (below_next C2.out hb)
  replace C3 := hide (below_next C3.out hb)
  clear HX hb
  have C4 := hide (Below.refl u4.heap.size u4)
  have HY1 := hide (show IsLys u4 y1 (stpL le ke m0 m1 m2) from hm.reads)
  have HY2 := hide (show IsGds u4 y2 (stpG ke m0 m1 m2) from hm2.reads)
  clear hm hm2 r0 r1
  have HX := hide (lys_same x1 y1 _ _ (HX1.out.below C1.out) (HY1.out.below C4.out))
  go_wp2_with fail
  refine HX.out.mono ?_
  rintro e u5 ⟨rfl, hb⟩
  replace C0 := hide (below_next C0.out hb)
  replace C1 := hide (below_next C1.out hb)
  replace C2 := hide (below_next C2.out hb)
  replace C3 := hide (below_next C3.out hb)
  replace C4 := hide (below_next C4.out hb)
  clear HX hb
  have C5 := hide (Below.refl u5.heap.size u5)
  have HX := hide (gds_same x2 y2 _ _ (HX2.out.below C1.out) (HY2.out.below C4.out))
  go_wp2_with fail
  refine HX.out.mono ?_
  rintro e u6 ⟨rfl, hb⟩
  replace C0 := hide (below_next C0.out hb)
  replace C1 := hide (below_next C1.out hb)
  replace C2 := hide (below_next C2.out hb)
  replace C3 := hide (below_next C3.out hb)
  replace C4 := hide (below_next C4.out hb)
  replace C5 := hide (below_next C5.out hb)
  clear HX hb
  have C6 := hide (Below.refl u6.heap.size u6)
  go_wp2
  go_ret
  exact ⟨rfl, below_next HWV.out C0.out⟩
end Go.Proofs.YtjmmplpecmnlnadDoor
