/- The walk of the law FixRises: it returns true for every three ints. Condition: the table of powers of ten that Itoa reads is as its text lays it. -/
import Derived.Test.YtlfipljabbgocaaDoorFact
namespace Go.Proofs.YtlfipljabbgocaaDoor
open Go.RowKit
set_option maxHeartbeats 800000 in
theorem rises_walk (a b c : Int) (w : World) (hP : Pow w) : Calls Tryd.prog 5 #[.int .i64 a, .int .i64 b, .int .i64 c] w fun e w' => e = .returned (.bool true) ∧ Below w.heap.size w w' := by
  by_cases ho : a < b
  · have e1 := ad_mono b a c (by omega)
    have e2 := cl_mono a b (by omega)
    by_cases hc : c < 0
    · go_enter Tryd.func5, Tryd.ntmps5
      go_wp2_with (first | (go_at_call 12; refine (fact_any _ hP).mono ?_; rintro e w1 ⟨rfl, hb1⟩) | (go_at_call 13; refine (add_any _ _ _).mono ?_; rintro e w' ⟨rfl, rfl⟩) | (go_at_call 14; refine (mul_any _ _ _).mono ?_; rintro e w' ⟨rfl, rfl⟩) | (go_at_call 15; refine (clamp_any _ _).mono ?_; rintro e w' ⟨rfl, rfl⟩))
      go_ret
      exact ⟨rfl, hb1⟩
    · have e3 := ml_mono b a c (by omega) (by omega)
      go_enter Tryd.func5, Tryd.ntmps5
      go_wp2_with (first | (go_at_call 12; refine (fact_any _ hP).mono ?_; rintro e w1 ⟨rfl, hb1⟩) | (go_at_call 13; refine (add_any _ _ _).mono ?_; rintro e w' ⟨rfl, rfl⟩) | (go_at_call 14; refine (mul_any _ _ _).mono ?_; rintro e w' ⟨rfl, rfl⟩) | (go_at_call 15; refine (clamp_any _ _).mono ?_; rintro e w' ⟨rfl, rfl⟩))
      go_ret
      exact ⟨rfl, hb1⟩
  · have e1 := ad_mono a b c (by omega)
    have e2 := cl_mono b a (by omega)
    by_cases hc : c < 0
    · go_enter Tryd.func5, Tryd.ntmps5
      go_wp2_with (first | (go_at_call 12; refine (fact_any _ hP).mono ?_; rintro e w1 ⟨rfl, hb1⟩) | (go_at_call 13; refine (add_any _ _ _).mono ?_; rintro e w' ⟨rfl, rfl⟩) | (go_at_call 14; refine (mul_any _ _ _).mono ?_; rintro e w' ⟨rfl, rfl⟩) | (go_at_call 15; refine (clamp_any _ _).mono ?_; rintro e w' ⟨rfl, rfl⟩))
      go_ret
      exact ⟨rfl, hb1⟩
    · have e3 := ml_mono a b c (by omega) (by omega)
      go_enter Tryd.func5, Tryd.ntmps5
      go_wp2_with (first | (go_at_call 12; refine (fact_any _ hP).mono ?_; rintro e w1 ⟨rfl, hb1⟩) | (go_at_call 13; refine (add_any _ _ _).mono ?_; rintro e w' ⟨rfl, rfl⟩) | (go_at_call 14; refine (mul_any _ _ _).mono ?_; rintro e w' ⟨rfl, rfl⟩) | (go_at_call 15; refine (clamp_any _ _).mono ?_; rintro e w' ⟨rfl, rfl⟩))
      go_ret
      exact ⟨rfl, hb1⟩
end Go.Proofs.YtlfipljabbgocaaDoor
