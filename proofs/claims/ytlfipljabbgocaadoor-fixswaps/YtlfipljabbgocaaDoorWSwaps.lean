/- The walk of the law FixSwaps: it returns true for every two ints. Condition: the table of powers of ten that Itoa reads is as its text lays it. -/
import Derived.Test.YtlfipljabbgocaaDoorFact
namespace Go.Proofs.YtlfipljabbgocaaDoor
open Go.RowKit
set_option maxHeartbeats 800000 in
theorem swaps_walk (a b : Int) (w : World) (hP : Pow w) : Calls Tryd.prog 4 #[.int .i64 a, .int .i64 b] w fun e w' => e = .returned (.bool true) ∧ Below w.heap.size w w' := by
  have f1 : (ad a b != ad b a) = false := by rw [ad_comm]; simp
  have f2 : (ml a b != ml b a) = false := by rw [ml_comm]; simp
  have f3 : (ml a 256 != cl a) = false := by rw [ml_one]; simp
  have f4 : (ad a 0 != cl a) = false := by rw [ad_zero]; simp
  have f5 : (ml a 0 != 0) = false := by rw [ml_zero]; simp
  by_cases c1 : ad a b = 2147483647
  · have c1' : (ad a b == 2147483647) = true := by rw [c1]; rfl
    clear c1
    go_enter Tryd.func4, Tryd.ntmps4
    go_wp2_with (first | (go_at_call 12; refine (fact_any _ hP).mono ?_; rintro e w1 ⟨rfl, hb1⟩) | (go_at_call 13; refine (add_any _ _ _).mono ?_; rintro e w' ⟨rfl, rfl⟩) | (go_at_call 14; refine (mul_any _ _ _).mono ?_; rintro e w' ⟨rfl, rfl⟩) | (go_at_call 15; refine (clamp_any _ _).mono ?_; rintro e w' ⟨rfl, rfl⟩) | (go_at_call 16; refine (sub_any _ _ _).mono ?_; rintro e w' ⟨rfl, rfl⟩))
    go_ret
    exact ⟨rfl, hb1⟩
  · have c1' : (ad a b == 2147483647) = false := by simp [c1]
    by_cases c2 : ad a b = -2147483647
    · have c2' : (ad a b == -2147483647) = true := by rw [c2]; rfl
      clear c1 c2
      go_enter Tryd.func4, Tryd.ntmps4
      go_wp2_with (first | (go_at_call 12; refine (fact_any _ hP).mono ?_; rintro e w1 ⟨rfl, hb1⟩) | (go_at_call 13; refine (add_any _ _ _).mono ?_; rintro e w' ⟨rfl, rfl⟩) | (go_at_call 14; refine (mul_any _ _ _).mono ?_; rintro e w' ⟨rfl, rfl⟩) | (go_at_call 15; refine (clamp_any _ _).mono ?_; rintro e w' ⟨rfl, rfl⟩) | (go_at_call 16; refine (sub_any _ _ _).mono ?_; rintro e w' ⟨rfl, rfl⟩))
      go_ret
      exact ⟨rfl, hb1⟩
    · have c2' : (ad a b == -2147483647) = false := by simp [c2]
      have f6 : (sb (ad a b) b == cl a) = true := by rw [sb_ad a b c1 c2]; simp
      clear c1 c2
      go_enter Tryd.func4, Tryd.ntmps4
      go_wp2_with (first | (go_at_call 12; refine (fact_any _ hP).mono ?_; rintro e w1 ⟨rfl, hb1⟩) | (go_at_call 13; refine (add_any _ _ _).mono ?_; rintro e w' ⟨rfl, rfl⟩) | (go_at_call 14; refine (mul_any _ _ _).mono ?_; rintro e w' ⟨rfl, rfl⟩) | (go_at_call 15; refine (clamp_any _ _).mono ?_; rintro e w' ⟨rfl, rfl⟩) | (go_at_call 16; refine (sub_any _ _ _).mono ?_; rintro e w' ⟨rfl, rfl⟩))
      go_ret
      exact ⟨rfl, hb1⟩
end Go.Proofs.YtlfipljabbgocaaDoor
