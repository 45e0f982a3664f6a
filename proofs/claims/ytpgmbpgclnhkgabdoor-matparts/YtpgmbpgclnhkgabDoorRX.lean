/- The document's answers give what package mat gives, where it says no error. -/
import Derived.Test.YtpgmbpgclnhkgabDoorMOps1
import Derived.Test.YtpgmbpgclnhkgabDoorMOps2
import Derived.Test.YtpgmbpgclnhkgabDoorMLaw
import Derived.Test.YtpgmbpgclnhkgabDoorRTurn
import Derived.Test.YtpgmbpgclnhkgabDoorRMul
import Derived.Test.YtpgmbpgclnhkgabDoorRRows
import Derived.Test.YtpgmbpgclnhkgabDoorRMap
import Derived.Test.YtpgmbpgclnhkgabDoorRSums
namespace Go.Proofs.YtpgmbpgclnhkgabDoor
open Go.RowKit
/-- A call that gives a matrix, in new memory. -/
def RefEnd (w : World) (m : Mx) (e : Ending) (w' : World) : Prop := ∃ a n k, e = .returned (.agg #[.int .i64 m.rows, .int .i64 m.cols, .slice a n k]) ∧ IsMx w' (.agg #[.int .i64 m.rows, .int .i64 m.cols, .slice a n k]) m ∧ Below w.heap.size w w' ∧ Fresh w.heap.size (.agg #[.int .i64 m.rows, .int .i64 m.cols, .slice a n k])
theorem refEnd_of {w : World} {m m' : Mx} {e : Ending} {w' : World} (h : ∃ v', e = .returned v' ∧ IsMx w' v' m' ∧ Below w.heap.size w w' ∧ Fresh w.heap.size v') (hm : m = m') : RefEnd w m e w' := by
  subst hm
  obtain ⟨v, rfl, ⟨s, rfl, hs⟩, hb, hf⟩ := h
  obtain ⟨a, n, k, rfl⟩ := hs.shape
  exact ⟨a, n, k, rfl, ⟨_, rfl, hs⟩, hb, hf⟩
theorem ref_mul {va vb : Value} {a b : Mx} (w : World) (hva : IsMx w va a) (hvb : IsMx w vb b) (hE : mulE a b = 0) : Calls Tryd.prog 13 #[va, vb] w (RefEnd w (mulX a b)) := by
  obtain ⟨Ra, Ca, Cb, ga, gb⟩ := mulE_zero hE
  refine (rmatmul_any va vb a b Ra Ca Cb w hva hvb ga.r ga.c gb.c ga.hR (by have := ga.hC; omega) (by have := gb.hC; omega) ga.l gb.l).mono ?_
  intro e w' h
  exact refEnd_of h (mulX_yes hE ga.r ga.c gb.c)
theorem addE_zero {a b : Mx} (h : addE a b = 0) : ∃ R C, Good a R C ∧ Good b R C := by
  unfold addE at h
  by_cases h1 : faults [a, b] ≠ 0
  · rw [if_pos h1] at h; exact absurd h h1
  · rw [if_neg h1] at h
    obtain ⟨fa, fb⟩ := faults_two (Decidable.not_not.1 h1)
    obtain ⟨Ra, Ca, ga⟩ := good_of fa
    obtain ⟨Rb, Cb, gb⟩ := good_of fb
    by_cases h2 : a.rows ≠ b.rows ∨ a.cols ≠ b.cols
    · rw [if_pos h2] at h; cases h
    · have e1 : Ra = Rb := by have := ga.r; have := gb.r; omega
      have e2 : Ca = Cb := by have := ga.c; have := gb.c; omega
      subst e1 e2
      exact ⟨Ra, Ca, ga, gb⟩
theorem ref_add {va vb : Value} {a b : Mx} (w : World) (hva : IsMx w va a) (hvb : IsMx w vb b) (hE : addE a b = 0) : Calls Tryd.prog 11 #[va, vb] w (RefEnd w (addX a b)) := by
  obtain ⟨R, C, ga, gb⟩ := addE_zero hE
  refine (rmatadd_any va vb a b R C w hva hvb ga.r ga.c ga.hR (by have := ga.hC; omega) ga.l gb.l).mono ?_
  intro e w' h
  exact refEnd_of h (by unfold addX; rw [if_pos hE, ga.r, ga.c]; simp)
theorem ref_turn {va : Value} {a : Mx} (w : World) (hva : IsMx w va a) (hE : turnE a = 0) (hf : fault a = 0) : Calls Tryd.prog 18 #[va] w (RefEnd w (turnX a)) := by
  obtain ⟨R, C, ga⟩ := good_of hf
  refine (turn_any va a R C w hva ga.r ga.c ga.hR (by have := ga.hC; omega) ga.l).mono ?_
  intro e w' h
  exact refEnd_of h (turnX_yes hE ga.r ga.c)
theorem timesE_zero {a : Mx} (hf : fault a = 0) : timesE a = 0 := by unfold timesE; rw [if_neg (by simp [hf])]
theorem ref_times {va : Value} {a : Mx} (x : Int) (w : World) (hva : IsMx w va a) (hf : fault a = 0) : Calls Tryd.prog 19 #[va, .int .i64 x] w (RefEnd w (timesX a x)) := by
  obtain ⟨R, C, ga⟩ := good_of hf
  refine (rmattimes_any va a x R C w hva ga.r ga.c ga.hR (by have := ga.hC; omega) ga.l).mono ?_
  intro e w' h
  exact refEnd_of h (by unfold timesX; rw [if_pos (timesE_zero hf), ga.r, ga.c]; simp)
theorem ref_sums {va : Value} {a : Mx} (w : World) (hva : IsMx w va a) (hf : fault a = 0) : Calls Tryd.prog 20 #[va] w (RefEnd w (sumsX a)) := by
  obtain ⟨R, C, ga⟩ := good_of hf
  refine (rsums_any va a R C w hva ga.c ga.hR (by have := ga.hC; omega) ga.l).mono ?_
  intro e w' h
  exact refEnd_of h (by unfold sumsX; rw [if_pos (timesE_zero hf), ga.c, ga.r]; simp)
theorem ref_rows {va : Value} {a : Mx} (f t : Int) (w : World) (hva : IsMx w va a) (hE : rowsE a f t = 0) (hf : fault a = 0) (h0 : 0 ≤ f) (h1 : f ≤ t) (h2 : t ≤ a.rows) : Calls Tryd.prog 21 #[va, .int .i64 f, .int .i64 t] w (RefEnd w (rowsX a f t)) := by
  obtain ⟨R, C, ga⟩ := good_of hf
  obtain ⟨F, rfl⟩ : ∃ F : Nat, f = (F : Int) := ⟨f.toNat, by omega⟩
  obtain ⟨T, rfl⟩ : ∃ T : Nat, t = (T : Int) := ⟨t.toNat, by omega⟩
  refine (rrows_any va a R C F T w hva ga.c ga.hR (by have := ga.hC; omega) ga.l (by omega) (by have := ga.r; omega)).mono ?_
  intro e w' h
  refine refEnd_of h ?_
  unfold rowsX
  have e1 : (T : Int) - (F : Int) = ((T - F : Nat) : Int) := by omega
  rw [if_pos hE, ga.c, e1]; simp
end Go.Proofs.YtpgmbpgclnhkgabDoor
