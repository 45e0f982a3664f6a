/- The document's answers give what package mat gives, where it says no error. -/
import Derived.Test.YtkncgelkbpeagacDoorMOps1
import Derived.Test.YtkncgelkbpeagacDoorMOps2
import Derived.Test.YtkncgelkbpeagacDoorMLaw
import Derived.Test.YtkncgelkbpeagacDoorRTurn
import Derived.Test.YtkncgelkbpeagacDoorRMul
import Derived.Test.YtkncgelkbpeagacDoorRMap
import Derived.Test.YtkncgelkbpeagacDoorRSums
namespace Go.Proofs.YtkncgelkbpeagacDoor
open Go.RowKit
/-- A call that gives a matrix, in new memory. -/
def RefEnd (w : World) (m : Mx) (e : Ending) (w' : World) : Prop := ∃ a n k, e = .returned (.agg #[.int .i64 m.rows, .int .i64 m.cols, .slice a n k]) ∧ IsMx w' (.agg #[.int .i64 m.rows, .int .i64 m.cols, .slice a n k]) m ∧ Below w.heap.size w w' ∧ Fresh w.heap.size (.agg #[.int .i64 m.rows, .int .i64 m.cols, .slice a n k])
theorem refEnd_of {w : World} {m m' : Mx} {e : Ending} {w' : World} (h : ∃ v', e = .returned v' ∧ IsMx w' v' m' ∧ Below w.heap.size w w' ∧ Fresh w.heap.size v') (hm : m = m') : RefEnd w m e w' := by
  subst hm
  obtain ⟨v, rfl, ⟨s, rfl, hs⟩, hb, hf⟩ := h
  obtain ⟨a, n, k, rfl⟩ := hs.shape
  exact ⟨a, n, k, rfl, ⟨_, rfl, hs⟩, hb, hf⟩
theorem ref_mul {va vb : Value} {a b : Mx} (w : World) (hva : IsMx w va a) (hvb : IsMx w vb b) (hE : mulE a b = 0) : Calls Tryd.prog 24 #[va, vb] w (RefEnd w (mulX a b)) := by
  obtain ⟨Ra, Ca, Cb, ga, gb⟩ := mulE_zero hE
  refine (rmatmul_any va vb a b Ra Ca Cb w hva hvb ga.r ga.c gb.c ga.hR (by have := ga.hC; omega) (by have := gb.hC; omega) ga.l gb.l).mono ?_
  intro e w' h
  exact refEnd_of h (mulX_yes hE ga.r ga.c gb.c)
theorem ref_turn {va : Value} {a : Mx} (w : World) (hva : IsMx w va a) (hE : turnE a = 0) (hf : fault a = 0) : Calls Tryd.prog 31 #[va] w (RefEnd w (turnX a)) := by
  obtain ⟨R, C, ga⟩ := good_of hf
  refine (turn_any va a R C w hva ga.r ga.c ga.hR (by have := ga.hC; omega) ga.l).mono ?_
  intro e w' h
  exact refEnd_of h (turnX_yes hE ga.r ga.c)
theorem timesE_zero {a : Mx} (hf : fault a = 0) : timesE a = 0 := by unfold timesE; rw [if_neg (by simp [hf])]
theorem ref_times {va : Value} {a : Mx} (x : Int) (w : World) (hva : IsMx w va a) (hf : fault a = 0) : Calls Tryd.prog 25 #[va, .int .i64 x] w (RefEnd w (timesX a x)) := by
  obtain ⟨R, C, ga⟩ := good_of hf
  refine (rmattimes_any va a x R C w hva ga.r ga.c ga.hR (by have := ga.hC; omega) ga.l).mono ?_
  intro e w' h
  exact refEnd_of h (by unfold timesX; rw [if_pos (timesE_zero hf), ga.r, ga.c]; simp)
theorem ref_sums {va : Value} {a : Mx} (w : World) (hva : IsMx w va a) (hf : fault a = 0) : Calls Tryd.prog 32 #[va] w (RefEnd w (sumsX a)) := by
  obtain ⟨R, C, ga⟩ := good_of hf
  refine (rsums_any va a R C w hva ga.c ga.hR (by have := ga.hC; omega) ga.l).mono ?_
  intro e w' h
  exact refEnd_of h (by unfold sumsX; rw [if_pos (timesE_zero hf), ga.c, ga.r]; simp)
end Go.Proofs.YtkncgelkbpeagacDoor
