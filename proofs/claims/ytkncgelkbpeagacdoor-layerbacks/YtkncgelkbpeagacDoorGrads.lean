/- What Grads of package galleysame comes to at two lists of one Grad each, which are the same. -/
import Derived.Test.YtkncgelkbpeagacDoorLBack
namespace Go.Proofs.YtkncgelkbpeagacDoor
open Go.RowKit
/-- A list of one Grad in block B. -/
def OneGrad (w : World) (B : Nat) (a b : Mx) : Prop := ∃ (pa : Option Addr) (pn pk : Nat) (qa : Option Addr) (qn qk : Nat), Box w B [.int .i64 a.rows, .int .i64 a.cols, .slice pa pn pk, .int .i64 b.rows, .int .i64 b.cols, .slice qa qn qk] ∧ IsInts w (.slice pa pn pk) a.cells ∧ IsInts w (.slice qa qn qk) b.cells
theorem OneGrad.below {w w' : World} {B : Nat} {a b : Mx} (h : OneGrad w B a b) (hb : Below w.heap.size w w') : OneGrad w' B a b := by
  obtain ⟨pa, pn, pk, qa, qn, qk, h1, h2, h3⟩ := h
  exact ⟨pa, pn, pk, qa, qn, qk, h1.below hb, h2.below hb, h3.below hb⟩
set_option maxHeartbeats 4000000 in
set_option maxRecDepth 100000 in
theorem grads_any (B B' : Nat) (a b : Mx) (w : World) (h0 : OneGrad w B a b) (h1 : OneGrad w B' a b) :
    Calls Tryd.prog 17 #[.slice (some ⟨B, 0, none⟩) 1 1, .slice (some ⟨B', 0, none⟩) 1 1] w fun e w' => e = .returned (.bool true) ∧ Below w.heap.size w w' := by
  have H0 := hide h0
  have H1 := hide h1
  clear h0 h1
  go_enter Tryd.func17, Tryd.ntmps17
  go_wp2
  go_loopw [5] (fun x wr => ∃ (i : Nat) (xi : Int), i ≤ 1 ∧ xi = (i : Int) ∧ x = .int .i64 xi ∧ Below w.heap.size w wr) (fun x _ => 1 - (intOf x).toNat)
  case atStart => exact ⟨0, 0, by omega, rfl, rfl, Below.refl _ _⟩
  case round =>
    obtain ⟨i, xi, hi, hxi, rfl, hbw⟩ := hrel
    have HBW := hide hbw
    have HXI := hide hxi
    clear hbw hxi
    by_cases hlt : xi < 1
    · obtain rfl : xi = 0 := by have := HXI.out; omega
      obtain ⟨pa, pn, pk, qa, qn, qk, hB, hp, hq⟩ := H0.out.below HBW.out
      obtain ⟨ra, rn, rk, sa, sn, sk, hC, hr, hs⟩ := H1.out.below HBW.out
      have d0 := hB 0 _ rfl
      have d1 := hB 1 _ rfl
      have d2 := hB 2 _ rfl
      have y0 := hC 0 _ rfl
      have y1 := hC 1 _ rfl
      have y2 := hC 2 _ rfl
      have HM := hide (fun W (h : Below wr.heap.size wr W) => matrices_any _ _ a a W ⟨_, rfl, hp.below h⟩ ⟨_, rfl, hr.below h⟩)
      have HN := hide (fun W (h : Below wr.heap.size wr W) => matrices_any _ _ b b W ⟨_, rfl, hq.below h⟩ ⟨_, rfl, hs.below h⟩)
      have HB := hide hB
      have HC := hide hC
      rw [sameM_refl] at HM HN
      clear hp hq hr hs hB hC
      go_wp2
      refine region_tail 10 (by kernel_rfl) (by kernel_rfl) ?_
      simp only [List.take_succ_cons, List.take_zero, List.drop_succ_cons, List.drop_zero]
      repeat still_step
      refine wpStill_nil ?_
      go_wp2_with fail
      refine (HM.out _ (below_dr (Below.refl _ _))).mono ?_
      rintro e w1 ⟨rfl, hb1⟩
      have HB1 := hide (below_next (below_dr (Below.refl wr.heap.size wr)) hb1)
      clear hb1 d0 d1 d2 y0 y1 y2
      have d3 := (HB.out.below HB1.out) 3 _ rfl
      have d4 := (HB.out.below HB1.out) 4 _ rfl
      have d5 := (HB.out.below HB1.out) 5 _ rfl
      have y3 := (HC.out.below HB1.out) 3 _ rfl
      have y4 := (HC.out.below HB1.out) 4 _ rfl
      have y5 := (HC.out.below HB1.out) 5 _ rfl
      go_wp2
      refine region_tail 10 (by kernel_rfl) (by kernel_rfl) ?_
      simp only [List.take_succ_cons, List.take_zero, List.drop_succ_cons, List.drop_zero]
      repeat still_step
      refine wpStill_nil ?_
      go_wp2_with fail
      refine (HN.out _ (below_dr HB1.out)).mono ?_
      rintro e w2 ⟨rfl, hb2⟩
      have HB2 := hide (below_next (below_dr HB1.out) hb2)
      clear hb2 d3 d4 d5 y3 y4 y5
      go_wp2
      go_roundw
      case rel => exact ⟨1, _, by omega, by omega, rfl, below_next HBW.out HB2.out⟩
      case measure => simp [intOf]
    · go_wp2
      go_ret
      exact ⟨rfl, HBW.out⟩
end Go.Proofs.YtkncgelkbpeagacDoor
