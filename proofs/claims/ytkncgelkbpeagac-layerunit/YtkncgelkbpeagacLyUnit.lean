/- Plain facts on layers that do nothing: ones on the diagonal, a scale of 1, a shift of 0. No program in sight. -/
import Derived.Test.YtkncgelkbpeagacLyGood
import Derived.Test.YtkncgelkbpeagacUnit
namespace Go.Proofs.Ytkncgelkbpeagac
def zeroM (C : Nat) : Mx := ⟨1, C, tab C (fun _ => 0)⟩
theorem zero_good {C : Nat} (h : C ≤ 12) : Good (zeroM C) 1 C := ⟨rfl, rfl, by omega, h, by show (tab C _).length = _; rw [tab_len]; omega, tab_ends (fun q _ => by decide)⟩
theorem zero_cell (C q : Nat) : cellAt (zeroM C) q = 0 := by
  unfold cellAt zeroM
  show ((tab C _)[q]?).getD 0 = 0
  by_cases h : q < C
  · rw [tab_at h]; rfl
  · rw [List.getElem?_eq_none (by rw [tab_len]; omega)]; rfl
theorem unit_turn {C : Nat} (h : C ≤ 12) : turnX (unitM C) = unitM C := by
  have gu := unit_good h
  rw [turnX_yes (gu.turn0 h) gu.r gu.c]
  show (⟨C, C, _⟩ : Mx) = ⟨C, C, tab (C * C) (unitF C C)⟩
  congr 1
  refine tab_congr (fun q hq => ?_)
  have hC0 : 0 < C := by rcases Nat.eq_zero_or_pos C with h | h; (subst h; simp at hq); exact h
  have hi := Nat.mod_lt q hC0
  have hj : q / C < C := Nat.div_lt_of_lt_mul hq
  rw [unit_cell hi hj]
  unfold unitF
  by_cases he : q / C = q % C
  · rw [if_pos he.symm, if_pos ⟨he, hj⟩]
  · rw [if_neg (fun e => he e.symm), if_neg (fun e => he e.1)]
theorem each_id {a : Mx} {R C : Nat} (g : Good a R C) {f : Nat → Int} (h : ∀ q, f q = cellAt a q) : eachX a f = a := by
  rw [show f = cellAt a from funext h]; exact each_self g
theorem add_zero {a : Mx} {R C : Nat} (g : Good a R C) (D : Nat) : Go.Proofs.Ytkncgelkbpeagac.addRows a (zeroM D) = a := by
  refine each_id g (fun q => ?_)
  rw [zero_cell, ad_ends (cellAt_ends g q)]
theorem times_one {a : Mx} {R C : Nat} (g : Good a R C) : timesX a 256 = a := by
  rw [times_each g]
  exact each_id g (fun q => by rw [ml_one, cl_ends' (cellAt_ends g q)])
/-- The three layers that do nothing. -/
def unitL (C : Nat) : Nat → Ly
  | 0 => ⟨1, unitM C, zeroM C⟩
  | 1 => ⟨3, ⟨1, 1, [256]⟩, noMx⟩
  | _ => ⟨4, noMx, zeroM C⟩
theorem no_good : Good noMx 0 0 := ⟨rfl, rfl, by omega, by omega, rfl, rfl⟩
theorem one_good : Good ⟨1, 1, [256]⟩ 1 1 := ⟨rfl, rfl, by omega, by omega, rfl, by decide⟩
theorem unit_ok {C : Nat} (h1 : 1 ≤ C) (h2 : C ≤ 12) : ∀ i, LyG (unitL C i)
  | 0 => .lin C C rfl (unit_good h2) (zero_good h2) h1 h2 h1
  | 1 => .scale rfl one_good no_good
  | _ + 2 => .shift C rfl no_good (zero_good h2) h1
theorem unit_go {x : Mx} {R C : Nat} (gx : Good x R C) (h1 : 1 ≤ C) (h2 : C ≤ 12) : ∀ i, goE (unitL C i) x = 0 ∧ goX (unitL C i) x = x
  | 0 => by
    have h : goE (unitL C 0) x = 0 := goE_of (unit_ok h1 h2 0).fault gx.fault (by show decide (x.cols = (C : Int)) = true; exact decide_eq_true gx.c)
    refine ⟨h, ?_⟩
    unfold goX; rw [if_pos h]
    show Go.Proofs.Ytkncgelkbpeagac.addRows (mulX x (unitM C)) (zeroM C) = x
    rw [mul_unit gx, add_zero gx]
  | 1 => by
    have h : goE (unitL C 1) x = 0 := goE_of (unit_ok h1 h2 1).fault gx.fault rfl
    refine ⟨h, ?_⟩
    unfold goX; rw [if_pos h]
    show timesX x 256 = x
    exact times_one gx
  | i + 2 => by
    have h : goE (unitL C (i + 2)) x = 0 := goE_of (unit_ok h1 h2 (i + 2)).fault gx.fault (by show decide (x.cols = (C : Int)) = true; exact decide_eq_true gx.c)
    refine ⟨h, ?_⟩
    unfold goX; rw [if_pos h]
    show Go.Proofs.Ytkncgelkbpeagac.addRows x (zeroM C) = x
    exact add_zero gx C
theorem unit_back {x g : Mx} {R C : Nat} (gx : Good x R C) (h2 : C ≤ 12) : ∀ i, backE (unitL C i) x g = 0 → backX (unitL C i) x g = g
  | 0, h => by
    obtain ⟨Cg, gg, eg, _⟩ := back_good gx h
    have eg : (C : Int) = (Cg : Int) := eg
    have gg := gg.same (R' := R) (C' := C) rfl (by omega)
    unfold backX; rw [if_pos h]
    show mulX g (turnX (unitM C)) = g
    rw [unit_turn h2, mul_unit gg]
  | 1, h => by
    obtain ⟨Cg, gg, _, _⟩ := back_good gx h
    unfold backX; rw [if_pos h]
    show timesX g 256 = g
    exact times_one gg
  | i + 2, h => by
    obtain ⟨Cg, gg, _, _⟩ := back_good gx h
    unfold backX; rw [if_pos h]
    show eachX g (cellAt g) = g
    exact each_self gg
end Go.Proofs.Ytkncgelkbpeagac
