/- Plain facts on the matrix of ones on its diagonal: what is multiplied by it stays. -/
import Derived.Test.YtkncgelkbpeagacMLaw
namespace Go.Proofs.Ytkncgelkbpeagac
/-- Ones on the diagonal's first k places. -/
def unitF (C k q : Nat) : Int := if q / C = q % C ∧ q / C < k then 256 else 0
theorem unitF_zero (C n : Nat) : tab n (fun _ => 0) = tab n (unitF C 0) := tab_congr (fun q _ => by unfold unitF; rw [if_neg (fun e => Nat.not_lt_zero _ e.2)])
theorem unitF_step (C k : Nat) (hk : k < C) : (tab (C * C) (unitF C k)).set (k * C + k) 256 = tab (C * C) (unitF C (k + 1)) := by
  rw [tab_set]
  refine tab_congr (fun q _ => ?_)
  obtain ⟨e1, e2⟩ := at_row (C := C) (i := k) (j := k) hk
  by_cases hq : q = k * C + k
  · rw [if_pos hq, hq]; unfold unitF; rw [e1, e2, if_pos ⟨rfl, by omega⟩]
  · rw [if_neg hq]
    have hd := Nat.div_add_mod q C
    have hne : ¬ (q / C = q % C ∧ q / C = k) := fun e => hq (by rw [← hd, ← e.1, e.2, Nat.mul_comm])
    unfold unitF
    by_cases h : q / C = q % C ∧ q / C < k
    · rw [if_pos h, if_pos ⟨h.1, by omega⟩]
    · rw [if_neg h, if_neg (fun e => h ⟨e.1, by rcases Nat.lt_or_ge (q / C) k with l | l; exact l; exact absurd ⟨e.1, by omega⟩ hne⟩)]
def unitM (C : Nat) : Mx := ⟨C, C, tab (C * C) (unitF C C)⟩
theorem unit_good {C : Nat} (h : C ≤ 12) : Good (unitM C) C C := by
  refine ⟨rfl, rfl, by omega, h, tab_len _ _, tab_ends (fun q _ => ?_)⟩
  unfold unitF; split <;> decide
theorem unit_cell {C k j : Nat} (hk : k < C) (hj : j < C) : ((unitM C).cells[k * C + j]?).getD 0 = if k = j then 256 else 0 := by
  obtain ⟨e1, e2⟩ := at_row (C := C) (i := k) (j := j) hj
  show ((tab _ _)[_]?).getD 0 = _
  rw [tab_get (idx_lt hk hj)]
  unfold unitF
  rw [e1, e2]
  by_cases h : k = j
  · rw [if_pos ⟨h, hk⟩, if_pos h]
  · rw [if_neg (fun e => h e.1), if_neg h]
theorem cl_ends' {x : Int} (h : inEnds x = true) : cl x = x := by rw [ends_iff] at h; exact cl_in x h.1 h.2
theorem ad_ends {x : Int} (h : inEnds x = true) : ad x 0 = x := by rw [ad_zero, cl_ends' h]
theorem dot_unit {a : Mx} {R C i j : Nat} (ga : Good a R C) (hj : j < C) : ∀ k, k ≤ C → dot a.cells (unitM C).cells C C i j k = if j < k then (a.cells[i * C + j]?).getD 0 else 0
  | 0, _ => by rw [if_neg (by omega)]; rfl
  | k + 1, hk => by
    have hx := getD_ends ga.e (i * C + j)
    unfold dot
    rw [dot_unit ga hj k (by omega), unit_cell (by omega) hj]
    by_cases h : k = j
    · subst h
      rw [if_neg (by omega), if_pos rfl, if_pos (by omega), ml_one, ad_comm, ad_zero, cl_cl, cl_ends' hx]
    · rw [if_neg h, ml_zero]
      by_cases h' : j < k
      · rw [if_pos h', if_pos (by omega), ad_ends hx]
      · rw [if_neg h', if_neg (by omega)]; decide
theorem mul_unit {a : Mx} {R C : Nat} (ga : Good a R C) : mulX a (unitM C) = a := by
  have gu := unit_good ga.hC
  rw [mulX_yes (ga.mul0 gu) ga.r ga.c gu.c]
  obtain ⟨r, c, cs⟩ := a
  have hr : r = (R : Int) := ga.r
  have hc : c = (C : Int) := ga.c
  have hl : cs.length = R * C := ga.l
  subst hr hc
  congr 1
  refine eq_at _ _ (by rw [tab_len, hl]) (fun q hq => ?_)
  rw [tab_len] at hq
  have hC0 : 0 < C := by rcases Nat.eq_zero_or_pos C with h | h; (subst h; simp at hq); exact h
  rw [tab_at hq, dot_unit ga (Nat.mod_lt _ hC0) C (Nat.le_refl _), if_pos (Nat.mod_lt _ hC0), Nat.mul_comm, Nat.div_add_mod]
  show some ((cs[q]?).getD 0) = cs[q]?
  rw [List.getElem?_eq_getElem (by omega)]; rfl
end Go.Proofs.Ytkncgelkbpeagac
