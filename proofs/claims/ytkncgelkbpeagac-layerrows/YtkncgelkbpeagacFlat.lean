/- Plain facts on lists of rows: what is laid one behind the other, by its numbers. No program in sight. -/
import Derived.Test.YtkncgelkbpeagacIdx
namespace Go.Proofs.Ytkncgelkbpeagac
theorem tab_add (a b : Nat) (f : Nat → Int) : tab (a + b) f = tab a f ++ tab b (fun q => f (a + q)) := by
  unfold tab; rw [List.range_add, List.map_append, List.map_map]; rfl
theorem tab_list (zs : List Int) : tab zs.length (fun q => (zs[q]?).getD 0) = zs := by
  apply List.ext_getElem?
  intro i
  by_cases hi : i < zs.length
  · rw [tab_at hi, List.getElem?_eq_getElem hi]; rfl
  · rw [List.getElem?_eq_none (by rw [tab_len]; omega), List.getElem?_eq_none (by omega)]
theorem tab_flat (C : Nat) : ∀ zss : List (List Int), (∀ zs ∈ zss, zs.length = C) → tab (zss.length * C) (fun q => (((zss[q / C]?).getD [])[q % C]?).getD 0) = zss.flatten
  | [], _ => by simp [tab]
  | zs :: l, h => by
    have hz : zs.length = C := h zs (by simp)
    have ih := tab_flat C l (fun x hx => h x (by simp [hx]))
    rw [List.length_cons, Nat.succ_mul, Nat.add_comm, tab_add, List.flatten_cons, ← ih]
    congr 1
    · conv => rhs; rw [← tab_list zs]
      rw [hz]
      refine tab_congr (fun q hq => ?_)
      rw [Nat.div_eq_of_lt hq, Nat.mod_eq_of_lt hq]; rfl
    · refine tab_congr (fun q hq => ?_)
      have hC : 0 < C := by rcases Nat.eq_zero_or_pos C with h | h; (subst h; simp at hq); exact h
      rw [Nat.add_comm C q, Nat.add_div_right _ hC, Nat.add_mod_right]; rfl
/-- The rows of a list of cells. -/
def rowsL (cs : List Int) (C : Nat) (R : Nat) : List (List Int) := (List.range R).map (fun i => (cs.drop (i * C)).take C)
theorem rowsL_flat (cs : List Int) (C : Nat) : ∀ R, (rowsL cs C R).flatten = cs.take (R * C)
  | 0 => by simp [rowsL]
  | R + 1 => by
    have ih := rowsL_flat cs C R
    unfold rowsL at ih ⊢
    rw [List.range_succ, List.map_append, List.flatten_append, ih, Nat.succ_mul, List.take_add]
    simp
theorem rowsL_len (cs : List Int) (C R : Nat) : (rowsL cs C R).length = R := by simp [rowsL]
theorem rowsL_rows {cs : List Int} {C R : Nat} (h : cs.length = R * C) : ∀ zs ∈ rowsL cs C R, zs.length = C := by
  intro zs hz
  simp [rowsL] at hz
  obtain ⟨i, hi, rfl⟩ := hz
  have := Nat.mul_le_mul_right C (show i + 1 ≤ R by omega)
  rw [Nat.succ_mul] at this
  simp; omega
theorem rowsL_succ (cs : List Int) (C R : Nat) : rowsL cs C (R + 1) = rowsL cs C R ++ [(cs.drop (R * C)).take C] := by simp [rowsL, List.range_succ]
end Go.Proofs.Ytkncgelkbpeagac
