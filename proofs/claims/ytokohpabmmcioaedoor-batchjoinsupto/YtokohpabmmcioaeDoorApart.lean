/- Plain facts on rows taken apart and stacked, and on products taken row by row. -/
import Derived.Test.YtokohpabmmcioaeDoorMStk
namespace Go.Proofs.YtokohpabmmcioaeDoor
theorem tab_take {zs : List Int} {n : Nat} (h : n ≤ zs.length) : tab n (fun q => (zs[q]?).getD 0) = zs.take n := by
  apply List.ext_getElem?
  intro i
  by_cases hi : i < n
  · rw [tab_at hi, List.getElem?_take_of_lt hi, List.getElem?_eq_getElem (by omega)]; rfl
  · rw [List.getElem?_eq_none (by rw [tab_len]; omega), List.getElem?_eq_none (by rw [List.length_take]; omega)]
theorem tab_drop {zs : List Int} {n k : Nat} (h : k + n = zs.length) : tab n (fun q => (zs[k + q]?).getD 0) = zs.drop k := by
  apply List.ext_getElem?
  intro i
  by_cases hi : i < n
  · rw [tab_at hi, List.getElem?_drop, List.getElem?_eq_getElem (by omega)]; rfl
  · rw [List.getElem?_eq_none (by rw [tab_len]; omega), List.getElem?_eq_none (by rw [List.length_drop]; omega)]
theorem Good.rows0 {a : Mx} {R C : Nat} (g : Good a R C) {f t : Nat} (h1 : f ≤ t) (h2 : t ≤ R) : rowsE a (f : Int) (t : Int) = 0 := by
  unfold rowsE; rw [g.fault, if_neg (by simp), if_neg (by rw [g.r]; omega)]
theorem Good.rowsEq {a : Mx} {R C : Nat} (g : Good a R C) {f t : Nat} (h1 : f ≤ t) (h2 : t ≤ R) : rowsX a (f : Int) (t : Int) = ⟨((t - f : Nat) : Int), C, tab ((t - f) * C) (fun q => (a.cells[f * C + q]?).getD 0)⟩ := by
  unfold rowsX
  rw [if_pos (g.rows0 h1 h2), g.c]
  have e1 : (t : Int) - (f : Int) = ((t - f : Nat) : Int) := by omega
  rw [e1]; simp
theorem Good.rows {a : Mx} {R C : Nat} (g : Good a R C) {f t : Nat} (h1 : f ≤ t) (h2 : t ≤ R) : Good (rowsX a (f : Int) (t : Int)) (t - f) C := by
  rw [g.rowsEq h1 h2]
  exact ⟨rfl, rfl, by have := g.hR; omega, g.hC, tab_len _ _, tab_ends (fun q _ => getD_ends g.e _)⟩
theorem rows_cell {a : Mx} {R C : Nat} (g : Good a R C) {f t i j : Nat} (h1 : f ≤ t) (h2 : t ≤ R) (hi : i < t - f) (hj : j < C) : ((rowsX a (f : Int) (t : Int)).cells[i * C + j]?).getD 0 = (a.cells[(f + i) * C + j]?).getD 0 := by
  rw [g.rowsEq h1 h2]
  show ((tab _ _)[_]?).getD 0 = _
  rw [tab_get (idx_lt hi hj), Nat.add_mul, Nat.add_assoc]
theorem dot_rows {a b : Mx} {R C Cb : Nat} (g : Good a R C) {f t i j : Nat} (h1 : f ≤ t) (h2 : t ≤ R) (hi : i < t - f) : ∀ k, k ≤ C → dot (rowsX a (f : Int) (t : Int)).cells b.cells C Cb i j k = dot a.cells b.cells C Cb (f + i) j k
  | 0, _ => rfl
  | k + 1, hk => by
    unfold dot
    rw [dot_rows g h1 h2 hi k (by omega), rows_cell g h1 h2 hi (by omega)]
/-- Rows of a product are the product of the rows. -/
theorem rows_mul {a b : Mx} {R C Cb : Nat} (ga : Good a R C) (gb : Good b C Cb) {f t : Nat} (h1 : f ≤ t) (h2 : t ≤ R) : mulX (rowsX a (f : Int) (t : Int)) b = rowsX (mulX a b) (f : Int) (t : Int) := by
  have gx := ga.rows h1 h2
  have gp := ga.mul gb
  rw [mulX_yes (gx.mul0 gb) gx.r gx.c gb.c, gp.rowsEq h1 h2]
  congr 1
  refine tab_congr (fun q hq => ?_)
  have hC0 : 0 < Cb := by rcases Nat.eq_zero_or_pos Cb with h | h; (subst h; simp at hq); exact h
  have hj := Nat.mod_lt q hC0
  have hi : q / Cb < t - f := Nat.div_lt_of_lt_mul (by rw [Nat.mul_comm]; exact hq)
  rw [dot_rows ga h1 h2 hi C (Nat.le_refl _), ← row_col (f := f) (C := Cb) (q := q), mul_cell ga gb (by omega) hj]
theorem stack_two {u v : Mx} {R1 R2 C : Nat} (gu : Good u R1 C) (gv : Good v R2 C) (h : R1 + R2 ≤ 24) : stackE [u, v] = 0 ∧ stackX [u, v] = ⟨((R1 + R2 : Nat) : Int), C, u.cells ++ v.cells⟩ := by
  have e : stackE [u, v] = 0 := by
    unfold stackE
    have hf : faults [u, v] = 0 := by unfold faults; rw [gu.fault, if_pos rfl, faults_one, gv.fault]
    have hs : sameC [u, v] = true := by simp [sameC, gu.c, gv.c]
    rw [if_neg (by simp [hf]), if_neg (by simp [hs]), if_neg (by simp only [sumR]; rw [gu.r, gv.r]; omega)]
  refine ⟨e, ?_⟩
  unfold stackX
  rw [if_pos e]
  simp [sumR, gu.r, gv.r, gu.c]
/-- Rows taken apart and stacked are the same. -/
theorem stack_rows {a : Mx} {R C : Nat} (g : Good a R C) {k : Nat} (hk : k ≤ R) : stackE [rowsX a ((0 : Nat) : Int) (k : Int), rowsX a (k : Int) (R : Int)] = 0 ∧ stackX [rowsX a ((0 : Nat) : Int) (k : Int), rowsX a (k : Int) (R : Int)] = a := by
  have gx := g.rows (Nat.zero_le k) hk
  have gy := g.rows hk (Nat.le_refl R)
  obtain ⟨e1, e2⟩ := stack_two gx gy (by have := g.hR; omega)
  refine ⟨e1, ?_⟩
  rw [e2, g.rowsEq (Nat.zero_le k) hk, g.rowsEq hk (Nat.le_refl R)]
  obtain ⟨r, c, cs⟩ := a
  have hr : r = (R : Int) := g.r
  have hc : c = (C : Int) := g.c
  have hl : cs.length = R * C := g.l
  subst hr hc
  have h1 := Nat.mul_le_mul_right C hk
  have h2 : k * C + (R - k) * C = R * C := by rw [← Nat.add_mul]; congr 1; omega
  congr 1
  · omega
  · show tab ((k - 0) * C) (fun q => (cs[0 * C + q]?).getD 0) ++ tab ((R - k) * C) (fun q => (cs[k * C + q]?).getD 0) = cs
    simp only [Nat.sub_zero, Nat.zero_mul, Nat.zero_add]
    rw [tab_take (by omega), tab_drop (by omega), List.take_append_drop]
end Go.Proofs.YtokohpabmmcioaeDoor
