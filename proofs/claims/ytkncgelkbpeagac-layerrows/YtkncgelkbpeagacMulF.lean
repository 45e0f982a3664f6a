/- Plain facts on products of matrices: what stands in the product behind so many rounds. No Go in sight. -/
import Derived.Test.YtkncgelkbpeagacRow
import Derived.Test.YtkncgelkbpeagacNum
namespace Go.Proofs.Ytkncgelkbpeagac
/-- The cell of row i, column j, behind k summands. -/
def dot (as bs : List Int) (Ca Cb i j : Nat) : Nat → Int
  | 0 => 0
  | k + 1 => ad (dot as bs Ca Cb i j k) (ml ((as[i * Ca + k]?).getD 0) ((bs[k * Cb + j]?).getD 0))
def mulF (as bs : List Int) (Ca Cb k i j q : Nat) : Int := if q / Cb < i ∨ (q / Cb = i ∧ q % Cb < j) then dot as bs Ca Cb (q / Cb) (q % Cb) (k + 1) else dot as bs Ca Cb (q / Cb) (q % Cb) k
theorem at_row {C i j : Nat} (h : j < C) : (i * C + j) / C = i ∧ (i * C + j) % C = j := by
  constructor
  · rw [Nat.add_comm, Nat.add_mul_div_right _ _ (by omega), Nat.div_eq_of_lt h, Nat.zero_add]
  · rw [Nat.add_comm, Nat.add_mul_mod_self_right, Nat.mod_eq_of_lt h]
theorem mulF_at (as bs : List Int) (Ca Cb k i j : Nat) (hj : j < Cb) : mulF as bs Ca Cb k i j (i * Cb + j) = dot as bs Ca Cb i j k := by
  obtain ⟨e1, e2⟩ := at_row (i := i) hj
  unfold mulF; rw [e1, e2, if_neg (by omega)]
theorem mulF_step (as bs : List Int) (Ca Cb k i j n : Nat) (hj : j < Cb) (x y : Int) (hx : as[i * Ca + k]? = some x) (hy : bs[k * Cb + j]? = some y) :
    (tab n (mulF as bs Ca Cb k i j)).set (i * Cb + j) (ad (dot as bs Ca Cb i j k) (ml x y)) = tab n (mulF as bs Ca Cb k i (j + 1)) := by
  rw [tab_set]
  refine tab_congr (fun q _ => ?_)
  obtain ⟨e1, e2⟩ := at_row (i := i) hj
  by_cases hq : q = i * Cb + j
  · rw [if_pos hq, hq]; unfold mulF; rw [e1, e2, if_pos (.inr ⟨rfl, by omega⟩), dot, hx, hy]; rfl
  · rw [if_neg hq]
    have hd := Nat.div_add_mod q Cb
    have hne : ¬ (q / Cb = i ∧ q % Cb = j) := fun e => hq (by rw [← hd, e.1, e.2, Nat.mul_comm])
    unfold mulF
    generalize q / Cb = d at *
    generalize q % Cb = e at *
    by_cases h : d < i ∨ (d = i ∧ e < j)
    · rw [if_pos h, if_pos (h.imp id (fun e => ⟨e.1, by omega⟩))]
    · rw [if_neg h, if_neg (fun k => h (k.imp id (fun k => ⟨k.1, by rcases Nat.lt_or_ge e j with l | l; exact l; exact absurd ⟨k.1, by omega⟩ hne⟩)))]
theorem mulF_row (as bs : List Int) (Ca Cb k i n : Nat) (hC : 0 < Cb) : tab n (mulF as bs Ca Cb k i Cb) = tab n (mulF as bs Ca Cb k (i + 1) 0) := by
  refine tab_congr (fun q _ => ?_)
  have hd := Nat.mod_lt q hC
  unfold mulF
  generalize q / Cb = d at *
  generalize q % Cb = e at *
  by_cases h : d < i + 1
  · rw [if_pos (by omega), if_pos (.inl h)]
  · rw [if_neg (by omega), if_neg (by omega)]
theorem mulF_row0 (as bs : List Int) (Ca Cb k i R : Nat) : tab (R * Cb) (mulF as bs Ca Cb k i Cb) = tab (R * Cb) (mulF as bs Ca Cb k (i + 1) 0) := by
  rcases Nat.eq_zero_or_pos Cb with h | h
  · subst h; simp [tab]
  · exact mulF_row as bs Ca Cb k i _ h
theorem mulF_next (as bs : List Int) (Ca Cb k R : Nat) : tab (R * Cb) (mulF as bs Ca Cb k R 0) = tab (R * Cb) (mulF as bs Ca Cb (k + 1) 0 0) := by
  refine tab_congr (fun q hq => ?_)
  have hd : q / Cb < R := Nat.div_lt_of_lt_mul (by rw [Nat.mul_comm]; exact hq)
  unfold mulF
  rw [if_pos (.inl hd), if_neg (fun e => e.elim (Nat.not_lt_zero _) (fun e => Nat.not_lt_zero _ e.2))]
theorem mulF_zero (as bs : List Int) (Ca Cb n : Nat) : tab n (fun _ => 0) = tab n (mulF as bs Ca Cb 0 0 0) := by
  refine tab_congr (fun q _ => ?_)
  unfold mulF; rw [if_neg (fun e => e.elim (Nat.not_lt_zero _) (fun e => Nat.not_lt_zero _ e.2)), dot]
theorem mulF_end (as bs : List Int) (Ca Cb n : Nat) : tab n (mulF as bs Ca Cb Ca 0 0) = tab n (fun q => dot as bs Ca Cb (q / Cb) (q % Cb) Ca) := by
  refine tab_congr (fun q _ => ?_)
  unfold mulF; rw [if_neg (fun e => e.elim (Nat.not_lt_zero _) (fun e => Nat.not_lt_zero _ e.2))]
end Go.Proofs.Ytkncgelkbpeagac
