/- Layers as plain data and in memory: what is wrong with one, how wide it is, what comes of a matrix by it, what goes back. No program in sight. -/
import Derived.Test.YtjmmplpecmnlnaeMOps2
import Derived.Test.YtjmmplpecmnlnaeMLaw
namespace Go.Proofs.Ytjmmplpecmnlnae
open Go.RowKit
/-- A layer as plain data. -/
structure Ly where
  k : Int
  w : Mx
  b : Mx
/-- A layer value. -/
def IsLy (w : World) (v : Value) (l : Ly) : Prop := ∃ s t, v = .agg #[.int .i64 l.k, .int .i64 l.w.rows, .int .i64 l.w.cols, s, .int .i64 l.b.rows, .int .i64 l.b.cols, t] ∧ IsInts w s l.w.cells ∧ IsInts w t l.b.cells
theorem IsLy.below {w w' : World} {v : Value} {l : Ly} (h : IsLy w v l) (hb : Below w.heap.size w w') : IsLy w' v l := by
  obtain ⟨s, t, h1, h2, h3⟩ := h; exact ⟨s, t, h1, h2.below hb, h3.below hb⟩
/-- Two matrices side by side: a kind of package layer, a Grad. -/
def IsTwo (w : World) (v : Value) (a b : Mx) : Prop := ∃ s t, v = .agg #[.int .i64 a.rows, .int .i64 a.cols, s, .int .i64 b.rows, .int .i64 b.cols, t] ∧ IsInts w s a.cells ∧ IsInts w t b.cells
theorem IsTwo.below {w w' : World} {v : Value} {a b : Mx} (h : IsTwo w v a b) (hb : Below w.heap.size w w') : IsTwo w' v a b := by
  obtain ⟨s, t, h1, h2, h3⟩ := h; exact ⟨s, t, h1, h2.below hb, h3.below hb⟩
/-- W and B are as the kind asks. -/
def fitsL (l : Ly) : Bool :=
  if l.k = 1 then decide (1 ≤ l.w.rows ∧ l.w.rows ≤ 12 ∧ 1 ≤ l.w.cols ∧ l.b.rows = 1 ∧ l.b.cols = l.w.cols)
  else if l.k = 2 then decide (l.w.rows = 0 ∧ l.w.cols = 0 ∧ l.b.rows = 0 ∧ l.b.cols = 0)
  else if l.k = 3 then decide (l.w.rows = 1 ∧ l.w.cols = 1 ∧ l.b.rows = 0 ∧ l.b.cols = 0)
  else decide (l.w.rows = 0 ∧ l.w.cols = 0 ∧ l.b.rows = 1 ∧ 1 ≤ l.b.cols)
/-- What is wrong with a layer. -/
def lfault (l : Ly) : Int := if l.k < 1 ∨ 4 < l.k then 1 else if fault l.w ≠ 0 then fault l.w else if fault l.b ≠ 0 then fault l.b else if fitsL l = false then 2 else 0
/-- So many columns fit. -/
def takesL (l : Ly) (n : Int) : Bool := if l.k = 1 then decide (n = l.w.rows) else if l.k = 4 then decide (n = l.b.cols) else true
/-- So many columns come. -/
def givesL (l : Ly) (n : Int) : Int := if l.k = 1 then l.w.cols else n
def wideE (l : Ly) (n : Int) : Int := if lfault l ≠ 0 then lfault l else if n < 0 ∨ 12 < n then 1 else if takesL l n = false then 2 else 0
def wideX (l : Ly) (n : Int) : Int := if wideE l n = 0 then givesL l n else 0
def goE (l : Ly) (x : Mx) : Int := if lfault l ≠ 0 then lfault l else if fault x ≠ 0 then fault x else if takesL l x.cols = false then 2 else 0
/-- A matrix of which each cell is asked anew. -/
def eachX (a : Mx) (f : Nat → Int) : Mx := ⟨a.rows, a.cols, tab a.cells.length f⟩
def cellAt (m : Mx) (q : Nat) : Int := (m.cells[q]?).getD 0
theorem cellAt_some {m : Mx} {i : Nat} {x : Int} (h : m.cells[i]? = some x) : cellAt m i = x := by unfold cellAt; rw [h]; rfl
/-- To each row of a the row b is added. -/
def addRows (a b : Mx) : Mx := eachX a (fun q => ad (cellAt a q) (cellAt b (q % b.cols.toNat)))
def reluX (a : Mx) : Mx := eachX a (fun q => max (cellAt a q) 0)
def reluB (x g : Mx) : Mx := eachX g (fun q => if 0 < cellAt x q then cellAt g q else 0)
def goG (l : Ly) (x : Mx) : Mx := if l.k = 1 then addRows (mulX x l.w) l.b else if l.k = 2 then reluX x else if l.k = 3 then timesX x (cellAt l.w 0) else addRows x l.b
def goX (l : Ly) (x : Mx) : Mx := if goE l x = 0 then goG l x else noMx
def backE (l : Ly) (x g : Mx) : Int := if goE l x ≠ 0 then goE l x else if fault g ≠ 0 then fault g else if g.rows ≠ x.rows ∨ g.cols ≠ givesL l x.cols then 2 else if l.k = 1 ∧ 12 < x.rows then 1 else 0
/-- What is summed up over so many cells. -/
def sumP (x g : Mx) : Nat → Int
  | 0 => 0
  | n + 1 => ad (sumP x g n) (ml (cellAt x n) (cellAt g n))
def backG (l : Ly) (x g : Mx) : Mx := if l.k = 1 then mulX g (turnX l.w) else if l.k = 2 then reluB x g else if l.k = 3 then timesX g (cellAt l.w 0) else eachX g (cellAt g)
def backX (l : Ly) (x g : Mx) : Mx := if backE l x g = 0 then backG l x g else noMx
def gradW (l : Ly) (x g : Mx) : Mx := if backE l x g = 0 then (if l.k = 1 then mulX (turnX x) g else if l.k = 3 then ⟨1, 1, [sumP x g x.cells.length]⟩ else noMx) else noMx
def gradB (l : Ly) (x g : Mx) : Mx := if backE l x g = 0 then (if l.k = 1 ∨ l.k = 4 then sumsX g else noMx) else noMx
/-- The cells of two matrices side by side lie in no block ahead of B. -/
def Fresh2 (B : Nat) (v : Value) : Prop := ∀ r c x n k r' c' x' n' k', v = .agg #[r, c, .slice x n k, r', c', .slice x' n' k'] → Fresh B (.agg #[r, c, .slice x n k]) ∧ Fresh B (.agg #[r', c', .slice x' n' k'])
/-- What Back comes to. -/
def BackErr (w : World) (m a b : Mx) (k : Int) (e : Ending) (w' : World) : Prop := ∃ v' d, e = .returned (.tuple #[v', d, errV k]) ∧ IsMx w' v' m ∧ IsTwo w' d a b ∧ Below w.heap.size w w' ∧ Fresh w.heap.size v' ∧ Fresh2 w.heap.size d
/-- A layer that Check takes, by its kind. -/
theorem lgood_of {l : Ly} (h : lfault l = 0) : 1 ≤ l.k ∧ l.k ≤ 4 ∧ fault l.w = 0 ∧ fault l.b = 0 ∧ fitsL l = true := by
  unfold lfault at h
  by_cases h1 : l.k < 1 ∨ 4 < l.k
  · rw [if_pos h1] at h; cases h
  · rw [if_neg h1] at h
    by_cases h2 : fault l.w ≠ 0
    · rw [if_pos h2] at h; exact absurd h h2
    · rw [if_neg h2] at h
      by_cases h3 : fault l.b ≠ 0
      · rw [if_pos h3] at h; exact absurd h h3
      · rw [if_neg h3] at h
        by_cases h4 : fitsL l = false
        · rw [if_pos h4] at h; cases h
        · exact ⟨by omega, by omega, Decidable.not_not.1 h2, Decidable.not_not.1 h3, by simpa using h4⟩
end Go.Proofs.Ytjmmplpecmnlnae
