/- What Mul, Turn and Rows of package mat come to. -/
import Derived.Test.YtjmmplpecmnlnaeMAt
namespace Go.Proofs.Ytjmmplpecmnlnae
open Go.RowKit
/-- A matrix that Check takes, by its plain numbers. -/
structure Good (m : Mx) (R C : Nat) : Prop where
  r : m.rows = (R : Int)
  c : m.cols = (C : Int)
  hR : R ≤ 24
  hC : C ≤ 12
  l : m.cells.length = R * C
  e : m.cells.all inEnds = true
theorem good_of {m : Mx} (h : fault m = 0) : ∃ R C, Good m R C := by
  unfold fault at h
  by_cases h1 : okSides m = false
  · rw [if_pos h1] at h; cases h
  · rw [if_neg h1] at h
    by_cases h2 : (m.cells.length : Int) ≠ m.rows * m.cols
    · rw [if_pos h2] at h; cases h
    · rw [if_neg h2] at h
      by_cases h3 : m.cells.all inEnds = false
      · rw [if_pos h3] at h; cases h
      · simp [okSides] at h1
        have hr : m.rows = (m.rows.toNat : Int) := by omega
        have hc : m.cols = (m.cols.toNat : Int) := by omega
        refine ⟨m.rows.toNat, m.cols.toNat, hr, hc, by omega, by omega, ?_, by simpa using h3⟩
        have : (m.cells.length : Int) = m.rows * m.cols := by simpa using h2
        rw [hr, hc] at this
        have e : ((m.rows.toNat : Int) * (m.cols.toNat : Int)) = ((m.rows.toNat * m.cols.toNat : Nat) : Int) := by simp
        rw [e] at this
        omega
theorem Good.fault {m : Mx} {R C : Nat} (h : Good m R C) : fault m = 0 := by
  obtain ⟨r, c, hR, hC, l, e⟩ := h
  rw [← fault_none (m := m) (by simp [okSides]; omega) (by rw [l, r, c]; simp) e]
theorem mxs_two {w : World} {a b : Mx} {sa sb : Value} (ha : IsInts w sa a.cells) (hb : IsInts w sb b.cells) (t : TypeId) :
    IsMxs (w.alloc (.cells #[.int .i64 a.rows, .int .i64 a.cols, sa, .int .i64 b.rows, .int .i64 b.cols, sb] t)) (.slice (some ⟨w.heap.size, 0, none⟩) 2 2) [a, b] := by
  refine ⟨_, 2, rfl, Nat.le_refl _, by unfold maxLen; omega, .inr ⟨w.heap.size, 0, rfl, fun i m hm => ?_⟩⟩
  match i, hm with
  | 0, hm => simp at hm; subst hm; exact ⟨sa, by simp, by simp, by simp, ha.below (below_one _ _)⟩
  | 1, hm => simp at hm; subst hm; exact ⟨sb, by simp, by simp, by simp, hb.below (below_one _ _)⟩
theorem mxs_one {w : World} {a : Mx} {sa : Value} (ha : IsInts w sa a.cells) (t : TypeId) :
    IsMxs (w.alloc (.cells #[.int .i64 a.rows, .int .i64 a.cols, sa] t)) (.slice (some ⟨w.heap.size, 0, none⟩) 1 1) [a] := by
  refine ⟨_, 1, rfl, Nat.le_refl _, by unfold maxLen; omega, .inr ⟨w.heap.size, 0, rfl, fun i m hm => ?_⟩⟩
  match i, hm with
  | 0, hm => simp at hm; subst hm; exact ⟨sa, by simp, by simp, by simp, ha.below (below_one _ _)⟩
def noMx : Mx := ⟨0, 0, []⟩
theorem isMx_no (w : World) : IsMx w (.agg #[.int .i64 0, .int .i64 0, .slice none 0 0]) noMx := ⟨_, rfl, IsInts.nil w⟩
theorem box_of {w : World} {m : Mx} {s : Value} (h : IsInts w s m.cells) (t : TypeId) : BoxMx (w.alloc (.cells #[.int .i64 m.rows, .int .i64 m.cols, s] t)) w.heap.size m :=
  ⟨s, by simp, by simp, by simp, h.below (below_one _ _)⟩
theorem box_new (V : World) (cs : Array Value) (t : TypeId) {B j : Nat} {x : Value} (hB : V.heap.size = B) (h : cs[j]? = some x) : (V.alloc (.cells cs t)).cell? ⟨B, j, none⟩ = some x := by
  subst hB; exact (World.cell?_alloc_at _ _ _ _ rfl).trans h
theorem box_free (V : World) (cs : Array Value) (t : TypeId) {B : Nat} (hB : V.heap.size = B) (j : Nat) : (V.alloc (.cells cs t)).frozen? ⟨B, j, none⟩ = false := by
  subst hB; simp
/-- The box of a result, in a world where nothing old has turned since. -/
structure ResBox (w : World) (B : Nat) : Prop where
  c0 : w.cell? ⟨B, 0, none⟩ = some (.int .i64 0)
  c1 : w.cell? ⟨B, 1, none⟩ = some (.int .i64 0)
  c2 : w.cell? ⟨B, 2, none⟩ = some (.slice none 0 0)
  f : ∀ j, w.frozen? ⟨B, j, none⟩ = false
theorem ResBox.new (V : World) (t : TypeId) {B : Nat} (hB : V.heap.size = B) : ResBox (V.alloc (.cells #[.int .i64 0, .int .i64 0, .slice none 0 0] t)) B :=
  ⟨box_new V _ t hB rfl, box_new V _ t hB rfl, box_new V _ t hB rfl, box_free V _ t hB⟩
theorem ResBox.below {w w' : World} {B : Nat} (h : ResBox w B) (hb : Below w.heap.size w w') : ResBox w' B := by
  have hlt := World.block_lt_of_cell? w _ h.c0
  exact ⟨cell_below hb h.c0, cell_below hb h.c1, cell_below hb h.c2, fun j => (hb.frozen (p := ⟨B, j, none⟩) hlt).trans (h.f j)⟩
theorem eqF {x y : Int} (h : x = y) : (x != y) = false := by simp [h]
theorem eqT {x y : Int} (h : ¬ x = y) : (x != y) = true := by simp [h]
/-- What Mul says. -/
def mulE (a b : Mx) : Int := if faults [a, b] ≠ 0 then faults [a, b] else if a.cols ≠ b.rows then 2 else 0
/-- What Mul gives. -/
def mulX (a b : Mx) : Mx := if mulE a b = 0 then ⟨a.rows, b.cols, tab (a.rows.toNat * b.cols.toNat) (fun q => dot a.cells b.cells a.cols.toNat b.cols.toNat (q / b.cols.toNat) (q % b.cols.toNat) a.cols.toNat)⟩ else noMx
theorem mulX_no {a b : Mx} (h : mulE a b ≠ 0) : mulX a b = noMx := by unfold mulX; rw [if_neg h]
theorem mulX_yes {a b : Mx} {Ra Ca Cb : Nat} (h : mulE a b = 0) (e1 : a.rows = (Ra : Int)) (e2 : a.cols = (Ca : Int)) (e3 : b.cols = (Cb : Int)) : mulX a b = ⟨Ra, Cb, tab (Ra * Cb) (fun q => dot a.cells b.cells Ca Cb (q / Cb) (q % Cb) Ca)⟩ := by
  unfold mulX; rw [if_pos h, e1, e2, e3]; simp
theorem faults_two {a b : Mx} (h : faults [a, b] = 0) : fault a = 0 ∧ fault b = 0 := by
  unfold faults at h
  by_cases h1 : fault a = 0
  · rw [if_pos h1] at h
    unfold faults at h
    by_cases h2 : fault b = 0
    · exact ⟨h1, h2⟩
    · rw [if_neg h2] at h; exact absurd h h2
  · rw [if_neg h1] at h; exact absurd h h1
theorem faults_one (a : Mx) : faults [a] = fault a := by
  unfold faults; split
  · rename_i h; rw [h]; rfl
  · rfl
theorem NewInts.fresh {base B : Nat} {w : World} {s : Value} {zs : List Int} (h : NewInts base w s zs) (hB : B ≤ base) (r c : Value) : Fresh B (.agg #[r, c, s]) := by
  obtain ⟨a, cap, rfl, _, _, h4⟩ := h
  intro r' c' x n k e
  simp at e
  rcases h4 with h0 | ⟨b, off, ha, hb, _⟩
  · left; rw [← e.2.2.2.1, h0]; rfl
  · right
    have e3 := e.2.2.1
    rw [ha] at e3
    have := Option.some.inj e3
    rw [← this]
    exact Nat.le_trans hB hb
/-- What a call that gives a matrix and an error comes to; the matrix lies in new memory. -/
def MxErr (w : World) (m : Mx) (k : Int) (e : Ending) (w' : World) : Prop := ∃ v', e = .returned (.tuple #[v', errV k]) ∧ IsMx w' v' m ∧ Below w.heap.size w w' ∧ Fresh w.heap.size v'
end Go.Proofs.Ytjmmplpecmnlnae
