/- Boxes of any size: what a variable holds, cell by cell; a box that is written again. No program in sight. -/
import Derived.Test.YtjmmplpecmnlnaeLy
namespace Go.Proofs.Ytjmmplpecmnlnae
open Go.RowKit
/-- Box B holds these cells. -/
def Box (w : World) (B : Nat) (cs : List Value) : Prop := ∀ (j : Nat) x, cs[j]? = some x → w.cell? ⟨B, j, none⟩ = some x
theorem Box.below {w w' : World} {B : Nat} {cs : List Value} (h : Box w B cs) (hb : Below w.heap.size w w') : Box w' B cs := fun j x hx => cell_below hb (h j x hx)
theorem Box.new (V : World) (cs : List Value) (t : TypeId) {B : Nat} (hB : V.heap.size = B) : Box (V.alloc (.cells cs.toArray t)) B cs := fun j x hx => box_new V _ t hB (by simpa using hx)
theorem Box.lt {w : World} {B : Nat} {x : Value} {cs : List Value} (h : Box w B (x :: cs)) : B < w.heap.size := World.block_lt_of_cell? w _ (h 0 x rfl)
theorem Box.other {w : World} {B B' q : Nat} {cs : List Value} (h : Box w B cs) (hne : B ≠ B') (u : Value) : Box (w.setCell ⟨B', q, none⟩ u) B cs := fun j x hx => cell_other (h j x hx) hne q u
/-- Box B may be written. -/
def Free (w : World) (B : Nat) : Prop := ∀ j, w.frozen? ⟨B, j, none⟩ = false
theorem Free.new (V : World) (cs : Array Value) (t : TypeId) {B : Nat} (hB : V.heap.size = B) : Free (V.alloc (.cells cs t)) B := box_free V cs t hB
theorem Free.below {w w' : World} {B : Nat} (h : Free w B) (hb : Below w.heap.size w w') (hlt : B < w.heap.size) : Free w' B := fun j => (hb.frozen (p := ⟨B, j, none⟩) hlt).trans (h j)
theorem below_sets {V u : World} (h : Below V.heap.size V u) {B : Nat} (hB : V.heap.size ≤ B) (q : Nat) (x : Value) : Below V.heap.size V (u.setCell ⟨B, q, none⟩ x) := h.setCell hB _
/-- Ints in new memory are there behind a write into an older block. -/
theorem IsInts.freshSet {w : World} {B : Nat} {s : Value} {zs : List Int} (h : IsInts w s zs) {r c : Value} (hf : Fresh B (.agg #[r, c, s])) {b : Nat} (hb : b < B) (q : Nat) (u : Value) : IsInts (w.setCell ⟨b, q, none⟩ u) s zs := by
  obtain ⟨a, cap, rfl, h2, h3, h4⟩ := h
  refine ⟨a, cap, rfl, h2, h3, ?_⟩
  rcases h4 with h0 | ⟨b', off, rfl, hc⟩
  · exact .inl h0
  · rcases hf _ _ _ _ _ rfl with hz | hz
    · exact .inl (List.eq_nil_of_length_eq_zero hz)
    · exact .inr ⟨b', off, rfl, fun i x hx => cell_other (hc i x hx) (by show b' ≠ b; simp only [] at hz; omega) q u⟩
theorem fresh_mono {B B' : Nat} {v : Value} (h : Fresh B v) (hb : B' ≤ B) : Fresh B' v := fun r c x n k e => (h r c x n k e).imp id (fun h => Nat.le_trans hb h)
theorem ints_new (V : World) (zs : List Int) (h : zs.length ≤ 100) (t : TypeId) : IsInts (V.alloc (.cells (zs.map (Value.int .i64)).toArray t)) (.slice (some ⟨V.heap.size, 0, none⟩) zs.length zs.length) zs := by
  refine ⟨_, _, rfl, Nat.le_refl _, by unfold maxLen; omega, .inr ⟨V.heap.size, 0, rfl, fun i x hx => ?_⟩⟩
  rw [Nat.zero_add]
  exact box_new V _ t rfl (by simp [hx])
theorem ints_newB (V : World) (zs : List Int) (h : zs.length ≤ 100) (t : TypeId) {B : Nat} (hB : V.heap.size = B) : IsInts (V.alloc (.cells (zs.map (Value.int .i64)).toArray t)) (.slice (some ⟨B, 0, none⟩) zs.length zs.length) zs := by subst hB; exact ints_new V zs h t
/-- Some cells of a box at once. -/
theorem Box.c2 {w : World} {B : Nat} {x0 x1 : Value} {cs : List Value} (h : Box w B (x0 :: x1 :: cs)) : w.cell? ⟨B, 0, none⟩ = some x0 ∧ w.cell? ⟨B, 1, none⟩ = some x1 := ⟨h 0 _ rfl, h 1 _ rfl⟩
theorem Box.c3 {w : World} {B : Nat} {x0 x1 x2 : Value} {cs : List Value} (h : Box w B (x0 :: x1 :: x2 :: cs)) : w.cell? ⟨B, 0, none⟩ = some x0 ∧ w.cell? ⟨B, 1, none⟩ = some x1 ∧ w.cell? ⟨B, 2, none⟩ = some x2 := ⟨h 0 _ rfl, h 1 _ rfl, h 2 _ rfl⟩
theorem Box.c35 {w : World} {B : Nat} {x0 x1 x2 x3 x4 x5 : Value} {cs : List Value} (h : Box w B (x0 :: x1 :: x2 :: x3 :: x4 :: x5 :: cs)) : w.cell? ⟨B, 3, none⟩ = some x3 ∧ w.cell? ⟨B, 4, none⟩ = some x4 ∧ w.cell? ⟨B, 5, none⟩ = some x5 := ⟨h 3 _ rfl, h 4 _ rfl, h 5 _ rfl⟩
theorem Box.c6 {w : World} {B : Nat} {x0 x1 x2 x3 x4 x5 : Value} {cs : List Value} (h : Box w B (x0 :: x1 :: x2 :: x3 :: x4 :: x5 :: cs)) : w.cell? ⟨B, 0, none⟩ = some x0 ∧ w.cell? ⟨B, 1, none⟩ = some x1 ∧ w.cell? ⟨B, 2, none⟩ = some x2 ∧ w.cell? ⟨B, 3, none⟩ = some x3 ∧ w.cell? ⟨B, 4, none⟩ = some x4 ∧ w.cell? ⟨B, 5, none⟩ = some x5 := ⟨h 0 _ rfl, h 1 _ rfl, h 2 _ rfl, h 3 _ rfl, h 4 _ rfl, h 5 _ rfl⟩
theorem Box.c7 {w : World} {B : Nat} {x0 x1 x2 x3 x4 x5 x6 : Value} {cs : List Value} (h : Box w B (x0 :: x1 :: x2 :: x3 :: x4 :: x5 :: x6 :: cs)) : w.cell? ⟨B, 0, none⟩ = some x0 ∧ w.cell? ⟨B, 1, none⟩ = some x1 ∧ w.cell? ⟨B, 2, none⟩ = some x2 ∧ w.cell? ⟨B, 3, none⟩ = some x3 ∧ w.cell? ⟨B, 4, none⟩ = some x4 ∧ w.cell? ⟨B, 5, none⟩ = some x5 ∧ w.cell? ⟨B, 6, none⟩ = some x6 := ⟨h 0 _ rfl, h 1 _ rfl, h 2 _ rfl, h 3 _ rfl, h 4 _ rfl, h 5 _ rfl, h 6 _ rfl⟩
theorem Free.f3 {w : World} {B : Nat} (h : Free w B) : w.frozen? ⟨B, 0, none⟩ = false ∧ w.frozen? ⟨B, 1, none⟩ = false ∧ w.frozen? ⟨B, 2, none⟩ = false := ⟨h 0, h 1, h 2⟩
theorem Free.f6 {w : World} {B : Nat} (h : Free w B) : w.frozen? ⟨B, 0, none⟩ = false ∧ w.frozen? ⟨B, 1, none⟩ = false ∧ w.frozen? ⟨B, 2, none⟩ = false ∧ w.frozen? ⟨B, 3, none⟩ = false ∧ w.frozen? ⟨B, 4, none⟩ = false ∧ w.frozen? ⟨B, 5, none⟩ = false := ⟨h 0, h 1, h 2, h 3, h 4, h 5⟩
end Go.Proofs.Ytjmmplpecmnlnae
