/- The three cells of a variable that holds a matrix. No program in sight. -/
import Derived.Test.YtjmmplpecmnlnaeMOps
namespace Go.Proofs.Ytjmmplpecmnlnae
open Go.RowKit
/-- The three cells of a matrix's box. -/
def Three (w : World) (B : Nat) (r c : Int) (s : Value) : Prop := w.cell? ⟨B, 0, none⟩ = some (.int .i64 r) ∧ w.cell? ⟨B, 1, none⟩ = some (.int .i64 c) ∧ w.cell? ⟨B, 2, none⟩ = some s
theorem Three.below {w w' : World} {B : Nat} {r c : Int} {s : Value} (h : Three w B r c s) (hb : Below w.heap.size w w') : Three w' B r c s := ⟨cell_below hb h.1, cell_below hb h.2.1, cell_below hb h.2.2⟩
theorem Three.lt {w : World} {B : Nat} {r c : Int} {s : Value} (h : Three w B r c s) : B < w.heap.size := World.block_lt_of_cell? w _ h.1
theorem Three.grown {w w' : World} {B g : Nat} {r c : Int} {s : Value} (h : Three w B r c s) (hg : w.grownBy w' (some g)) (hne : B ≠ g) : Three w' B r c s := ⟨hg.cell h.1 (by simpa using hne), hg.cell h.2.1 (by simpa using hne), hg.cell h.2.2 (by simpa using hne)⟩
theorem three_new (V : World) (r c : Int) (s : Value) (t : TypeId) : Three (V.alloc (.cells #[.int .i64 r, .int .i64 c, s] t)) V.heap.size r c s := ⟨box_new V _ t rfl rfl, box_new V _ t rfl rfl, box_new V _ t rfl rfl⟩
/-- The box of a variable that is written again. -/
structure Mut (w : World) (B : Nat) (r c : Int) (s : Value) : Prop where
  t : Three w B r c s
  f : ∀ j, w.frozen? ⟨B, j, none⟩ = false
theorem Mut.new (V : World) (r c : Int) (s : Value) (t : TypeId) : Mut (V.alloc (.cells #[.int .i64 r, .int .i64 c, s] t)) V.heap.size r c s := ⟨three_new V r c s t, box_free V _ t rfl⟩
theorem Mut.below {w w' : World} {B : Nat} {r c : Int} {s : Value} (h : Mut w B r c s) (hb : Below w.heap.size w w') : Mut w' B r c s :=
  ⟨h.t.below hb, fun j => (hb.frozen (p := ⟨B, j, none⟩) h.t.lt).trans (h.f j)⟩
theorem Mut.set {w : World} {B : Nat} {r c : Int} {s : Value} (h : Mut w B r c s) (r' c' : Int) (s' : Value) : Mut (((w.setCell ⟨B, 0, none⟩ (.int .i64 r')).setCell ⟨B, 1, none⟩ (.int .i64 c')).setCell ⟨B, 2, none⟩ s') B r' c' s' := by
  obtain ⟨⟨h0, h1, h2⟩, hf⟩ := h
  have o : ∀ (u : World) (i j : Nat) (x : Value), i ≠ j → (u.setCell ⟨B, i, none⟩ x).cell? ⟨B, j, none⟩ = u.cell? ⟨B, j, none⟩ := fun u i j x hij => World.cell?_setCell_other _ _ _ _ (fun e => hij (by injection e))
  refine ⟨⟨?_, ?_, ?_⟩, fun j => by simp [hf]⟩
  · rw [o _ 2 0 _ (by decide), o _ 1 0 _ (by decide)]; exact World.cell?_setCell_same _ _ _ h0
  · rw [o _ 2 1 _ (by decide)]; exact World.cell?_setCell_same _ _ _ ((o _ 0 1 _ (by decide)).trans h1)
  · exact World.cell?_setCell_same _ _ _ ((o _ 1 2 _ (by decide)).trans ((o _ 0 2 _ (by decide)).trans h2))
theorem cell_at_other (u : World) (B i j : Nat) (x : Value) (hij : i ≠ j) : (u.setCell ⟨B, i, none⟩ x).cell? ⟨B, j, none⟩ = u.cell? ⟨B, j, none⟩ := World.cell?_setCell_other _ _ _ _ (fun e => hij (by injection e))
theorem Mut.set0 {w : World} {B : Nat} {r c : Int} {s : Value} (h : Mut w B r c s) (r' : Int) : Mut (w.setCell ⟨B, 0, none⟩ (.int .i64 r')) B r' c s :=
  ⟨⟨World.cell?_setCell_same _ _ _ h.t.1, (cell_at_other _ _ _ _ _ (by decide)).trans h.t.2.1, (cell_at_other _ _ _ _ _ (by decide)).trans h.t.2.2⟩, fun j => by simp [h.f]⟩
theorem Mut.set1 {w : World} {B : Nat} {r c : Int} {s : Value} (h : Mut w B r c s) (c' : Int) : Mut (w.setCell ⟨B, 1, none⟩ (.int .i64 c')) B r c' s :=
  ⟨⟨(cell_at_other _ _ _ _ _ (by decide)).trans h.t.1, World.cell?_setCell_same _ _ _ h.t.2.1, (cell_at_other _ _ _ _ _ (by decide)).trans h.t.2.2⟩, fun j => by simp [h.f]⟩
theorem Mut.set2 {w : World} {B : Nat} {r c : Int} {s : Value} (h : Mut w B r c s) (s' : Value) : Mut (w.setCell ⟨B, 2, none⟩ s') B r c s' :=
  ⟨⟨(cell_at_other _ _ _ _ _ (by decide)).trans h.t.1, (cell_at_other _ _ _ _ _ (by decide)).trans h.t.2.1, World.cell?_setCell_same _ _ _ h.t.2.2⟩, fun j => by simp [h.f]⟩
theorem below_set3 {V u : World} {B : Nat} (h : Below V.heap.size V u) (hB : V.heap.size ≤ B) (x y z : Value) : Below V.heap.size V (((u.setCell ⟨B, 0, none⟩ x).setCell ⟨B, 1, none⟩ y).setCell ⟨B, 2, none⟩ z) :=
  ((h.setCell hB _).setCell hB _).setCell hB _
theorem three_newB (V : World) (r c : Int) (s : Value) (t : TypeId) {B : Nat} (hB : V.heap.size = B) : Three (V.alloc (.cells #[.int .i64 r, .int .i64 c, s] t)) B r c s := by subst hB; exact three_new V r c s t
theorem Mut.newB (V : World) (r c : Int) (s : Value) (t : TypeId) {B : Nat} (hB : V.heap.size = B) : Mut (V.alloc (.cells #[.int .i64 r, .int .i64 c, s] t)) B r c s := by subst hB; exact Mut.new V r c s t
end Go.Proofs.Ytjmmplpecmnlnae
