/- Lists of ints and matrices as they lie in memory: what is read there stays as it is where nothing old turns. No program in sight. -/
import Derived.Test.YtkncgelkbpeagacBase
namespace Go.Proofs.Ytkncgelkbpeagac
open Go.RowKit
/-- A slice value that reads as these ints. -/
def IsInts (w : World) (v : Value) (zs : List Int) : Prop :=
  ∃ (a : Option Addr) (cap : Nat), v = .slice a zs.length cap ∧ zs.length ≤ cap ∧ cap ≤ maxLen ∧ (zs = [] ∨ ∃ b off, a = some ⟨b, off, none⟩ ∧ ∀ i x, zs[i]? = some x → w.cell? ⟨b, off + i, none⟩ = some (.int .i64 x))
theorem IsInts.below {w w' : World} {v : Value} {zs : List Int} (h : IsInts w v zs) (hb : Below w.heap.size w w') : IsInts w' v zs := by
  obtain ⟨a, cap, h1, h2, h3, h4⟩ := h
  refine ⟨a, cap, h1, h2, h3, h4.imp id ?_⟩
  rintro ⟨b, off, ha, hc⟩
  refine ⟨b, off, ha, fun i x hx => ?_⟩
  have := hc i x hx
  rw [hb.cell (p := ⟨b, off + i, none⟩) (World.block_lt_of_cell? w _ this)]; exact this
theorem IsInts.len {w : World} {v : Value} {zs : List Int} (h : IsInts w v zs) : zs.length ≤ maxLen := by
  obtain ⟨_, _, _, h2, h3, _⟩ := h; omega
theorem IsInts.nil (w : World) : IsInts w (.slice none 0 0) [] := ⟨none, 0, rfl, Nat.le_refl _, Nat.zero_le _, .inl rfl⟩
/-- A matrix as plain data. -/
structure Mx where
  rows : Int
  cols : Int
  cells : List Int
/-- A matrix value. -/
def IsMx (w : World) (v : Value) (m : Mx) : Prop := ∃ s, v = .agg #[.int .i64 m.rows, .int .i64 m.cols, s] ∧ IsInts w s m.cells
theorem IsMx.below {w w' : World} {v : Value} {m : Mx} (h : IsMx w v m) (hb : Below w.heap.size w w') : IsMx w' v m := by
  obtain ⟨s, h1, h2⟩ := h; exact ⟨s, h1, h2.below hb⟩
/-- A cell that is there is there behind a new block, too. -/
theorem cell_past {w : World} {p : Addr} {v : Value} (h : w.cell? p = some v) (o : Obj) : (w.alloc o).cell? p = some v := by
  rw [World.cell?_alloc_lt _ _ p (World.block_lt_of_cell? w p h)]; exact h
end Go.Proofs.Ytkncgelkbpeagac
