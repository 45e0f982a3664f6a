/- What fill of package mat comes to: a matrix in new memory of what a function value gives, cell by cell. Condition: the function gives f i j at each cell, and turns nothing old. -/
import Derived.Test.YtaajlggpjholeahDoorMCheckAll
import Derived.Test.YtaajlggpjholeahDoorRBlank
import Derived.Test.YtaajlggpjholeahDoorPlain
import Derived.Laws.AppendOwn
import Derived.Shelf.Abstract
namespace Go.Proofs.YtaajlggpjholeahDoor
open Go.RowKit
/-- What is asked of the function value: number K, captured cap. -/
def Gives (K : Nat) (cap : Array Value) (R C : Nat) (f : Nat → Nat → Int) (w : World) : Prop :=
  ∀ (W : World) (i j : Nat) (xi xj : Int), xi = (i : Int) → xj = (j : Int) → i < R → j < C → Below w.heap.size w W → Calls Tryd.prog K (#[.int .i64 xi, .int .i64 xj] ++ cap) W fun e w' => e = .returned (.int .i64 (f i j)) ∧ Below W.heap.size W w'
theorem run_mk0 (L : Int) (n : Nat) (hL : L = (n : Int)) (hn : n ≤ 82944) (W : World) : (Instr.makeSlice 22 (.int .i64 0) (.int .i64 L)).run Tryd.prog W = .ok (.slice (some ⟨W.heap.size, 0, none⟩) 0 n) (W.alloc (.cells (zeros n) 3)) := by
  obtain ⟨i0, hi, hz0, hz1, hz2⟩ := info_parts infoInt
  subst hL
  have hr := run_make (P := Tryd.prog) W 22 3 i0 (.int .i64 0) Tryd.underlying22 hi hz0 .i64 .i64 (0 : Int) (n : Int) (by omega) (by omega) (by rw [hz2]; omega) (by omega)
  simpa [zeros, hz1, Value.cells] using hr
theorem tab_succ (n : Nat) (f : Nat → Int) : tab (n + 1) f = tab n f ++ [f n] := by simp [tab, List.range_succ]
theorem zeros_size (n : Nat) : (zeros n).size = n * 1 := by
  unfold zeros; rw [← Array.length_toList, toList_madeCells_one]; simp
/-- The row that is being filled. -/
def Own (w : World) (base : Nat) (v : Value) (n : Nat) (f : Nat → Int) : Prop := w.ownsRow base 3 1 v n ((tab n f).map (Value.int .i64))
/-- A slice value that reads as these ints, in a block that was not there ahead of base. -/
def NewInts (base : Nat) (w : World) (v : Value) (zs : List Int) : Prop :=
  ∃ (a : Option Addr) (cap : Nat), v = .slice a zs.length cap ∧ zs.length ≤ cap ∧ cap ≤ maxLen ∧ (zs = [] ∨ ∃ b off, a = some ⟨b, off, none⟩ ∧ base ≤ b ∧ ∀ i x, zs[i]? = some x → w.cell? ⟨b, off + i, none⟩ = some (.int .i64 x))
theorem NewInts.isInts {base : Nat} {w : World} {v : Value} {zs : List Int} (h : NewInts base w v zs) : IsInts w v zs := by
  obtain ⟨a, cap, h1, h2, h3, h4⟩ := h
  exact ⟨a, cap, h1, h2, h3, h4.imp id (fun ⟨b, off, e, _, hc⟩ => ⟨b, off, e, hc⟩)⟩
theorem NewInts.set {base : Nat} {w : World} {v : Value} {zs : List Int} (h : NewInts base w v zs) {B : Nat} (hB : B < base) (q : Nat) (u : Value) : NewInts base (w.setCell ⟨B, q, none⟩ u) v zs := by
  obtain ⟨a, cap, h1, h2, h3, h4⟩ := h
  refine ⟨a, cap, h1, h2, h3, h4.imp id (fun ⟨b, off, e, hb, hc⟩ => ⟨b, off, e, hb, fun i x hx => cell_other (hc i x hx) (by show b ≠ B; omega) q u⟩)⟩
theorem NewInts.shape {base : Nat} {w : World} {v : Value} {zs : List Int} (h : NewInts base w v zs) : ∃ a n cap, v = .slice a n cap := by
  obtain ⟨a, cap, h1, _⟩ := h; exact ⟨a, _, cap, h1⟩
theorem Own.newInts {w : World} {base : Nat} {v : Value} {n : Nat} {f : Nat → Int} (h : Own w base v n f) (hm : n ≤ maxLen) : NewInts base w v (tab n f) := by
  have hc := fun g e => World.ownsRow.cells h (g := g) e
  obtain ⟨h1, h2⟩ := h
  rcases h2 with ⟨rfl, rfl⟩ | ⟨g, cap, cur, rfl, hg, _, h3, h4, _, _⟩
  · exact ⟨none, 0, rfl, Nat.le_refl _, Nat.zero_le _, .inl rfl⟩
  · refine ⟨some ⟨g, 0, none⟩, cap, by rw [tab_len], by rw [tab_len]; exact h3, h4, .inr ⟨g, 0, rfl, hg, fun i x hx => ?_⟩⟩
    have := hc g rfl i (.int .i64 x) (by simp [hx])
    rw [Addr.add_lit] at this; exact this
theorem Own.isInts {w : World} {base : Nat} {v : Value} {n : Nat} {f : Nat → Int} (h : Own w base v n f) (hm : n ≤ maxLen) : IsInts w v (tab n f) := by
  have hc := fun g e => World.ownsRow.cells h (g := g) e
  obtain ⟨h1, h2⟩ := h
  rcases h2 with ⟨rfl, rfl⟩ | ⟨g, cap, cur, rfl, _, _, h3, h4, _, _⟩
  · exact IsInts.nil w
  · refine ⟨some ⟨g, 0, none⟩, cap, by rw [tab_len], by rw [tab_len]; exact h3, h4, .inr ⟨g, 0, rfl, fun i x hx => ?_⟩⟩
    have := hc g rfl i (.int .i64 x) (by simp [hx])
    rw [Addr.add_lit] at this; exact this
theorem Own.alloc {w : World} {base : Nat} {v : Value} {n : Nat} {f : Nat → Int} (h : Own w base v n f) (o : Obj) : Own (w.alloc o) base v n f := World.ownsRow.alloc h o
theorem Own.below {w w' : World} {base : Nat} {v : Value} {n : Nat} {f : Nat → Int} (h : Own w base v n f) (hb : Below w.heap.size w w') : Own w' base v n f := by
  refine World.ownsRow.kept (row := none) h ⟨hb.os, hb.tape, hb.output, hb.size, fun k hk _ => hb.block k hk⟩ ?_
  cases e : v.ownBlock with
  | none => exact .inl rfl
  | some k => exact .inr (by simp)
end Go.Proofs.YtaajlggpjholeahDoor
