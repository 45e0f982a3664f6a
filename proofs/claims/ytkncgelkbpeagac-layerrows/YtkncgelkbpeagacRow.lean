/- A block of ints of the call's own: read, written, kept. No program in sight. -/
import Derived.Test.YtkncgelkbpeagacMem
import Derived.Lib.SmallJoins
namespace Go.Proofs.Ytkncgelkbpeagac
open Go.RowKit
/-- Block g holds just these ints (e: the element type's number). -/
def RowAt (e : TypeId) (w : World) (g : Nat) (zs : List Int) : Prop := w.heap[g]? = some (.cells (zs.map (Value.int .i64)).toArray e (0, 0))
theorem RowAt.lt {e : TypeId} {w : World} {g : Nat} {zs : List Int} (h : RowAt e w g zs) : g < w.heap.size := by
  unfold RowAt at h
  rcases Nat.lt_or_ge g w.heap.size with h' | h'
  · exact h'
  · rw [Array.getElem?_eq_none h'] at h; cases h
theorem RowAt.cell {e : TypeId} {w : World} {g : Nat} {zs : List Int} (h : RowAt e w g zs) {i : Nat} {x : Int} (hx : zs[i]? = some x) : w.cell? ⟨g, i, none⟩ = some (.int .i64 x) := by
  rw [Joins.cell_of_block h]; simp [hx]
theorem RowAt.frozen {e : TypeId} {w : World} {g : Nat} {zs : List Int} (h : RowAt e w g zs) (i : Nat) : w.frozen? ⟨g, i, none⟩ = false := Joins.unfrozen_of_block h i
theorem RowAt.set {e : TypeId} {w : World} {g : Nat} {zs : List Int} (h : RowAt e w g zs) (p : Nat) (x : Int) : RowAt e (w.setCell ⟨g, p, none⟩ (.int .i64 x)) g (zs.set p x) := by
  unfold RowAt
  rw [Joins.block_setCell h]
  congr 2
  rw [← Array.toList_inj]
  simp [List.map_set]
theorem RowAt.drewN {e : TypeId} {w : World} {g : Nat} {zs : List Int} (h : RowAt e w g zs) (n : Nat) : RowAt e (w.drewN n) g zs := h
theorem RowAt.alloc {e : TypeId} {w : World} {g : Nat} {zs : List Int} (h : RowAt e w g zs) (o : Obj) : RowAt e (w.alloc o) g zs := by
  unfold RowAt; rw [Below.heap_alloc w o g h.lt]; exact h
theorem RowAt.below {e : TypeId} {w w' : World} {B g : Nat} {zs : List Int} (h : RowAt e w g zs) (hb : Below B w w') (hg : g < B) : RowAt e w' g zs := by
  unfold RowAt; rw [hb.block g hg]; exact h
theorem RowAt.other {e : TypeId} {w : World} {g : Nat} {zs : List Int} (h : RowAt e w g zs) (a : Addr) (u : Value) (hne : g ≠ a.block) : RowAt e (w.setCell a u) g zs := by
  unfold RowAt; rw [Below.heap_setCell w a u g hne]; exact h
theorem grown_frozen {w w' : World} {row : Option Nat} (h : w.grownBy w' row) {a : Addr} {b : Bool} (hf : w.frozen? a = b) (hlt : a.block < w.heap.size) (hne : some a.block ≠ row) : w'.frozen? a = b :=
  (World.frozen?_of_block (h.block a.block hlt hne)).trans hf
theorem cell_other {w : World} {p : Addr} {x : Value} (h : w.cell? p = some x) {g : Nat} (hne : p.block ≠ g) (q : Nat) (u : Value) : (w.setCell ⟨g, q, none⟩ u).cell? p = some x :=
  (World.cell?_of_block (Below.heap_setCell w ⟨g, q, none⟩ u p.block hne)).trans h
theorem grown_set {w w' : World} {g : Nat} (h : w.grownBy w' (some g)) (q : Nat) (u : Value) : w.grownBy (w'.setCell ⟨g, q, none⟩ u) (some g) :=
  ⟨h.os, h.tape, h.output, by simp [World.setCell]; exact h.size, fun k hk hne => (Below.heap_setCell w' ⟨g, q, none⟩ u k (fun e => hne (by rw [e]))).trans (h.block k hk hne)⟩
theorem grown_drew {w w' : World} {row : Option Nat} (h : w.grownBy w' row) : w.grownBy w'.drew row := ⟨h.os, h.tape, h.output, h.size, h.block⟩
/-- What a slice over such a block reads as. -/
theorem RowAt.isInts {e : TypeId} {w : World} {g : Nat} {zs : List Int} (h : RowAt e w g zs) (hm : zs.length ≤ maxLen) : IsInts w (.slice (some ⟨g, 0, none⟩) zs.length zs.length) zs :=
  ⟨_, _, rfl, Nat.le_refl _, hm, .inr ⟨g, 0, rfl, fun i x hx => by rw [Nat.zero_add]; exact h.cell hx⟩⟩
/-- A list by its numbers. -/
def tab (n : Nat) (f : Nat → Int) : List Int := (List.range n).map f
theorem tab_len (n : Nat) (f : Nat → Int) : (tab n f).length = n := by simp [tab]
theorem tab_at {n : Nat} {f : Nat → Int} {i : Nat} (h : i < n) : (tab n f)[i]? = some (f i) := by simp [tab, h]
theorem tab_set (n : Nat) (f : Nat → Int) (p : Nat) (x : Int) : (tab n f).set p x = tab n (fun q => if q = p then x else f q) := by
  apply List.ext_getElem?
  intro i
  by_cases hi : i < n
  · rw [List.getElem?_set, tab_at hi, tab_at hi, tab_len]
    by_cases hp : p = i
    · rw [if_pos hp, if_pos (by omega), if_pos hp.symm]
    · rw [if_neg hp, if_neg (fun e => hp e.symm)]
  · rw [List.getElem?_eq_none (by simp [tab_len]; omega), List.getElem?_eq_none (by simp [tab_len]; omega)]
theorem RowAt.isTab {e : TypeId} {w : World} {g n : Nat} {f : Nat → Int} (h : RowAt e w g (tab n f)) (hm : n ≤ maxLen) : IsInts w (.slice (some ⟨g, 0, none⟩) n n) (tab n f) := by
  have := h.isInts (by rw [tab_len]; exact hm)
  rw [tab_len] at this; exact this
theorem tab_congr {n : Nat} {f h : Nat → Int} (e : ∀ i, i < n → f i = h i) : tab n f = tab n h := by
  unfold tab; exact List.map_congr_left (fun i hi => e i (List.mem_range.1 hi))
theorem tab_zero (n : Nat) : tab n (fun _ => 0) = List.replicate n 0 := by
  unfold tab; apply List.ext_getElem?; intro i; by_cases hi : i < n <;> simp [hi]
/-- The cells of a matrix value lie in no block ahead of B. -/
def Fresh (B : Nat) (v : Value) : Prop := ∀ r c x n k, v = .agg #[r, c, .slice (some x) n k] → n = 0 ∨ B ≤ x.block
theorem fresh_no (B : Nat) (r c : Value) : Fresh B (.agg #[r, c, .slice none 0 0]) := by intro r' c' x n k e; simp at e
theorem fresh_at {B g n k : Nat} (h : B ≤ g) (r c : Value) (off : Nat) : Fresh B (.agg #[r, c, .slice (some ⟨g, off, none⟩) n k]) := by
  intro r' c' x n' k' e
  simp at e
  right; rw [← e.2.2.1]; exact h
end Go.Proofs.Ytkncgelkbpeagac
