/- A list of ints of the call's own, that grows. -/
import Derived.Test.YtaajlggpjholeahDoorMFill
import Derived.Laws.AppendOwn
namespace Go.Proofs.YtaajlggpjholeahDoor
open Go.RowKit
/-- A list of ints of the call's own, that grows. -/
def OwnZ (w : World) (base : Nat) (v : Value) (zs : List Int) : Prop := w.ownsRow base 3 1 v zs.length (zs.map (Value.int .i64))
theorem OwnZ.made (w : World) (n : Nat) (hn : n ≤ 1000) : OwnZ (w.alloc (.cells (zeros n) 3)) w.heap.size (.slice (some ⟨w.heap.size, 0, none⟩) 0 n) [] := World.ownsRow_made _ _ _ (Nat.le_refl _) (by unfold maxLen; omega) (zeros_size n)
theorem OwnZ.nil (w : World) (base : Nat) : OwnZ w base (.slice none 0 0) [] := World.ownsRow_nil _ _ _ _
theorem OwnZ.alloc {w : World} {base : Nat} {v : Value} {zs : List Int} (h : OwnZ w base v zs) (o : Obj) : OwnZ (w.alloc o) base v zs := World.ownsRow.alloc h o
theorem OwnZ.below {w w' : World} {base : Nat} {v : Value} {zs : List Int} (h : OwnZ w base v zs) (hb : Below w.heap.size w w') : OwnZ w' base v zs := by
  refine World.ownsRow.kept (row := none) h ⟨hb.os, hb.tape, hb.output, hb.size, fun k hk _ => hb.block k hk⟩ ?_
  cases e : v.ownBlock with
  | none => exact .inl rfl
  | some k => exact .inr (by simp)
theorem OwnZ.isInts {w : World} {base : Nat} {v : Value} {zs : List Int} (h : OwnZ w base v zs) : IsInts w v zs := by
  have hc := fun g e => World.ownsRow.cells h (g := g) e
  obtain ⟨h1, h2⟩ := h
  rcases h2 with ⟨rfl, e⟩ | ⟨g, cap, cur, rfl, _, _, h3, h4, _, _⟩
  · obtain rfl : zs = [] := List.eq_nil_of_length_eq_zero e
    exact IsInts.nil w
  · refine ⟨some ⟨g, 0, none⟩, cap, rfl, h3, h4, .inr ⟨g, 0, rfl, fun i x hx => ?_⟩⟩
    have := hc g rfl i (.int .i64 x) (by simp [hx])
    rw [Addr.add_lit] at this; exact this
theorem OwnZ.shape {w : World} {base : Nat} {v : Value} {zs : List Int} (h : OwnZ w base v zs) : ∃ a k, v = .slice a zs.length k := by
  obtain ⟨a, cap, h1, _⟩ := h.isInts; exact ⟨a, cap, h1⟩
theorem OwnZ.step {w : World} {base : Nat} {v : Value} {zs : List Int} {x : Int} (h : w.ownsRow base 3 1 v (zs.length + 1) (zs.map (Value.int .i64) ++ [Value.int .i64 x])) : OwnZ w base v (zs ++ [x]) := by
  unfold OwnZ
  rw [List.length_append, List.map_append]
  exact h
theorem one_cells (w : World) (x : Int) : ∀ (k : Nat) (u' : Value), [Value.int .i64 x][k]? = some u' → (w.alloc (.cells #[.int .i64 x] 3)).cell? ((⟨w.heap.size, 0, none⟩ : Addr).add k) = some u' := by
  intro k u' hk
  match k, hk with
  | 0, hk => simp at hk; subst hk; simp [Addr.add]
theorem one_one (x : Int) : ∀ (u' : Value), u' ∈ [Value.int .i64 x] → u'.oneCell' = true := by intro u' hu'; simp at hu'; subst hu'; rfl
end Go.Proofs.YtaajlggpjholeahDoor
