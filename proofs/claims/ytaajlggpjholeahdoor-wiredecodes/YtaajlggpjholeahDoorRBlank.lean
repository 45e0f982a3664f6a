/- What Blank of the document's answer comes to: a matrix of noughts in new memory. -/
import Derived.Test.YtaajlggpjholeahDoorRFault
import Derived.Test.YtaajlggpjholeahDoorPlain
import Derived.StillTailTactics
namespace Go.Proofs.YtaajlggpjholeahDoor
open Go.RowKit
theorem infoInt : (Tryd.prog.info? 3).map (fun i => (i.zero, i.size, i.bytes)) = some (some (.int .i64 0), 1, 8) := by kernel_rfl
def zeros (n : Nat) : Array Value := madeCells #[.int .i64 0] n
theorem zeros_row (w : World) (n : Nat) : RowAt 3 (w.alloc (.cells (zeros n) 3)) w.heap.size (tab n (fun _ => 0)) := by
  unfold RowAt
  rw [heap_alloc_new]
  congr 2
  rw [← Array.toList_inj]
  unfold zeros
  rw [toList_madeCells_one, tab_zero]; simp
theorem run_mk (L : Int) (n : Nat) (hL : L = (n : Int)) (hn : n ≤ 82944) (W : World) : (Instr.makeSlice 22 (.int .i64 L) (.int .i64 L)).run Tryd.prog W = .ok (.slice (some ⟨W.heap.size, 0, none⟩) n n) (W.alloc (.cells (zeros n) 3)) := by
  obtain ⟨i0, hi, hz0, hz1, hz2⟩ := info_parts infoInt
  subst hL
  have hr := run_make (P := Tryd.prog) W 22 3 i0 (.int .i64 0) Tryd.underlying22 hi hz0 .i64 .i64 (n : Int) (n : Int) (by omega) (Int.le_refl _) (by rw [hz2]; omega) (by omega)
  simpa [zeros, hz1, Value.cells] using hr
/-- A region whose last operations wait for all others, which only read: it is walked in the order of its text. -/
theorem region_tail {P : Program} {id : Nat} {Q : Exit → Act → World → Prop} {a : Act} {w : World} {l : List Oper} (n : Nat) (hm : P.follows .mixedOrders = true) (hB : Region.lexTailB .any l.toArray n = true)
    (h : wpStill P l.toArray w.drew (fun a' => wpList P l.toArray Q (l.drop n) a' w.drew) (l.take n) a) : (Code.region id l.toArray true).wp P Q a w := wp_region_still_tail n hm hB h
/-- Behind Blank and the box of what it gave: V: the world ahead of Blank; w1: behind it; g: the new row; o: the box. What was there is there, in whatever world the row alone has turned. -/
theorem keep_cell {V w1 wr : World} {o : Obj} {g : Nat} (hb : Below V.heap.size V w1) (hg : V.heap.size ≤ g) (hgr : (w1.alloc o).grownBy wr (some g)) {p : Addr} {x : Value} (h : V.cell? p = some x) : wr.cell? p = some x := by
  have hlt := World.block_lt_of_cell? V p h
  exact hgr.cell (cell_past ((hb.cell (p := p) hlt).trans h) o) (fun e => by have := Option.some.inj e; omega)
theorem keep_frozen {V w1 wr : World} {o : Obj} {g : Nat} (hb : Below V.heap.size V w1) (hg : V.heap.size ≤ g) (hgr : (w1.alloc o).grownBy wr (some g)) {p : Addr} (hlt : p.block < V.heap.size) (h : V.frozen? p = false) : wr.frozen? p = false := by
  have hs := hb.size
  refine grown_frozen hgr ?_ (by simp; omega) (fun e => by have := Option.some.inj e; omega)
  rw [World.frozen?_alloc_old _ _ _ (by omega), hb.frozen (p := p) hlt]; exact h
theorem box_cell {w1 wr : World} {cs : Array Value} {t : TypeId} {g : Nat} (hg : g < w1.heap.size) (hgr : (w1.alloc (.cells cs t)).grownBy wr (some g)) {j : Nat} {x : Value} (h : cs[j]? = some x) : wr.cell? ⟨w1.heap.size, j, none⟩ = some x :=
  hgr.cell ((World.cell?_alloc_at _ _ _ _ rfl).trans h) (fun e => by have := Option.some.inj e; simp at this; omega)
theorem keep_below {w V w1 wr : World} {o : Obj} {g : Nat} (h0 : Below w.heap.size w V) (hb : Below V.heap.size V w1) (hg : V.heap.size ≤ g) (hgr : (w1.alloc o).grownBy wr (some g)) : Below w.heap.size w wr := by
  have s1 := h0.size
  have s2 := hb.size
  exact ((h0.trans (hb.mono s1)).alloc (by omega) o).grown hgr (by simp; omega) (fun k e => by have := Option.some.inj e; omega)
end Go.Proofs.YtaajlggpjholeahDoor
