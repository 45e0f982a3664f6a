/- A slice that is made with room; a list of one's own in it. No program in sight but for the sizes of its types. -/
import Derived.Test.YtjmmplpecmnlnaeNetP
namespace Go.Proofs.Ytjmmplpecmnlnae
open Go.RowKit
/-- What make fills a list with. -/
def rawCells (z : Value) (k : Nat) : Array Value := madeCells z.cells k
theorem rawCells_size (z : Value) (k : Nat) : (rawCells z k).size = k := size_madeCells _ _
theorem run_mkL (e s size bytes : Nat) (z : Value) (hu : Try.prog.underlying s = some (.slice e)) (hi : (Try.prog.info? e).map (fun i => (i.zero, i.size, i.bytes)) = some (some z, size, bytes)) (L : Int) (n : Nat) (hL : L = (n : Int)) (hn : bytes * n ≤ 281474976710656) (hm : n ≤ 9223372036854775807) (W : World) :
    (Instr.makeSlice s (.int .i64 0) (.int .i64 L)).run Try.prog W = .ok (.slice (some ⟨W.heap.size, 0, none⟩) 0 n) (W.alloc (.cells (rawCells z (n * size)) e)) := by
  obtain ⟨i0, hi0, hz0, hz1, hz2⟩ := info_parts hi
  subst hL
  have hr := run_make (P := Try.prog) W s e i0 z hu hi0 hz0 .i64 .i64 0 (n : Int) (by omega) (by omega) (by rw [hz2]; omega) (by omega)
  simpa [hz1, rawCells] using hr
/-- A list of one's own with room, and nothing in it yet. -/
theorem Owns.room {lo base : Nat} {w : World} {e : TypeId} {size cap : Nat} (cs : Array Value) (hb : base ≤ w.heap.size) (hc : cap ≤ maxLen) (hs : cs.size = cap * size) : Owns lo base (w.alloc (.cells cs e)) e size (.slice (some ⟨w.heap.size, 0, none⟩) 0 cap) 0 [] :=
  ⟨[], ⟨by simp, .inr ⟨w.heap.size, cap, cs, rfl, hb, heap_alloc_new w _, Nat.zero_le _, hc, hs, by simp⟩⟩, Enc.nil _ _⟩
end Go.Proofs.Ytjmmplpecmnlnae
