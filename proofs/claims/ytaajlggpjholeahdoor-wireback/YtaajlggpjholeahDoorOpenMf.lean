/- The parts of a matrix that came in. -/
import Derived.Test.YtaajlggpjholeahDoorOpenMx
import Derived.Test.YtaajlggpjholeahDoorPlain
import Derived.Deep.Slices
namespace Go.Proofs.YtaajlggpjholeahDoor
open Go.ChangeShapes Go.WideShapes Go.ChangeAt Go.RowKit Go.Joins Go.Deep
theorem ints_nil {H : Type} {enc : TypeId × Value → H} {w : World} {held : Bool} {base fuel : Nat} {v : Value} {x : DataW H × List MemPlace} (h : DataW.trod enc Tryd.prog w base (fun _ => true) held fuel 22 [v] = some x) : NilOk v := by
  rcases open_ints Tryd.underlying22 Tryd.underlying3 cellsInt h with ⟨hcs, _⟩ | ⟨a, len, cap, zs, hcs, _, _⟩
  · obtain rfl : v = .slice none 0 0 := by simpa using hcs
    intro n k e; injection e with _ e2 e3; exact ⟨e2.symm, e3.symm⟩
  · obtain rfl : v = .slice (some a) len cap := by simpa using hcs
    intro n k e; injection e with e1; cases e1
set_option maxRecDepth 100000 in
theorem mx_fields {H : Type} {enc : TypeId × Value → H} {w : World} {held : Bool} {base n : Nat} {cs : List Value} {x : DataW H × List MemPlace} (h : DataW.trod enc Tryd.prog w base (fun _ => true) held n 24 cs = some x) :
    ∃ (m : Mx) (s : Value), cs = [.int .i64 m.rows, .int .i64 m.cols, s] ∧ IsInts w s m.cells ∧ NilOk s := by
  obtain ⟨y0, y1, y2, n', hx, hl, h0, h1, h2⟩ := trod_struct3 Tryd.underlying24 h
  rw [cellsMx] at hl
  match cs, hl with
  | [c0, c1, c2], _ =>
    have h0' : DataW.trod enc Tryd.prog w base (fun _ => true) held n' 3 [c0] = some y0 := by simpa [cellsInt] using h0
    have h1' : DataW.trod enc Tryd.prog w base (fun _ => true) held n' 3 [c1] = some y1 := by simpa [cellsInt] using h1
    have h2' : DataW.trod enc Tryd.prog w base (fun _ => true) held n' 22 [c2] = some y2 := by
      have hc : Tryd.prog.cellsOf 22 = 1 := by kernel_rfl
      simpa [hc] using h2
    obtain ⟨a, e0, _, _⟩ := DataW.trod_int Tryd.underlying3 h0'
    obtain ⟨b, e1, _, _⟩ := DataW.trod_int Tryd.underlying3 h1'
    obtain ⟨zs, hz⟩ := ints_open h2'
    simp at e0 e1
    subst e0 e1
    exact ⟨⟨a, b, zs⟩, c2, rfl, hz, ints_nil h2'⟩
end Go.Proofs.YtaajlggpjholeahDoor
