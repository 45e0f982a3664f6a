/- A layer that came in, opened: a struct by value with two matrices in it. -/
import Derived.Test.YtjmmplpecmnlnaeOpenMxs
import Derived.Test.YtjmmplpecmnlnaeLy
namespace Go.Proofs.Ytjmmplpecmnlnae
open Go.ChangeShapes Go.WideShapes Go.ChangeAt Go.RowKit Go.Joins Go.Deep
theorem cellsLy : Try.prog.cellsOf 30 = 7 := by kernel_rfl
set_option maxRecDepth 100000 in
theorem ly_fields {H : Type} {enc : TypeId × Value → H} {w : World} {held : Bool} {base n : Nat} {cs : List Value} {x : DataW H × List MemPlace} (h : DataW.trod enc Try.prog w base (fun _ => true) held n 30 cs = some x) :
    ∃ (l : Ly) (s t : Value), cs = [.int .i64 l.k, .int .i64 l.w.rows, .int .i64 l.w.cols, s, .int .i64 l.b.rows, .int .i64 l.b.cols, t] ∧ IsInts w s l.w.cells ∧ IsInts w t l.b.cells ∧ NilOk s ∧ NilOk t := by
  obtain ⟨y0, y1, y2, n', hx, hl, h0, h1, h2⟩ := trod_struct3 Try.underlying30 h
  rw [cellsLy] at hl
  match cs, hl with
  | [c0, c1, c2, c3, c4, c5, c6], _ =>
    have h0' : DataW.trod enc Try.prog w base (fun _ => true) held n' 3 [c0] = some y0 := by simpa [cellsInt] using h0
    have h1' : DataW.trod enc Try.prog w base (fun _ => true) held n' 28 [c1, c2, c3] = some y1 := by simpa [cellsMx] using h1
    have h2' : DataW.trod enc Try.prog w base (fun _ => true) held n' 28 [c4, c5, c6] = some y2 := by simpa [cellsMx] using h2
    obtain ⟨a, e0, _, _⟩ := DataW.trod_int Try.underlying3 h0'
    obtain ⟨m, s, e1, hs, ns⟩ := mx_fields h1'
    obtain ⟨k, t, e2, ht, nt⟩ := mx_fields h2'
    simp at e0 e1 e2
    obtain ⟨rfl, rfl, rfl⟩ := e1
    obtain ⟨rfl, rfl, rfl⟩ := e2
    subst e0
    exact ⟨⟨a, m, k⟩, _, _, rfl, hs, ht, ns, nt⟩
set_option maxRecDepth 100000 in
theorem ly_open {H : Type} {enc : TypeId × Value → H} {w : World} {r : Reach} {b0 : Nat} {v : Value} {d : DataW H} {p : List MemPlace} (hv : Value.okWide Try.prog w r b0 30 v) (h : DataW.Trod enc Try.prog w 0 (fun _ => true) true 30 v d p) :
    ∃ l : Ly, IsLy w v l := by
  obtain ⟨cs, rfl, hsz⟩ := okWide_struct Try.underlying30 hv
  obtain ⟨fuel, hf⟩ := h
  obtain ⟨l, s, t, e, hs, ht, _, _⟩ := ly_fields (x := (d, p)) hf
  exact ⟨l, s, t, by rw [← e]; simp [Value.cells], hs, ht⟩
end Go.Proofs.Ytjmmplpecmnlnae
