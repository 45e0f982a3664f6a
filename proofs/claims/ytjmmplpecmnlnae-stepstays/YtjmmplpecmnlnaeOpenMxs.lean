/- A list of matrices that came in, opened. -/
import Derived.Test.YtjmmplpecmnlnaeOpenMx
import Derived.Test.YtjmmplpecmnlnaeMCheckAll
import Derived.Test.YtjmmplpecmnlnaeMLaw
import Derived.Test.YtjmmplpecmnlnaePlain
import Derived.Deep.Slices
namespace Go.Proofs.Ytjmmplpecmnlnae
open Go.ChangeShapes Go.WideShapes Go.ChangeAt Go.RowKit Go.Joins Go.Deep
theorem ints_nil {H : Type} {enc : TypeId × Value → H} {w : World} {held : Bool} {base fuel : Nat} {v : Value} {x : DataW H × List MemPlace} (h : DataW.trod enc Try.prog w base (fun _ => true) held fuel 26 [v] = some x) : NilOk v := by
  rcases open_ints Try.underlying26 Try.underlying3 cellsInt h with ⟨hcs, _⟩ | ⟨a, len, cap, zs, hcs, _, _⟩
  · obtain rfl : v = .slice none 0 0 := by simpa using hcs
    intro n k e; injection e with _ e2 e3; exact ⟨e2.symm, e3.symm⟩
  · obtain rfl : v = .slice (some a) len cap := by simpa using hcs
    intro n k e; injection e with e1; cases e1
set_option maxRecDepth 100000 in
theorem mx_fields {H : Type} {enc : TypeId × Value → H} {w : World} {held : Bool} {base n : Nat} {cs : List Value} {x : DataW H × List MemPlace} (h : DataW.trod enc Try.prog w base (fun _ => true) held n 28 cs = some x) :
    ∃ (m : Mx) (s : Value), cs = [.int .i64 m.rows, .int .i64 m.cols, s] ∧ IsInts w s m.cells ∧ NilOk s := by
  obtain ⟨y0, y1, y2, n', hx, hl, h0, h1, h2⟩ := trod_struct3 Try.underlying28 h
  rw [cellsMx] at hl
  match cs, hl with
  | [c0, c1, c2], _ =>
    have h0' : DataW.trod enc Try.prog w base (fun _ => true) held n' 3 [c0] = some y0 := by simpa [cellsInt] using h0
    have h1' : DataW.trod enc Try.prog w base (fun _ => true) held n' 3 [c1] = some y1 := by simpa [cellsInt] using h1
    have h2' : DataW.trod enc Try.prog w base (fun _ => true) held n' 26 [c2] = some y2 := by
      have hc : Try.prog.cellsOf 26 = 1 := by kernel_rfl
      simpa [hc] using h2
    obtain ⟨a, e0, _, _⟩ := DataW.trod_int Try.underlying3 h0'
    obtain ⟨b, e1, _, _⟩ := DataW.trod_int Try.underlying3 h1'
    obtain ⟨zs, hz⟩ := ints_open h2'
    simp at e0 e1
    subst e0 e1
    exact ⟨⟨a, b, zs⟩, c2, rfl, hz, ints_nil h2'⟩
theorem mxs_open {H : Type} {enc : TypeId × Value → H} {w : World} {held : Bool} {base fuel : Nat} {v : Value} {x : DataW H × List MemPlace} (h : DataW.trod enc Try.prog w base (fun _ => true) held fuel 72 [v] = some x) :
    ∃ ms, IsMxs w v ms ∧ NilsOk w v ∧ (ms = [] ∨ ∃ es sp, x.1 = .slice es sp ∧ es.length = ms.length) := by
  rcases open_slice Try.underlying72 h with ⟨hcs, _⟩ | ⟨a, len, cap, m, n, D, Pl, hcs, hb, hl, hm, hmm, rfl, hx⟩
  · obtain rfl : v = .slice none 0 0 := by simpa using hcs
    exact ⟨[], ⟨none, 0, rfl, Nat.le_refl _, Nat.zero_le _, .inl rfl⟩, fun b off n k e => by (injection e with e1; cases e1), .inl rfl⟩
  · obtain rfl : v = .slice (some a) len cap := by simpa using hcs
    have hml : m = cap := by simpa using hmm
    rw [cellsMx] at hx
    have key : ∀ i, i < len → ∃ q : Mx × Value, w.cells? base (a.add (i * 3)) 3 = some [.int .i64 q.1.rows, .int .i64 q.1.cols, q.2] ∧ IsInts w q.2 q.1.cells ∧ NilOk q.2 := fun i hi => by
      obtain ⟨cs', h1, h2⟩ := hx i (by omega)
      obtain ⟨mx, s, rfl, hs, hk⟩ := mx_fields h2
      exact ⟨(mx, s), h1, hs, hk⟩
    have : Inhabited (Mx × Value) := ⟨(noMx, .nilIface)⟩
    obtain ⟨Q, hQ⟩ := choose_lt (α := Mx × Value) key
    refine ⟨(List.range len).map (fun i => (Q i).1), ⟨some a, cap, by simp, by simpa using hl, hm, ?_⟩, ?_, .inr ⟨_, _, rfl, by simp⟩⟩
    rotate_left 1
    · intro b off n' k' e i hi s hs
      injection e with e1 e2 e3
      have e1 := Option.some.inj e1
      subst e1 e2
      obtain ⟨h1, _, h3⟩ := hQ i hi
      have hc := (World.cells?_some h1).2.2 2 (by omega)
      rw [add_add, Addr.add_lit, ← Nat.add_assoc] at hc
      have : s = (Q i).2 := by rw [hs] at hc; simpa using hc
      rw [this]; exact h3
    rcases Nat.eq_zero_or_pos len with h0 | h0
    · exact .inl (by subst h0; simp)
    · obtain ⟨b, off, e⟩ : ∃ b off, a = ⟨b, off, none⟩ := by
        have hc := (World.cells?_some (hQ 0 h0).1).2.2 0 (by omega)
        have hs := World.cell?_spot (v := .int .i64 (Q 0).1.rows) (by rw [hc]; rfl)
        obtain ⟨b, off, sp⟩ := a
        refine ⟨b, off, ?_⟩
        have : sp = none := by simpa [Addr.add] using hs
        rw [this]
      subst e
      refine .inr ⟨b, off, rfl, fun i mx hmx => ?_⟩
      have hi : i < len := by
        rcases Nat.lt_or_ge i len with h | h
        · exact h
        · rw [List.getElem?_eq_none (by simp; omega)] at hmx; cases hmx
      simp [hi] at hmx
      subst hmx
      obtain ⟨h1, h2, _⟩ := hQ i hi
      have hc := (World.cells?_some h1).2.2
      have g : ∀ j, j < 3 → w.cell? ⟨b, off + i * 3 + j, none⟩ = [Value.int .i64 (Q i).1.rows, .int .i64 (Q i).1.cols, (Q i).2][j]? := fun j hj => by
        rw [← hc j hj, add_add, Addr.add_lit, Nat.add_assoc]
      exact ⟨(Q i).2, g 0 (by omega), g 1 (by omega), g 2 (by omega), h2⟩
set_option maxRecDepth 100000 in
theorem mxs_param {H : Type} {enc : TypeId × Value → H} {w : World} {r : Reach} {b0 : Nat} {v : Value} {d : DataW H} {p : List MemPlace} (hv : Value.okWide Try.prog w r b0 72 v) (h : DataW.Trod enc Try.prog w 0 (fun _ => true) true 72 v d p) :
    ∃ ms, IsMxs w v ms ∧ NilsOk w v ∧ (ms = [] ∨ ∃ es sp, d = .slice es sp ∧ es.length = ms.length) := by
  obtain ⟨a, len, cap, rfl⟩ := okWide_slice Try.underlying72 hv
  obtain ⟨fuel, hf⟩ := h
  exact mxs_open (x := (d, p)) (by simpa [Value.cells] using hf)
end Go.Proofs.Ytjmmplpecmnlnae
