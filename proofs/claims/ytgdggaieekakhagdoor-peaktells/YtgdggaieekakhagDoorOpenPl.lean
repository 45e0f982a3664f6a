/- A plan that came in, opened: a list of lists of acts. -/
import Derived.Test.YtgdggaieekakhagDoorOpenMx
import Derived.Test.YtgdggaieekakhagDoorPlA
import Derived.Deep.Slices
namespace Go.Proofs.YtgdggaieekakhagDoor
open Go.ChangeShapes Go.WideShapes Go.ChangeAt Go.RowKit Go.Joins Go.Deep
theorem cellsAct : Tryd.prog.cellsOf 56 = 2 := by kernel_rfl
theorem cellsActs : Tryd.prog.cellsOf 44 = 1 := by kernel_rfl
set_option maxRecDepth 100000 in
theorem act_fields {H : Type} {enc : TypeId × Value → H} {w : World} {held : Bool} {base n : Nat} {cs : List Value} {x : DataW H × List MemPlace} (h : DataW.trod enc Tryd.prog w base (fun _ => true) held n 56 cs = some x) :
    ∃ a : Int × Int, cs = [.int .i64 a.1, .int .i64 a.2] := by
  obtain ⟨y0, y1, n', hx, hl, h0, h1⟩ := trod_struct2 Tryd.underlying56 h
  rw [cellsAct] at hl
  match cs, hl with
  | [c0, c1], _ =>
    have h0' : DataW.trod enc Tryd.prog w base (fun _ => true) held n' 3 [c0] = some y0 := by simpa [cellsInt] using h0
    have h1' : DataW.trod enc Tryd.prog w base (fun _ => true) held n' 3 [c1] = some y1 := by simpa [cellsInt] using h1
    obtain ⟨a, e0, _, _⟩ := DataW.trod_int Tryd.underlying3 h0'
    obtain ⟨b, e1, _, _⟩ := DataW.trod_int Tryd.underlying3 h1'
    simp at e0 e1
    subst e0 e1
    exact ⟨(a, b), rfl⟩
theorem acts_open {H : Type} {enc : TypeId × Value → H} {w : World} {held : Bool} {base fuel : Nat} {v : Value} {x : DataW H × List MemPlace} (h : DataW.trod enc Tryd.prog w base (fun _ => true) held fuel 44 [v] = some x) : ∃ l, IsActs w v l := by
  rcases open_slice Tryd.underlying44 h with ⟨hcs, _⟩ | ⟨a, len, cap, m, n, D, Pl, hcs, hb, hl, hm, hmm, rfl, hx⟩
  · obtain rfl : v = .slice none 0 0 := by simpa using hcs
    exact ⟨[], IsActs.nil w⟩
  · obtain rfl : v = .slice (some a) len cap := by simpa using hcs
    have hml : m = cap := by simpa using hmm
    rw [cellsAct] at hx
    have key : ∀ i, i < len → ∃ q : Int × Int, w.cells? base (a.add (i * 2)) 2 = some [.int .i64 q.1, .int .i64 q.2] := fun i hi => by
      obtain ⟨cs', h1, h2⟩ := hx i (by omega)
      obtain ⟨q, rfl⟩ := act_fields h2
      exact ⟨q, h1⟩
    obtain ⟨Q, hQ⟩ := choose_lt (α := Int × Int) key
    refine ⟨(List.range len).map Q, some a, cap, by simp, by simpa using hl, hm, ?_⟩
    rcases Nat.eq_zero_or_pos len with h0 | h0
    · exact .inl (by subst h0; simp)
    · obtain ⟨b, off, e⟩ : ∃ b off, a = ⟨b, off, none⟩ := by
        have hc := (World.cells?_some (hQ 0 h0)).2.2 0 (by omega)
        have hs := World.cell?_spot (v := .int .i64 (Q 0).1) (by rw [hc]; rfl)
        obtain ⟨b, off, sp⟩ := a
        refine ⟨b, off, ?_⟩
        have : sp = none := by simpa [Addr.add] using hs
        rw [this]
      subst e
      refine .inr ⟨b, off, rfl, fun i q hq => ?_⟩
      have hi : i < len := by
        rcases Nat.lt_or_ge i len with h | h
        · exact h
        · rw [List.getElem?_eq_none (by simp; omega)] at hq; cases hq
      simp [hi] at hq
      subst hq
      have hc := (World.cells?_some (hQ i hi)).2.2
      have g : ∀ j, j < 2 → w.cell? ⟨b, off + i * 2 + j, none⟩ = [Value.int .i64 (Q i).1, .int .i64 (Q i).2][j]? := fun j hj => by
        rw [← hc j hj, add_add, Addr.add_lit, Nat.add_assoc]
      exact ⟨g 0 (by omega), g 1 (by omega)⟩
theorem plan_open {H : Type} {enc : TypeId × Value → H} {w : World} {held : Bool} {base fuel : Nat} {v : Value} {x : DataW H × List MemPlace} (h : DataW.trod enc Tryd.prog w base (fun _ => true) held fuel 22 [v] = some x) : ∃ p, IsPlan w v p := by
  rcases open_slice Tryd.underlying22 h with ⟨hcs, _⟩ | ⟨a, len, cap, m, n, D, Pl, hcs, hb, hl, hm, hmm, rfl, hx⟩
  · obtain rfl : v = .slice none 0 0 := by simpa using hcs
    exact ⟨[], IsPlan.nil w⟩
  · obtain rfl : v = .slice (some a) len cap := by simpa using hcs
    have hml : m = cap := by simpa using hmm
    rw [cellsActs] at hx
    have key : ∀ i, i < len → ∃ q : List (Int × Int) × Value, w.cells? base (a.add (i * 1)) 1 = some [q.2] ∧ IsActs w q.2 q.1 := fun i hi => by
      obtain ⟨cs', h1, h2⟩ := hx i (by omega)
      have hl1 : cs'.length = 1 := (World.cells?_some h1).2.1
      match cs', hl1, h1, h2 with
      | [c], _, h1, h2 =>
        obtain ⟨l, hl⟩ := acts_open h2
        exact ⟨(l, c), h1, hl⟩
    have : Inhabited (List (Int × Int) × Value) := ⟨([], .nilIface)⟩
    obtain ⟨Q, hQ⟩ := choose_lt (α := List (Int × Int) × Value) key
    refine ⟨(List.range len).map (fun i => (Q i).1), some a, cap, by simp, by simpa using hl, hm, ?_⟩
    rcases Nat.eq_zero_or_pos len with h0 | h0
    · exact .inl (by subst h0; simp)
    · obtain ⟨b, off, e⟩ : ∃ b off, a = ⟨b, off, none⟩ := by
        have hc := (World.cells?_some (hQ 0 h0).1).2.2 0 (by omega)
        have hs := World.cell?_spot (v := (Q 0).2) (by rw [hc]; rfl)
        obtain ⟨b, off, sp⟩ := a
        refine ⟨b, off, ?_⟩
        have : sp = none := by simpa [Addr.add] using hs
        rw [this]
      subst e
      refine .inr ⟨b, off, rfl, fun i l hq => ?_⟩
      have hi : i < len := by
        rcases Nat.lt_or_ge i len with h | h
        · exact h
        · rw [List.getElem?_eq_none (by simp; omega)] at hq; cases hq
      simp [hi] at hq
      subst hq
      obtain ⟨h1, h2⟩ := hQ i hi
      have hc := (World.cells?_some h1).2.2 0 (by omega)
      rw [add_add, Addr.add_lit, Nat.mul_one, Nat.add_zero] at hc
      exact ⟨(Q i).2, by rw [hc]; rfl, h2⟩
set_option maxRecDepth 100000 in
theorem plan_param {H : Type} {enc : TypeId × Value → H} {w : World} {r : Reach} {b0 : Nat} {v : Value} {d : DataW H} {p : List MemPlace} (hv : Value.okWide Tryd.prog w r b0 22 v) (h : DataW.Trod enc Tryd.prog w 0 (fun _ => true) true 22 v d p) : ∃ q, IsPlan w v q := by
  obtain ⟨a, len, cap, rfl⟩ := okWide_slice Tryd.underlying22 hv
  obtain ⟨fuel, hf⟩ := h
  exact plan_open (x := (d, p)) (by simpa [Value.cells] using hf)
end Go.Proofs.YtgdggaieekakhagDoor
