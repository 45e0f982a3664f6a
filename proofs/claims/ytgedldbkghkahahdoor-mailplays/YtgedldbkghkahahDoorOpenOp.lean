/- A list of calls on a box that came in, opened: each a number and a message. -/
import Derived.Test.YtgedldbkghkahahDoorOpenMs
namespace Go.Proofs.YtgedldbkghkahahDoor
open Go.ChangeShapes Go.WideShapes Go.ChangeAt Go.RowKit Go.Joins Go.Deep
/-- One call on a box in memory. -/
def OpAt (w : World) (b o : Nat) (x : Int × Int × Int × Mx) (s : Value) : Prop :=
  w.cell? ⟨b, o, none⟩ = some (.int .i64 x.1) ∧ w.cell? ⟨b, o + 1, none⟩ = some (.int .i64 x.2.1) ∧ w.cell? ⟨b, o + 2, none⟩ = some (.int .i64 x.2.2.1) ∧ w.cell? ⟨b, o + 3, none⟩ = some (.int .i64 x.2.2.2.rows) ∧ w.cell? ⟨b, o + 4, none⟩ = some (.int .i64 x.2.2.2.cols) ∧ w.cell? ⟨b, o + 5, none⟩ = some s
def IsOps (w : World) (v : Value) (l : List (Int × Int × Int × Mx)) : Prop :=
  ∃ (a : Option Addr) (cap : Nat), v = .slice a l.length cap ∧ l.length ≤ cap ∧ cap ≤ maxLen ∧ (l = [] ∨ ∃ b off, a = some ⟨b, off, none⟩ ∧ ∀ i x, l[i]? = some x → ∃ s, OpAt w b (off + i * 6) x s ∧ IsInts w s x.2.2.2.cells ∧ NilOk s ∧ x.2.2.2.cells.length ≤ 17592186043904)
theorem cellsOp : Tryd.prog.cellsOf 52 = 6 := by kernel_rfl
set_option maxRecDepth 100000 in
theorem op_fields {H : Type} {enc : TypeId × Value → H} {w : World} {held : Bool} {base n : Nat} {cs : List Value} {x : DataW H × List MemPlace} (h : DataW.trod enc Tryd.prog w base (fun _ => true) held n 52 cs = some x) (hB : ∀ n ∈ x.1.weights Tryd.prog 52, n ≤ 140737488351232) :
    ∃ (y : Int × Int × Int × Mx) (s : Value), cs = [.int .i64 y.1, .int .i64 y.2.1, .int .i64 y.2.2.1, .int .i64 y.2.2.2.rows, .int .i64 y.2.2.2.cols, s] ∧ IsInts w s y.2.2.2.cells ∧ NilOk s ∧ y.2.2.2.cells.length ≤ 17592186043904 := by
  obtain ⟨y0, y1, n', hx, hl, h0, h1⟩ := trod_struct2 Tryd.underlying52 h
  rw [cellsOp] at hl
  match cs, hl with
  | [c0, c1, c2, c3, c4, c5], _ =>
    have h0' : DataW.trod enc Tryd.prog w base (fun _ => true) held n' 3 [c0] = some y0 := by simpa [cellsInt] using h0
    have h1' : DataW.trod enc Tryd.prog w base (fun _ => true) held n' 26 [c1, c2, c3, c4, c5] = some y1 := by simpa [cellsInt, cellsMs] using h1
    obtain ⟨k0, e0, _, _⟩ := DataW.trod_int Tryd.underlying3 h0'
    obtain ⟨k, mi, b, s, e1, hs, ns⟩ := ms_fields h1'
    simp at e0 e1
    obtain ⟨rfl, rfl, rfl, rfl, rfl⟩ := e1
    subst e0
    refine ⟨(k0, k, mi, b), _, rfl, hs, ns, ?_⟩
    obtain ⟨z0, z1, z2, n2, hz, hl2, _, _, g2⟩ := trod_struct3 Tryd.underlying26 h1'
    have g2' : DataW.trod enc Tryd.prog w base (fun _ => true) held n2 24 [.int .i64 b.rows, .int .i64 b.cols, c5] = some z2 := by simpa [cellsMx, cellsInt] using g2
    have := mx_w (B := 140737488351232) g2' hs (fun q hq => hB q (by
      rw [hx]
      simp only [DataW.weights, Tryd.underlying52, DataW.weightsEach, List.map_cons, List.map_nil, List.mem_append]
      refine .inr (.inl ?_)
      rw [hz]
      simp only [DataW.weights, Tryd.underlying26, DataW.weightsEach, List.map_cons, List.map_nil, List.mem_append]
      exact .inr (.inr (.inl hq))))
    dsimp only
    omega
set_option maxRecDepth 100000 in
theorem ops_param {H : Type} {enc : TypeId × Value → H} {w : World} {r : Reach} {b0 : Nat} {v : Value} {d : DataW H} {p : List MemPlace} (hv : Value.okWide Tryd.prog w r b0 46 v) (h : DataW.Trod enc Tryd.prog w 0 (fun _ => true) true 46 v d p) (hB : ∀ n ∈ d.weights Tryd.prog 46, n ≤ 140737488351232) : ∃ l, IsOps w v l := by
  obtain ⟨a', len', cap', rfl⟩ := okWide_slice Tryd.underlying46 hv
  obtain ⟨fuel, hf⟩ := h
  have hf' : DataW.trod enc Tryd.prog w 0 (fun _ => true) true fuel 46 [.slice a' len' cap'] = some (d, p) := by simpa [Value.cells] using hf
  rcases open_slice Tryd.underlying46 hf' with ⟨hcs, _⟩ | ⟨a, len, cap, m, n, D, Pl, hcs, hb, hl, hm, hmm, hd, hx⟩
  · have e : Value.slice a' len' cap' = .slice none 0 0 := by simpa using hcs
    rw [e]
    exact ⟨[], none, 0, rfl, Nat.le_refl _, Nat.zero_le _, .inl rfl⟩
  · have e : Value.slice a' len' cap' = .slice (some a) len cap := by simpa using hcs
    rw [e]
    have hml : m = cap := by simpa using hmm
    injection hd with hd1 _
    rw [cellsOp] at hx
    have : Inhabited ((Int × Int × Int × Mx) × Value) := ⟨((0, 0, 0, ⟨0, 0, []⟩), .slice none 0 0)⟩
    have key : ∀ i, i < len → ∃ z : (Int × Int × Int × Mx) × Value, w.cells? 0 (a.add (i * 6)) 6 = some [.int .i64 z.1.1, .int .i64 z.1.2.1, .int .i64 z.1.2.2.1, .int .i64 z.1.2.2.2.rows, .int .i64 z.1.2.2.2.cols, z.2] ∧ IsInts w z.2 z.1.2.2.2.cells ∧ NilOk z.2 ∧ z.1.2.2.2.cells.length ≤ 17592186043904 := fun i hi => by
      obtain ⟨cs', h1, h2⟩ := hx i (by omega)
      obtain ⟨y, s, rfl, hs, hn, hle⟩ := op_fields h2 (fun q hq => hB q (by
        rw [hd1]
        simp only [DataW.weights, Tryd.underlying46, List.mem_cons, List.mem_append]
        exact .inr (.inl (weightsAll_in (List.mem_map.2 ⟨i, List.mem_range.2 hi, rfl⟩) q hq))))
      exact ⟨(y, s), h1, hs, hn, hle⟩
    obtain ⟨Q, hQ⟩ := choose_lt key
    have hlen : ((List.range len).map (fun i => (Q i).1)).length = len := by simp
    refine ⟨(List.range len).map (fun i => (Q i).1), some a, cap, by rw [hlen], by rw [hlen]; exact hl, hm, ?_⟩
    rcases Nat.eq_zero_or_pos len with h0 | h0
    · exact .inl (by rw [h0]; rfl)
    · obtain ⟨b, off, ea⟩ : ∃ b off, a = ⟨b, off, none⟩ := by
        obtain ⟨h1, _⟩ := hQ 0 h0
        have hc0 := (World.cells?_some h1).2.2 0 (by decide)
        have hs := World.cell?_spot (v := .int .i64 (Q 0).1.1) (by rw [hc0]; rfl)
        obtain ⟨b, off, sp⟩ := a
        refine ⟨b, off, ?_⟩
        have : sp = none := by simpa [Addr.add] using hs
        rw [this]
      subst ea
      refine .inr ⟨b, off, rfl, fun i x hx' => ?_⟩
      have hi : i < len := by
        have := (List.getElem?_eq_some_iff.1 hx').1
        rw [hlen] at this
        exact this
      have hxe : x = (Q i).1 := by
        rw [List.getElem?_map, List.getElem?_range hi] at hx'
        exact (Option.some.inj hx').symm
      subst hxe
      obtain ⟨h1, h2, h3, h4⟩ := hQ i hi
      have hc := (World.cells?_some h1).2.2
      refine ⟨(Q i).2, ⟨?_, ?_, ?_, ?_, ?_, ?_⟩, h2, h3, h4⟩
      · have := hc 0 (by decide); rw [add_add, Addr.add_lit, Nat.add_zero] at this; rw [this]; rfl
      · have := hc 1 (by decide); rw [add_add, Addr.add_lit, ← Nat.add_assoc] at this; rw [this]; rfl
      · have := hc 2 (by decide); rw [add_add, Addr.add_lit, ← Nat.add_assoc] at this; rw [this]; rfl
      · have := hc 3 (by decide); rw [add_add, Addr.add_lit, ← Nat.add_assoc] at this; rw [this]; rfl
      · have := hc 4 (by decide); rw [add_add, Addr.add_lit, ← Nat.add_assoc] at this; rw [this]; rfl
      · have := hc 5 (by decide); rw [add_add, Addr.add_lit, ← Nat.add_assoc] at this; rw [this]; rfl
end Go.Proofs.YtgedldbkghkahahDoor
