/- A message, and a list of bytes, that came in, opened; how long they may be. -/
import Derived.Test.YtaajlggpjholeahDoorOpenMf
import Derived.Test.YtaajlggpjholeahDoorWrR3
import Derived.Test.YtaajlggpjholeahDoorOpenWt
namespace Go.Proofs.YtaajlggpjholeahDoor
open Go.ChangeShapes Go.WideShapes Go.ChangeAt Go.RowKit Go.Joins Go.Deep
theorem cellsMs : Tryd.prog.cellsOf 26 = 5 := by kernel_rfl
theorem cellsBy : Tryd.prog.cellsOf 5 = 1 := by kernel_rfl
set_option maxRecDepth 100000 in
theorem ms_fields {H : Type} {enc : TypeId × Value → H} {w : World} {held : Bool} {base n : Nat} {cs : List Value} {x : DataW H × List MemPlace} (h : DataW.trod enc Tryd.prog w base (fun _ => true) held n 26 cs = some x) :
    ∃ (k mi : Int) (b : Mx) (s : Value), cs = [.int .i64 k, .int .i64 mi, .int .i64 b.rows, .int .i64 b.cols, s] ∧ IsInts w s b.cells ∧ NilOk s := by
  obtain ⟨y0, y1, y2, n', hx, hl, h0, h1, h2⟩ := trod_struct3 Tryd.underlying26 h
  rw [cellsMs] at hl
  match cs, hl with
  | [c0, c1, c2, c3, c4], _ =>
    have h0' : DataW.trod enc Tryd.prog w base (fun _ => true) held n' 3 [c0] = some y0 := by simpa [cellsInt] using h0
    have h1' : DataW.trod enc Tryd.prog w base (fun _ => true) held n' 3 [c1] = some y1 := by simpa [cellsInt] using h1
    have h2' : DataW.trod enc Tryd.prog w base (fun _ => true) held n' 24 [c2, c3, c4] = some y2 := by simpa [cellsMx, cellsInt] using h2
    obtain ⟨a, e0, _, _⟩ := DataW.trod_int Tryd.underlying3 h0'
    obtain ⟨b, e1, _, _⟩ := DataW.trod_int Tryd.underlying3 h1'
    obtain ⟨m, s, e2, hs, ns⟩ := mx_fields h2'
    simp at e0 e1 e2
    obtain ⟨rfl, rfl, rfl⟩ := e2
    subst e0 e1
    exact ⟨a, b, m, _, rfl, hs, ns⟩
set_option maxRecDepth 100000 in
theorem ms_open {H : Type} {enc : TypeId × Value → H} {w : World} {r : Reach} {b0 : Nat} {v : Value} {d : DataW H} {p : List MemPlace} (hv : Value.okWide Tryd.prog w r b0 26 v) (h : DataW.Trod enc Tryd.prog w 0 (fun _ => true) true 26 v d p) :
    ∃ (k mi : Int) (b : Mx), IsMsg w v k mi b := by
  obtain ⟨cs, rfl, hsz⟩ := okWide_struct Tryd.underlying26 hv
  obtain ⟨fuel, hf⟩ := h
  obtain ⟨k, mi, b, s, e, hs, _⟩ := ms_fields (x := (d, p)) hf
  exact ⟨k, mi, b, s, by rw [← e]; simp [Value.cells], hs⟩
theorem bys_open {H : Type} {enc : TypeId × Value → H} {w : World} {held : Bool} {base fuel : Nat} {v : Value} {x : DataW H × List MemPlace} (h : DataW.trod enc Tryd.prog w base (fun _ => true) held fuel 27 [v] = some x) : ∃ l, IsBys w v l ∧ NilOk v := by
  rcases open_ints Tryd.underlying27 Tryd.underlying5 cellsBy h with ⟨hcs, _⟩ | ⟨a, len, cap, zs, hcs, _, hl, hm, hz, _, hcell, hwf⟩
  · obtain rfl : v = .slice none 0 0 := by simpa using hcs
    refine ⟨[], IsBys.nil w, ?_⟩
    intro n k e; injection e with _ e2 e3; exact ⟨e2.symm, e3.symm⟩
  · obtain rfl : v = .slice (some a) len cap := by simpa using hcs
    have hz' : zs.length = cap := by simpa using hz
    have hlen : (zs.take len).length = len := by simp; omega
    refine ⟨zs.take len, ⟨some a, cap, by rw [hlen], by omega, hm, fun x hx => ?_, ?_⟩, ?_⟩
    · have := hwf x (List.mem_of_mem_take hx)
      have e1 : IntKind.u8.min = 0 := by decide
      have e2 : IntKind.u8.max = 255 := by decide
      simp only [Lit.wf, Bool.and_eq_true, decide_eq_true_eq, e1, e2] at this
      omega
    · by_cases h0 : len = 0
      · exact .inl (by subst h0; simp)
      · obtain ⟨b, off, rfl, hc⟩ := ints_at hcell (by omega)
        refine .inr ⟨b, off, rfl, fun i y hy => ?_⟩
        have hi : i < len := by
          rcases Nat.lt_or_ge i len with h | h
          · exact h
          · rw [List.getElem?_eq_none (by omega)] at hy; cases hy
        rw [List.getElem?_take_of_lt hi] at hy
        rw [hc i (by omega)]
        simp [List.getD, hy]
    · intro n k e; injection e with e1; cases e1
set_option maxRecDepth 100000 in
theorem bys_param {H : Type} {enc : TypeId × Value → H} {w : World} {r : Reach} {b0 : Nat} {v : Value} {d : DataW H} {p : List MemPlace} (hv : Value.okWide Tryd.prog w r b0 27 v) (h : DataW.Trod enc Tryd.prog w 0 (fun _ => true) true 27 v d p) : ∃ l, IsBys w v l ∧ NilOk v := by
  obtain ⟨a, len, cap, rfl⟩ := okWide_slice Tryd.underlying27 hv
  obtain ⟨fuel, hf⟩ := h
  exact bys_open (x := (d, p)) (by simpa [Value.cells] using hf)
theorem bytesBy : Tryd.prog.bytesOf 5 = 1 := by kernel_rfl
theorem bys_w {H : Type} {enc : TypeId × Value → H} {w : World} {B : Nat} {v : Value} {d : DataW H} {p : List MemPlace} {l : List Int} (h : DataW.Trod enc Tryd.prog w 0 (fun _ => true) true 27 v d p) (hz : IsBys w v l) (hB : ∀ n ∈ d.weights Tryd.prog 27, n ≤ B) : l.length ≤ B := by
  obtain ⟨a', cap', rfl, _, _, _, _⟩ := hz
  obtain ⟨fuel, hf⟩ := h
  have hf' : DataW.trod enc Tryd.prog w 0 (fun _ => true) true fuel 27 [.slice a' l.length cap'] = some (d, p) := by simpa [Value.cells] using hf
  rcases open_slice Tryd.underlying27 hf' with ⟨hcs, _⟩ | ⟨a, len, cap, m, n, D, Pl, hcs, hb, hl, hm, hmm, hd, hx⟩
  · have e : Value.slice a' l.length cap' = .slice none 0 0 := by simpa using hcs
    injection e with _ e _
    omega
  · have e : Value.slice a' l.length cap' = .slice (some a) len cap := by simpa using hcs
    injection e with _ e _
    have := hB ((len + (m - len)) * Tryd.prog.bytesOf 5) (by rw [show d = _ from (Prod.mk.inj hd).1]; simp [DataW.weights, Tryd.underlying27])
    rw [bytesBy] at this
    omega
end Go.Proofs.YtaajlggpjholeahDoor
