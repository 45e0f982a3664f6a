/- A matrix that came in, opened: a struct by value with a list of ints in it. -/
import Derived.Test.YtaajlggpjholeahDoorRows
import Derived.ProofKit
import Derived.OpenShut
import Derived.Lib.SmallJoins
import Derived.Test.YtaajlggpjholeahDoorPlain
namespace Go.Proofs.YtaajlggpjholeahDoor
open Go.ChangeShapes Go.WideShapes Go.ChangeAt Go.RowKit Go.Joins
theorem laidOut : laidOutB Tryd.prog = true := by kernel_rfl
theorem cellsMx : Tryd.prog.cellsOf 24 = 3 := by kernel_rfl
theorem cellsInt : Tryd.prog.cellsOf 3 = 1 := by kernel_rfl
/-- A list of ints that came in. -/
theorem ints_open {H : Type} {enc : TypeId × Value → H} {w : World} {held : Bool} {base fuel : Nat} {v : Value} {x : DataW H × List MemPlace} (h : DataW.trod enc Tryd.prog w base (fun _ => true) held fuel 22 [v] = some x) : ∃ zs, IsInts w v zs := by
  rcases open_ints Tryd.underlying22 Tryd.underlying3 cellsInt h with ⟨hcs, _⟩ | ⟨a, len, cap, zs, hcs, _, hl, hm, hz, _, hcell, _⟩
  · obtain rfl : v = .slice none 0 0 := by simpa using hcs
    exact ⟨[], IsInts.nil w⟩
  · obtain rfl : v = .slice (some a) len cap := by simpa using hcs
    have hz' : zs.length = cap := by simpa using hz
    have hlen : (zs.take len).length = len := by simp; omega
    refine ⟨zs.take len, some a, cap, by rw [hlen], by omega, hm, ?_⟩
    by_cases h0 : len = 0
    · exact .inl (by subst h0; simp)
    · obtain ⟨b, off, rfl, hc⟩ := ints_at hcell (by omega)
      refine .inr ⟨b, off, rfl, fun i y hy => ?_⟩
      have hi : i < len := by
        rcases Nat.lt_or_ge i len with h | h
        · exact h
        · rw [List.getElem?_eq_none (by omega)] at hy; cases hy
      rw [List.getElem?_take_of_lt hi] at hy
      rw [hc i (by omega)]
      simp [List.getD, hy]
set_option maxRecDepth 100000 in
theorem mx_open {H : Type} {enc : TypeId × Value → H} {w : World} {r : Reach} {b0 : Nat} {v : Value} {d : DataW H} {p : List MemPlace} (hv : Value.okWide Tryd.prog w r b0 24 v) (h : DataW.Trod enc Tryd.prog w 0 (fun _ => true) true 24 v d p) :
    ∃ m : Mx, IsMx w v m ∧ (Lit.int .i64 m.rows).wf = true ∧ (Lit.int .i64 m.cols).wf = true := by
  obtain ⟨v0, v1, v2, y0, y1, y2, n, rfl, rfl, rfl, h0, h1, h2⟩ := open_agg3 Tryd.underlying24 (by kernel_rfl) cellsMx hv h
  obtain ⟨a, e0, rfl, wa⟩ := DataW.trod_int Tryd.underlying3 h0
  obtain ⟨b, e1, rfl, wb⟩ := DataW.trod_int Tryd.underlying3 h1
  obtain ⟨zs, hz⟩ := ints_open h2
  simp at e0 e1
  subst e0 e1
  exact ⟨⟨a, b, zs⟩, ⟨v2, rfl, hz⟩, wa, wb⟩
end Go.Proofs.YtaajlggpjholeahDoor
