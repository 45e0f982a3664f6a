/- What checkAll of package mat comes to: the first fault of some matrices. -/
import Derived.Test.YtaajlggpjholeahDoorMCheck
import Derived.Test.YtaajlggpjholeahDoorPlain
namespace Go.Proofs.YtaajlggpjholeahDoor
open Go.RowKit
/-- A slice value that reads as these matrices. -/
def IsMxs (w : World) (v : Value) (ms : List Mx) : Prop :=
  ∃ (a : Option Addr) (cap : Nat), v = .slice a ms.length cap ∧ ms.length ≤ cap ∧ cap ≤ maxLen ∧ (ms = [] ∨ ∃ b off, a = some ⟨b, off, none⟩ ∧ ∀ i m, ms[i]? = some m →
    ∃ s, w.cell? ⟨b, off + i * 3, none⟩ = some (.int .i64 m.rows) ∧ w.cell? ⟨b, off + i * 3 + 1, none⟩ = some (.int .i64 m.cols) ∧ w.cell? ⟨b, off + i * 3 + 2, none⟩ = some s ∧ IsInts w s m.cells)
theorem cell_below {w w' : World} (hb : Below w.heap.size w w') {p : Addr} {v : Value} (h : w.cell? p = some v) : w'.cell? p = some v :=
  (hb.cell (p := p) (World.block_lt_of_cell? w _ h)).trans h
theorem IsMxs.below {w w' : World} {v : Value} {ms : List Mx} (h : IsMxs w v ms) (hb : Below w.heap.size w w') : IsMxs w' v ms := by
  obtain ⟨a, cap, h1, h2, h3, h4⟩ := h
  refine ⟨a, cap, h1, h2, h3, h4.imp id ?_⟩
  rintro ⟨b, off, ha, hc⟩
  refine ⟨b, off, ha, fun i m hm => ?_⟩
  obtain ⟨s, c0, c1, c2, hs⟩ := hc i m hm
  exact ⟨s, cell_below hb c0, cell_below hb c1, cell_below hb c2, hs.below hb⟩
theorem IsMxs.len {w : World} {v : Value} {zs : List Mx} (h : IsMxs w v zs) : zs.length ≤ maxLen := by
  obtain ⟨_, _, _, h2, h3, _⟩ := h; omega
theorem IsInts.shape {w : World} {v : Value} {zs : List Int} (h : IsInts w v zs) : ∃ a n cap, v = .slice a n cap := by
  obtain ⟨a, cap, h1, _⟩ := h; exact ⟨a, _, cap, h1⟩
/-- The first fault. -/
def faults : List Mx → Int
  | [] => 0
  | m :: l => if fault m = 0 then faults l else fault m
theorem faults_at {ms : List Mx} : ∀ {k : Nat} {m : Mx}, (∀ j x, j < k → ms[j]? = some x → fault x = 0) → ms[k]? = some m → fault m ≠ 0 → fault m = faults ms := by
  induction ms with
  | nil => intro k m _ h; simp at h
  | cons x l ih =>
    intro k m hz h hm
    cases k with
    | zero => simp at h; subst h; unfold faults; rw [if_neg hm]
    | succ k =>
      unfold faults
      rw [if_pos (hz 0 x (by omega) rfl)]
      exact ih (k := k) (fun j y (hj : j < k) (hy : l[j]? = some y) => hz (j + 1) y (by omega) (by simpa using hy)) (by simpa using h) hm
theorem faults_no {ms : List Mx} : (∀ (j : Nat) x, ms[j]? = some x → fault x = 0) → 0 = faults ms := by
  induction ms with
  | nil => intro _; rfl
  | cons x l ih =>
    intro hz
    unfold faults
    rw [if_pos (hz 0 x rfl)]
    exact ih (fun j y (hy : l[j]? = some y) => hz (j + 1) y (by simpa using hy))
theorem err_ne {k : Int} (h : k ≠ 0) : errV k = .iface 32 (.int .i64 k) := by unfold errV; rw [if_neg h]
theorem err_eq {k : Int} (h : k = 0) : errV k = .nilIface := by unfold errV; rw [if_pos h]
end Go.Proofs.YtaajlggpjholeahDoor
