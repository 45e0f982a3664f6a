/- What at of package mat and the closures that read one matrix come to. -/
import Derived.Test.YtjmmplpecmnlnaeMFill
import Derived.Test.YtjmmplpecmnlnaePlain
import Derived.Deep.RegionHeld3
namespace Go.Proofs.Ytjmmplpecmnlnae
open Go.RowKit
theorem idx_cell {m : Mx} {R C i j : Nat} (hl : m.cells.length = R * C) (hi : i < R) (hj : j < C) : m.cells[i * C + j]? = some ((m.cells[i * C + j]?).getD 0) := by
  have := idx_lt hi hj
  rw [List.getElem?_eq_getElem (by omega)]; rfl
set_option maxHeartbeats 400000 in
theorem at_any (v : Value) (m : Mx) (R C i j : Nat) (xi xj : Int) (w : World) (hv : IsMx w v m) (hc : m.cols = (C : Int)) (hR : R ≤ 24) (hC : C ≤ 24) (hl : m.cells.length = R * C) (hxi : xi = (i : Int)) (hxj : xj = (j : Int)) (hi : i < R) (hj : j < C) :
    Calls Try.prog 40 #[v, .int .i64 xi, .int .i64 xj] w fun e w' => e = .returned (.int .i64 ((m.cells[i * C + j]?).getD 0)) ∧ Below w.heap.size w w' := by
  obtain ⟨s, rfl, hs⟩ := hv
  have hx := idx_cell hl hi hj
  have hidx := idx_lt hi hj
  obtain ⟨x, ex⟩ : ∃ x, (m.cells[i * C + j]?).getD 0 = x := ⟨_, rfl⟩
  rw [ex] at hx ⊢
  have hn576 := Nat.mul_le_mul hR hC
  obtain ⟨aa, cap, rfl, h2, h3, h4⟩ := hs
  obtain ⟨b, off, rfl, hcl⟩ := h4.resolve_left (fun e => by rw [e] at hx; simp at hx)
  obtain ⟨c, ec⟩ : ∃ c, m.cols = c := ⟨_, rfl⟩
  obtain ⟨r, er⟩ : ∃ r, m.rows = r := ⟨_, rfl⟩
  rw [ec] at hc
  rw [ec, er]
  have cx : ∀ o, (w.alloc o).cell? ⟨b, off + (xi * c + xj).toNat, none⟩ = some (.int .i64 x) := fun o => by
    rw [idx_nat hxi hxj hc]; exact cell_past (hcl _ _ hx) o
  obtain ⟨N, hN⟩ : ∃ N, m.cells.length = N := ⟨_, rfl⟩
  have t3 : xi * c + xj < (N : Int) := by rw [mul_cast_idx hxi hxj hc]; omega
  have t1 := mul_bds hxi hc (by omega) hC
  have u1 := wrap_in (x := xi * c) (by omega) (by omega)
  have u2 := wrap_in (x := xi * c + xj) (by omega) (by omega)
  have g1 : 0 ≤ xi * c + xj := by omega
  rw [hN] at h2 ⊢
  have hN' : N ≤ 576 := by omega
  clear hx ex hcl h4 hl hxi hxj hc hidx hN hn576 ec er
  go_enter Try.func40, Try.ntmps40
  go_wp2
  go_ret
  exact ⟨rfl, below_one _ _⟩
/-- A variable that holds a matrix. -/
def BoxMx (w : World) (B : Nat) (m : Mx) : Prop := ∃ s, w.cell? ⟨B, 0, none⟩ = some (.int .i64 m.rows) ∧ w.cell? ⟨B, 1, none⟩ = some (.int .i64 m.cols) ∧ w.cell? ⟨B, 2, none⟩ = some s ∧ IsInts w s m.cells
theorem BoxMx.below {w w' : World} {B : Nat} {m : Mx} (h : BoxMx w B m) (hb : Below w.heap.size w w') : BoxMx w' B m := by
  obtain ⟨s, h0, h1, h2, h3⟩ := h
  exact ⟨s, cell_below hb h0, cell_below hb h1, cell_below hb h2, h3.below hb⟩
set_option maxHeartbeats 400000 in
theorem rows_gives (B F : Nat) (m : Mx) (R C f n : Nat) (xf : Int) (w : World) (hB : BoxMx w B m) (hF : w.cell? ⟨F, 0, none⟩ = some (.int .i64 xf)) (hxf : xf = (f : Int)) (hc : m.cols = (C : Int)) (hR : R ≤ 24) (hC : C ≤ 24) (hl : m.cells.length = R * C) (hfn : f + n ≤ R) :
    Gives 39 #[.pointer (some ⟨B, 0, none⟩), .pointer (some ⟨F, 0, none⟩)] n C (fun i j => (m.cells[(f + i) * C + j]?).getD 0) w := by
  intro W i j xi xj hxi hxj hi hj hb
  obtain ⟨s, d0, d1, d2, hs⟩ := hB.below hb
  have d3 := cell_below hb hF
  obtain ⟨sa, sn, sc, rfl⟩ := hs.shape
  have hm : IsMx W (.agg #[.int .i64 m.rows, .int .i64 m.cols, .slice sa sn sc]) m := ⟨_, rfl, hs⟩
  have HC := hide (at_any _ m R C (f + i) j (xf + xi) xj W hm hc hR hC hl (by omega) hxj (by omega) hj)
  have u1 := wrap_in (x := xf + xi) (by omega) (by omega)
  have b0 : 0 ≤ xf ∧ xf ≤ 24 := by omega
  have b1 : 0 ≤ xi ∧ xi ≤ 24 := by omega
  clear hs hm hb hB hl hc hxi hxj hF hxf
  go_enter Try.func39, Try.ntmps39
  go_wp2_with (go_at_call 40; refine HC.out.mono ?_; rintro e w1 ⟨rfl, hb1⟩)
  go_ret
  exact ⟨rfl, hb1⟩
end Go.Proofs.Ytjmmplpecmnlnae
