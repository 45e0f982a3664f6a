/- Plain facts on what layers give: rows do not mind one another. No program in sight. -/
import Derived.Test.YtkncgelkbpeagacLyGood
import Derived.Test.YtkncgelkbpeagacApart
namespace Go.Proofs.Ytkncgelkbpeagac
theorem cellAt_rows {a : Mx} {R C : Nat} (g : Good a R C) {f t q : Nat} (h1 : f ≤ t) (h2 : t ≤ R) (hq : q < (t - f) * C) : cellAt (rowsX a (f : Int) (t : Int)) q = cellAt a (f * C + q) := by
  unfold cellAt
  rw [g.rowsEq h1 h2]
  show ((tab _ _)[_]?).getD 0 = _
  rw [tab_get hq]
theorem rows_lt {R C f t q : Nat} (h1 : f ≤ t) (h2 : t ≤ R) (hq : q < (t - f) * C) : f * C + q < R * C := by
  have e : f * C + (t - f) * C = t * C := by rw [← Nat.add_mul]; congr 1; omega
  have := Nat.mul_le_mul_right C h2
  omega
theorem rows_each {a : Mx} {R C : Nat} (g : Good a R C) {f h : Nat → Int} (he : Good (eachX a h) R C) {f0 t : Nat} (h1 : f0 ≤ t) (h2 : t ≤ R) (e : ∀ q, q < (t - f0) * C → f q = h (f0 * C + q)) :
    eachX (rowsX a (f0 : Int) (t : Int)) f = rowsX (eachX a h) (f0 : Int) (t : Int) := by
  rw [each_eq (g.rows h1 h2), he.rowsEq h1 h2, each_eq g]
  congr 1
  refine tab_congr (fun q hq => ?_)
  rw [e q hq]
  show _ = ((tab (R * C) h)[_]?).getD 0
  rw [tab_get (rows_lt h1 h2 hq)]
theorem rows_addRows {a b : Mx} {R C f t : Nat} (g : Good a R C) (gb : Good b 1 C) (h1 : f ≤ t) (h2 : t ≤ R) : Go.Proofs.Ytkncgelkbpeagac.addRows (rowsX a (f : Int) (t : Int)) b = rowsX (Go.Proofs.Ytkncgelkbpeagac.addRows a b) (f : Int) (t : Int) := by
  refine rows_each g g.addRows h1 h2 (fun q hq => ?_)
  rw [cellAt_rows g h1 h2 hq, gb.c, Int.toNat_natCast, Nat.mul_comm f C, Nat.mul_add_mod]
theorem rows_relu {a : Mx} {R C f t : Nat} (g : Good a R C) (h1 : f ≤ t) (h2 : t ≤ R) : reluX (rowsX a (f : Int) (t : Int)) = rowsX (reluX a) (f : Int) (t : Int) :=
  rows_each g g.relu h1 h2 (fun q hq => by rw [cellAt_rows g h1 h2 hq])
theorem rows_reluB {x a : Mx} {R C f t : Nat} (gx : Good x R C) (g : Good a R C) (h1 : f ≤ t) (h2 : t ≤ R) : Go.Proofs.Ytkncgelkbpeagac.reluB (rowsX x (f : Int) (t : Int)) (rowsX a (f : Int) (t : Int)) = rowsX (Go.Proofs.Ytkncgelkbpeagac.reluB x a) (f : Int) (t : Int) :=
  rows_each g g.reluB h1 h2 (fun q hq => by rw [cellAt_rows g h1 h2 hq, cellAt_rows gx h1 h2 hq])
theorem rows_copy {a : Mx} {R C f t : Nat} (g : Good a R C) (h1 : f ≤ t) (h2 : t ≤ R) : eachX (rowsX a (f : Int) (t : Int)) (cellAt (rowsX a (f : Int) (t : Int))) = rowsX (eachX a (cellAt a)) (f : Int) (t : Int) := by
  rw [each_self g, each_self (g.rows h1 h2)]
theorem rows_times {a : Mx} {R C f t : Nat} (g : Good a R C) (x : Int) (h1 : f ≤ t) (h2 : t ≤ R) : timesX (rowsX a (f : Int) (t : Int)) x = rowsX (timesX a x) (f : Int) (t : Int) := by
  rw [times_each (g.rows h1 h2), times_each g]
  refine rows_each g ?_ h1 h2 (fun q hq => by rw [cellAt_rows g h1 h2 hq])
  rw [← times_each g]; exact g.times x
/-- Go of some rows are those rows of Go. -/
theorem rows_go {l : Ly} {x : Mx} {R C f t : Nat} (gx : Good x R C) (h : goE l x = 0) (h1 : f ≤ t) (h2 : t ≤ R) : goE l (rowsX x (f : Int) (t : Int)) = 0 ∧ goX l (rowsX x (f : Int) (t : Int)) = rowsX (goX l x) (f : Int) (t : Int) := by
  obtain ⟨hl, _, ht⟩ := goE_zero h
  have gr := gx.rows h1 h2
  have h' : goE l (rowsX x (f : Int) (t : Int)) = 0 := goE_of hl gr.fault (by rw [gr.c, ← gx.c]; exact ht)
  refine ⟨h', ?_⟩
  unfold goX
  rw [if_pos h, if_pos h']
  unfold goG
  cases lyG_of hl with
  | lin Rw Cw hk gw gb _ _ _ =>
    have e := takes_lin hk ht
    rw [if_pos hk, if_pos hk]
    have gx' := gx.same (R' := R) (C' := Rw) rfl (by have := gx.c; have := gw.r; omega)
    rw [rows_mul gx' gw h1 h2, rows_addRows (gx'.mul gw) gb h1 h2]
  | relu hk gw gb => rw [if_neg (by omega), if_pos hk, if_neg (by omega), if_pos hk]; exact rows_relu gx h1 h2
  | scale hk gw gb => rw [if_neg (by omega), if_neg (by omega), if_pos hk, if_neg (by omega), if_neg (by omega), if_pos hk]; exact rows_times gx _ h1 h2
  | shift Cb hk gw gb _ =>
    have e := takes_shift hk ht
    rw [if_neg (by omega), if_neg (by omega), if_neg (by omega), if_neg (by omega), if_neg (by omega), if_neg (by omega)]
    exact rows_addRows gx (gb.same rfl (by have := gx.c; have := gb.c; omega)) h1 h2
/-- What goes back to some rows are those rows of what goes back. -/
theorem rows_back {l : Ly} {x g : Mx} {R C f t : Nat} (gx : Good x R C) (h : backE l x g = 0) (h1 : f ≤ t) (h2 : t ≤ R) : backE l (rowsX x (f : Int) (t : Int)) (rowsX g (f : Int) (t : Int)) = 0 ∧ backX l (rowsX x (f : Int) (t : Int)) (rowsX g (f : Int) (t : Int)) = rowsX (backX l x g) (f : Int) (t : Int) := by
  obtain ⟨Cg, gg, eg, gb'⟩ := back_good gx h
  obtain ⟨hg, fg, e1, e2, h4⟩ := backE_zero h
  obtain ⟨hl, _, ht⟩ := goE_zero hg
  have gr := gx.rows h1 h2
  have gs := gg.rows h1 h2
  have h' : backE l (rowsX x (f : Int) (t : Int)) (rowsX g (f : Int) (t : Int)) = 0 := by
    refine backE_of (rows_go gx hg h1 h2).1 gs.fault (by rw [gs.r, gr.r]) (by rw [gs.c, gr.c, ← gx.c]; exact eg.symm) (fun e => h4 ⟨e.1, ?_⟩)
    have := e.2
    rw [gr.r] at this
    rw [gx.r]; omega
  refine ⟨h', ?_⟩
  unfold backX
  rw [if_pos h, if_pos h']
  unfold backG
  unfold givesL at e2
  cases lyG_of hl with
  | lin Rw Cw hk gw gb _ hw _ =>
    rw [if_pos hk] at e2
    rw [if_pos hk, if_pos hk]
    exact rows_mul (gg.same (R' := R) (C' := Cw) rfl (by have := gg.c; have := gw.c; omega)) (gw.turn hw) h1 h2
  | relu hk gw gb =>
    rw [if_neg (by omega)] at e2
    rw [if_neg (by omega), if_pos hk, if_neg (by omega), if_pos hk]; exact rows_reluB gx (gg.same rfl (by have := gx.c; have := gg.c; omega)) h1 h2
  | scale hk gw gb => rw [if_neg (by omega), if_neg (by omega), if_pos hk, if_neg (by omega), if_neg (by omega), if_pos hk]; exact rows_times gg _ h1 h2
  | shift Cb hk gw gb _ => rw [if_neg (by omega), if_neg (by omega), if_neg (by omega), if_neg (by omega), if_neg (by omega), if_neg (by omega)]; exact rows_copy gg h1 h2
end Go.Proofs.Ytkncgelkbpeagac
