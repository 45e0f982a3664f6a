/- Plain facts on what layers give: what Check takes. No program in sight. -/
import Derived.Test.YtjmmplpecmnlnaeLy
import Derived.Test.YtjmmplpecmnlnaePlain
namespace Go.Proofs.Ytjmmplpecmnlnae
/-- A layer that Check takes, by its kind and plain numbers. -/
inductive LyG (l : Ly) : Prop
  | lin (Rw Cw : Nat) (hk : l.k = 1) (gw : Good l.w Rw Cw) (gb : Good l.b 1 Cw) (h1 : 1 ≤ Rw) (h2 : Rw ≤ 12) (h3 : 1 ≤ Cw)
  | relu (hk : l.k = 2) (gw : Good l.w 0 0) (gb : Good l.b 0 0)
  | scale (hk : l.k = 3) (gw : Good l.w 1 1) (gb : Good l.b 0 0)
  | shift (Cb : Nat) (hk : l.k = 4) (gw : Good l.w 0 0) (gb : Good l.b 1 Cb) (h : 1 ≤ Cb)
theorem Good.same {m : Mx} {R C R' C' : Nat} (g : Good m R C) (h1 : R = R') (h2 : C = C') : Good m R' C' := by subst h1 h2; exact g
theorem lyG_of {l : Ly} (h : lfault l = 0) : LyG l := by
  obtain ⟨h1, h2, fw, fb, hf⟩ := lgood_of h
  obtain ⟨Rw, Cw, gw⟩ := good_of fw
  obtain ⟨Rb, Cb, gb⟩ := good_of fb
  have e1 := gw.r
  have e2 := gw.c
  have e3 := gb.r
  have e4 := gb.c
  unfold fitsL at hf
  by_cases k1 : l.k = 1
  · rw [if_pos k1] at hf
    have hf := of_decide_eq_true hf
    exact .lin Rw Cw k1 gw (gb.same (by omega) (by omega)) (by omega) (by omega) (by omega)
  · rw [if_neg k1] at hf
    by_cases k2 : l.k = 2
    · rw [if_pos k2] at hf
      have hf := of_decide_eq_true hf
      exact .relu k2 (gw.same (by omega) (by omega)) (gb.same (by omega) (by omega))
    · rw [if_neg k2] at hf
      by_cases k3 : l.k = 3
      · rw [if_pos k3] at hf
        have hf := of_decide_eq_true hf
        exact .scale k3 (gw.same (by omega) (by omega)) (gb.same (by omega) (by omega))
      · rw [if_neg k3] at hf
        have hf := of_decide_eq_true hf
        exact .shift Cb (by omega) (gw.same (by omega) (by omega)) (gb.same (by omega) rfl) (by omega)
theorem LyG.fault {l : Ly} (h : LyG l) : lfault l = 0 := by
  have go : ∀ {Rw Cw Rb Cb : Nat}, Good l.w Rw Cw → Good l.b Rb Cb → 1 ≤ l.k → l.k ≤ 4 → fitsL l = true → lfault l = 0 := by
    intro Rw Cw Rb Cb gw gb k1 k2 hf
    unfold lfault
    rw [if_neg (by omega), if_neg (by simp [gw.fault]), if_neg (by simp [gb.fault]), if_neg (by simp [hf])]
  cases h with
  | lin Rw Cw hk gw gb h1 h2 h3 => exact go gw gb (by omega) (by omega) (by unfold fitsL; rw [if_pos hk, gw.r, gw.c, gb.r, gb.c]; simp; omega)
  | relu hk gw gb => exact go gw gb (by omega) (by omega) (by unfold fitsL; rw [if_neg (by omega), if_pos hk, gw.r, gw.c, gb.r, gb.c]; simp)
  | scale hk gw gb => exact go gw gb (by omega) (by omega) (by unfold fitsL; rw [if_neg (by omega), if_neg (by omega), if_pos hk, gw.r, gw.c, gb.r, gb.c]; simp)
  | shift Cb hk gw gb h1 => exact go gw gb (by omega) (by omega) (by unfold fitsL; rw [if_neg (by omega), if_neg (by omega), if_neg (by omega), gw.r, gw.c, gb.r, gb.c]; simp; omega)
theorem goE_zero {l : Ly} {x : Mx} (h : goE l x = 0) : lfault l = 0 ∧ Go.Proofs.Ytjmmplpecmnlnae.fault x = 0 ∧ takesL l x.cols = true := by
  unfold goE at h
  by_cases h1 : lfault l ≠ 0
  · rw [if_pos h1] at h; exact absurd h h1
  · rw [if_neg h1] at h
    by_cases h2 : Go.Proofs.Ytjmmplpecmnlnae.fault x ≠ 0
    · rw [if_pos h2] at h; exact absurd h h2
    · rw [if_neg h2] at h
      by_cases h3 : takesL l x.cols = false
      · rw [if_pos h3] at h; cases h
      · exact ⟨Decidable.not_not.1 h1, Decidable.not_not.1 h2, by simpa using h3⟩
theorem goE_of {l : Ly} {x : Mx} (h1 : lfault l = 0) (h2 : Go.Proofs.Ytjmmplpecmnlnae.fault x = 0) (h3 : takesL l x.cols = true) : goE l x = 0 := by
  unfold goE; rw [if_neg (by simp [h1]), if_neg (by simp [h2]), if_neg (by simp [h3])]
theorem backE_zero {l : Ly} {x g : Mx} (h : backE l x g = 0) : goE l x = 0 ∧ Go.Proofs.Ytjmmplpecmnlnae.fault g = 0 ∧ g.rows = x.rows ∧ g.cols = givesL l x.cols ∧ ¬ (l.k = 1 ∧ 12 < x.rows) := by
  unfold backE at h
  by_cases h1 : goE l x ≠ 0
  · rw [if_pos h1] at h; exact absurd h h1
  · rw [if_neg h1] at h
    by_cases h2 : Go.Proofs.Ytjmmplpecmnlnae.fault g ≠ 0
    · rw [if_pos h2] at h; exact absurd h h2
    · rw [if_neg h2] at h
      by_cases h3 : g.rows ≠ x.rows ∨ g.cols ≠ givesL l x.cols
      · rw [if_pos h3] at h; cases h
      · rw [if_neg h3] at h
        by_cases h4 : l.k = 1 ∧ 12 < x.rows
        · rw [if_pos h4] at h; cases h
        · exact ⟨Decidable.not_not.1 h1, Decidable.not_not.1 h2, by omega, by omega, h4⟩
theorem backE_of {l : Ly} {x g : Mx} (h1 : goE l x = 0) (h2 : Go.Proofs.Ytjmmplpecmnlnae.fault g = 0) (h3 : g.rows = x.rows) (h4 : g.cols = givesL l x.cols) (h5 : ¬ (l.k = 1 ∧ 12 < x.rows)) : backE l x g = 0 := by
  unfold backE; rw [if_neg (by simp [h1]), if_neg (by simp [h2]), if_neg (by omega), if_neg h5]
theorem cellAt_ends {m : Mx} {R C : Nat} (g : Good m R C) (q : Nat) : inEnds (cellAt m q) = true := getD_ends g.e q
theorem each_eq {a : Mx} {R C : Nat} (g : Good a R C) (f : Nat → Int) : eachX a f = ⟨R, C, tab (R * C) f⟩ := by unfold eachX; rw [g.r, g.c, g.l]
theorem Good.each {a : Mx} {R C : Nat} (g : Good a R C) {f : Nat → Int} (hf : ∀ q, q < R * C → inEnds (f q) = true) : Good (eachX a f) R C := by
  rw [each_eq g]; exact ⟨rfl, rfl, g.hR, g.hC, tab_len _ _, tab_ends hf⟩
theorem cellAt_each {a : Mx} {R C : Nat} (g : Good a R C) (f : Nat → Int) {q : Nat} (hq : q < R * C) : cellAt (eachX a f) q = f q := by
  unfold cellAt; rw [each_eq g]; exact tab_get hq
theorem Good.addRows {a b : Mx} {R C : Nat} (g : Good a R C) : Good (addRows a b) R C := g.each (fun q _ => by rw [ends_iff]; exact ad_bd _ _)
theorem max_ends {x : Int} (h : inEnds x = true) : inEnds (max x 0) = true := by rw [ends_iff] at h ⊢; omega
theorem Good.relu {a : Mx} {R C : Nat} (g : Good a R C) : Good (reluX a) R C := g.each (fun q _ => max_ends (cellAt_ends g q))
theorem Good.reluB {x a : Mx} {R C : Nat} (g : Good a R C) : Good (reluB x a) R C := g.each (fun q _ => by split; exact cellAt_ends g q; decide)
theorem Good.copy {a : Mx} {R C : Nat} (g : Good a R C) : Good (eachX a (cellAt a)) R C := g.each (fun q _ => cellAt_ends g q)
theorem each_self {a : Mx} {R C : Nat} (g : Good a R C) : eachX a (cellAt a) = a := by
  obtain ⟨r, c, cs⟩ := a
  unfold eachX cellAt
  simp only [tab_list]
theorem times_each {a : Mx} {R C : Nat} (g : Good a R C) (x : Int) : timesX a x = eachX a (fun q => ml (cellAt a q) x) := by
  rw [each_eq g]
  have e : timesE a = 0 := by unfold timesE; rw [if_neg (by simp [g.fault])]
  unfold timesX
  rw [if_pos e, g.r, g.c]
  simp [cellAt]
theorem Good.times {a : Mx} {R C : Nat} (g : Good a R C) (x : Int) : Good (timesX a x) R C := by
  rw [times_each g]; exact g.each (fun q _ => by rw [ends_iff]; exact ml_bd _ _)
theorem takes_lin {l : Ly} {n : Int} (hk : l.k = 1) (h : takesL l n = true) : n = l.w.rows := by unfold takesL at h; rw [if_pos hk] at h; exact of_decide_eq_true h
theorem takes_shift {l : Ly} {n : Int} (hk : l.k = 4) (h : takesL l n = true) : n = l.b.cols := by unfold takesL at h; rw [if_neg (by omega), if_pos hk] at h; exact of_decide_eq_true h
/-- What Go gives is such as Check takes; its columns are as Wide says. -/
theorem go_good {l : Ly} {x : Mx} {R C : Nat} (gx : Good x R C) (h : goE l x = 0) : ∃ C', Good (goX l x) R C' ∧ givesL l x.cols = (C' : Int) := by
  obtain ⟨hl, _, ht⟩ := goE_zero h
  unfold goX
  rw [if_pos h]
  unfold goG givesL
  cases lyG_of hl with
  | lin Rw Cw hk gw gb h1 h2 h3 =>
    have e := takes_lin hk ht
    rw [if_pos hk, if_pos hk]
    exact ⟨Cw, ((gx.same (R' := R) (C' := Rw) rfl (by have := gx.c; have := gw.r; omega)).mul gw).addRows, gw.c⟩
  | relu hk gw gb => rw [if_neg (by omega), if_pos hk, if_neg (by omega)]; exact ⟨C, gx.relu, gx.c⟩
  | scale hk gw gb => rw [if_neg (by omega), if_neg (by omega), if_pos hk, if_neg (by omega)]; exact ⟨C, gx.times _, gx.c⟩
  | shift Cb hk gw gb h1 => rw [if_neg (by omega), if_neg (by omega), if_neg (by omega), if_neg (by omega)]; exact ⟨C, gx.addRows, gx.c⟩
theorem back_good {l : Ly} {x g : Mx} {R C : Nat} (gx : Good x R C) (h : backE l x g = 0) : ∃ Cg, Good g R Cg ∧ givesL l x.cols = (Cg : Int) ∧ Good (backX l x g) R C := by
  obtain ⟨hg, fg, e1, e2, h4⟩ := backE_zero h
  obtain ⟨hl, _, ht⟩ := goE_zero hg
  obtain ⟨Rg, Cg, gg⟩ := good_of fg
  have gg := gg.same (R' := R) (C' := Cg) (by have := gg.r; have := gx.r; omega) rfl
  refine ⟨Cg, gg, by rw [← e2]; exact gg.c, ?_⟩
  unfold backX
  rw [if_pos h]
  unfold backG
  unfold givesL at e2
  cases lyG_of hl with
  | lin Rw Cw hk gw gb h1 h2 h3 =>
    have e := takes_lin hk ht
    rw [if_pos hk] at e2 ⊢
    have gt := gw.turn h2
    have := (gg.same (R' := R) (C' := Cw) rfl (by have := gg.c; have := gw.c; omega)).mul gt
    exact this.same rfl (by have := gx.c; have := gw.r; omega)
  | relu hk gw gb => rw [if_neg (by omega)] at e2; rw [if_neg (by omega), if_pos hk]; exact (gg.same rfl (by have := gx.c; have := gg.c; omega)).reluB
  | scale hk gw gb => rw [if_neg (by omega)] at e2; rw [if_neg (by omega), if_neg (by omega), if_pos hk]; exact (gg.same rfl (by have := gx.c; have := gg.c; omega)).times _
  | shift Cb hk gw gb h1 => rw [if_neg (by omega)] at e2; rw [if_neg (by omega), if_neg (by omega), if_neg (by omega)]; exact (gg.same rfl (by have := gx.c; have := gg.c; omega)).copy
end Go.Proofs.Ytjmmplpecmnlnae
