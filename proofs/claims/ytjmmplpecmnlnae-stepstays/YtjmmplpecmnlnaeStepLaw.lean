/- A step: without Learn the net stays; without Keep what was does not matter; of nothing all stays. Plain facts, no program in sight. -/
import Derived.Test.YtjmmplpecmnlnaeStep
namespace Go.Proofs.Ytjmmplpecmnlnae
open Go.RowKit
theorem ends_cl {x : Int} (h : inEnds x = true) : cl x = x := by rw [ends_iff] at h; exact cl_in x h.1 h.2
theorem sb_zero {x : Int} (h : inEnds x = true) : sb x 0 = x := by
  have := ends_cl h
  unfold sb; rw [this, cl_in 0 (by omega) (by omega), Int.sub_zero, this]
theorem ml_nought (x : Int) : ml 0 x = 0 := by rw [ml_comm, ml_zero]
theorem Good.tabSelf {a : Mx} {R C : Nat} (g : Good a R C) : tab (R * C) (cellAt a) = a.cells := by rw [← g.l]; exact tab_list a.cells
/-- Without Learn a part stays. -/
theorem new_still {a s : Mx} {R C : Nat} (ga : Good a R C) (gs : Good s R C) : newX a s 0 = a := by
  rw [new_eq ga gs]
  refine mx_eq rfl rfl ?_
  show tab _ _ = _
  rw [← ga.tabSelf]
  exact tab_congr (fun q _ => by rw [ml_zero, sb_zero (cellAt_ends ga q)])
/-- Without Keep the new speed is what goes back. -/
theorem spd_by {v d : Mx} {R C : Nat} (gv : Good v R C) (gd : Good d R C) : spdX v d 0 = d := by
  rw [spd_eq gv gd]
  refine mx_eq (gv.r.trans gd.r.symm) (gv.c.trans gd.c.symm) ?_
  show tab _ _ = _
  rw [← gd.tabSelf]
  refine tab_congr (fun q _ => ?_)
  rw [ml_zero, ad_comm, ad_zero, ends_cl (cellAt_ends gd q)]
theorem good_nought {m : Mx} {R C : Nat} (g : Good m R C) : Good (zeroM m) R C := ⟨g.r, g.c, g.hR, g.hC, by show (tab _ _).length = _; rw [tab_len, g.l], by
  show (tab _ _).all inEnds = true
  exact tab_ends (fun q _ => by decide)⟩
theorem cell_nought (m : Mx) (q : Nat) : cellAt (zeroM m) q = 0 := by
  unfold cellAt zeroM
  by_cases h : q < m.cells.length
  · rw [tab_at h]; rfl
  · rw [List.getElem?_eq_none (by rw [tab_len]; omega)]; rfl
/-- Of nothing nothing comes. -/
theorem spd_nought {m : Mx} {R C : Nat} (g : Good m R C) (ke : Int) : spdX (zeroM m) (zeroM m) ke = zeroM m := by
  rw [spd_eq (good_nought g) (good_nought g)]
  refine mx_eq rfl rfl ?_
  show tab _ _ = tab _ _
  rw [g.l]
  refine tab_congr (fun q _ => ?_)
  rw [cell_nought, ml_nought, ad_zero]
  exact cl_in 0 (by omega) (by omega)
theorem new_nought {m : Mx} {R C : Nat} (g : Good m R C) (le : Int) : newX m (zeroM m) le = m := by
  rw [new_eq g (good_nought g)]
  refine mx_eq rfl rfl ?_
  show tab _ _ = _
  rw [← g.tabSelf]
  exact tab_congr (fun q _ => by rw [cell_nought, ml_nought, sb_zero (cellAt_ends g q)])
theorem stpE_cons {l : Ly} {p q : Mx × Mx} {ls : List Ly} {ps qs : List (Mx × Mx)} (h : stpE (l :: ls) (p :: ps) (q :: qs) = 0) : stp1E l p q = 0 ∧ stpE ls ps qs = 0 := by
  have h' : (if stp1E l p q ≠ 0 then stp1E l p q else stpE ls ps qs) = 0 := h
  by_cases h0 : stp1E l p q = 0
  · rw [if_neg (by simp [h0])] at h'; exact ⟨h0, h'⟩
  · rw [if_pos h0] at h'; exact absurd h' h0
theorem stp1_mk {l : Ly} {p q : Mx × Mx} {R C R2 C2 : Nat} (hl : lfault l = 0) (gw : Good l.w R C) (gb : Good l.b R2 C2) (g1 : Good p.1 R C) (g2 : Good p.2 R2 C2) (g3 : Good q.1 R C) (g4 : Good q.2 R2 C2) : stp1E l p q = 0 := by
  have sh : ∀ {a c : Mx} {R C : Nat}, Good a R C → Good c R C → sameSh a c = true := fun ga gc => decide_eq_true ⟨by rw [ga.r, gc.r], by rw [ga.c, gc.c]⟩
  unfold stp1E
  rw [hl, g1.fault, g2.fault, g3.fault, g4.fault, sh g1 gw, sh g2 gb, sh g3 gw, sh g4 gb]
  simp
theorem stpL_still (ke : Int) : ∀ (ls : List Ly) (ps qs : List (Mx × Mx)), ps.length = ls.length → qs.length = ls.length → stpE ls ps qs = 0 → stpL 0 ke ls ps qs = ls
  | [], _, _, _, _, _ => by unfold stpL; rfl
  | _ :: _, [], _, h, _, _ => by simp at h
  | _ :: _, _ :: _, [], _, h, _ => by simp at h
  | l :: ls, p :: ps, q :: qs, h1, h2, hE => by
    obtain ⟨e1, e2⟩ := stpE_cons hE
    obtain ⟨⟨R, C, gw, gp, gq⟩, ⟨R2, C2, gb, gp2, gq2⟩⟩ := stp1_sizes e1
    show stp1L l p q 0 ke :: stpL 0 ke ls ps qs = _
    rw [stpL_still ke ls ps qs (by simpa using h1) (by simpa using h2) e2]
    unfold stp1L
    rw [new_still gw (gp.spd gq ke), new_still gb (gp2.spd gq2 ke)]
theorem stp_by (le : Int) : ∀ (ls : List Ly) (ps qs : List (Mx × Mx)), ps.length = ls.length → qs.length = ls.length → stpE ls ps qs = 0 →
    stpE ls (zeroD ls) qs = 0 ∧ stpL le 0 ls ps qs = stpL le 0 ls (zeroD ls) qs ∧ stpG 0 ls ps qs = stpG 0 ls (zeroD ls) qs
  | [], _, _, _, _, _ => by simp [stpE, stpL, stpG]
  | _ :: _, [], _, h, _, _ => by simp at h
  | _ :: _, _ :: _, [], _, h, _ => by simp at h
  | l :: ls, p :: ps, q :: qs, h1, h2, hE => by
    obtain ⟨e1, e2⟩ := stpE_cons hE
    obtain ⟨⟨R, C, gw, gp, gq⟩, ⟨R2, C2, gb, gp2, gq2⟩⟩ := stp1_sizes e1
    obtain ⟨i1, i2, i3⟩ := stp_by le ls ps qs (by simpa using h1) (by simpa using h2) e2
    have ez : zeroD (l :: ls) = (zeroM l.w, zeroM l.b) :: zeroD ls := rfl
    have hz : stp1E l (zeroM l.w, zeroM l.b) q = 0 := stp1_mk (stp1_good e1).1 gw gb (good_nought gw) (good_nought gb) gq gq2
    rw [ez]
    refine ⟨?_, ?_, ?_⟩
    · show (if stp1E l (zeroM l.w, zeroM l.b) q ≠ 0 then stp1E l (zeroM l.w, zeroM l.b) q else stpE ls (zeroD ls) qs) = 0
      rw [if_neg (by simp [hz]), i1]
    · show stp1L l p q le 0 :: stpL le 0 ls ps qs = stp1L l (zeroM l.w, zeroM l.b) q le 0 :: stpL le 0 ls (zeroD ls) qs
      rw [i2]
      unfold stp1L
      rw [spd_by gp gq, spd_by gp2 gq2, spd_by (good_nought gw) gq, spd_by (good_nought gb) gq2]
    · show stp1G p q 0 :: stpG 0 ls ps qs = stp1G (zeroM l.w, zeroM l.b) q 0 :: stpG 0 ls (zeroD ls) qs
      rw [i3]
      unfold stp1G
      rw [spd_by gp gq, spd_by gp2 gq2, spd_by (good_nought gw) gq, spd_by (good_nought gb) gq2]
theorem stp_rest (le ke : Int) : ∀ (ls : List Ly) (ps qs : List (Mx × Mx)), ps.length = ls.length → qs.length = ls.length → stpE ls ps qs = 0 →
    stpE ls (zeroD ls) (zeroD ls) = 0 ∧ stpL le ke ls (zeroD ls) (zeroD ls) = ls ∧ stpG ke ls (zeroD ls) (zeroD ls) = zeroD ls
  | [], _, _, _, _, _ => by simp [stpE, stpL, stpG, zeroD]
  | _ :: _, [], _, h, _, _ => by simp at h
  | _ :: _, _ :: _, [], _, h, _ => by simp at h
  | l :: ls, p :: ps, q :: qs, h1, h2, hE => by
    obtain ⟨e1, e2⟩ := stpE_cons hE
    obtain ⟨⟨R, C, gw, gp, gq⟩, ⟨R2, C2, gb, gp2, gq2⟩⟩ := stp1_sizes e1
    obtain ⟨i1, i2, i3⟩ := stp_rest le ke ls ps qs (by simpa using h1) (by simpa using h2) e2
    have ez : zeroD (l :: ls) = (zeroM l.w, zeroM l.b) :: zeroD ls := rfl
    have hz : stp1E l (zeroM l.w, zeroM l.b) (zeroM l.w, zeroM l.b) = 0 := stp1_mk (stp1_good e1).1 gw gb (good_nought gw) (good_nought gb) (good_nought gw) (good_nought gb)
    rw [ez]
    refine ⟨?_, ?_, ?_⟩
    · show (if stp1E l (zeroM l.w, zeroM l.b) (zeroM l.w, zeroM l.b) ≠ 0 then stp1E l (zeroM l.w, zeroM l.b) (zeroM l.w, zeroM l.b) else stpE ls (zeroD ls) (zeroD ls)) = 0
      rw [if_neg (by simp [hz]), i1]
    · show stp1L l (zeroM l.w, zeroM l.b) (zeroM l.w, zeroM l.b) le ke :: stpL le ke ls (zeroD ls) (zeroD ls) = _
      rw [i2]
      unfold stp1L
      rw [spd_nought gw, spd_nought gb, new_nought gw, new_nought gb]
    · show stp1G (zeroM l.w, zeroM l.b) (zeroM l.w, zeroM l.b) ke :: stpG ke ls (zeroD ls) (zeroD ls) = _
      rw [i3]
      unfold stp1G
      rw [spd_nought gw, spd_nought gb]
theorem stE_mk {ls : List Ly} {ps qs : List (Mx × Mx)} {le ke : Int} (h0 : badR le ke = false) (h1 : ¬ 12 < ls.length) (h2 : ps.length = ls.length) (h3 : qs.length = ls.length) (h4 : stpE ls ps qs = 0) : stE ls ps qs le ke = 0 := by
  unfold stE
  rw [if_neg (by simp [h0]), if_neg h1, if_neg (by simp [h2, h3]), h4]
theorem badR_learn {le ke : Int} (h : badR le ke = false) : badR 0 ke = false ∧ badR le 0 = false := by
  simp [badR] at h ⊢
  omega
theorem zeroD_len (ls : List Ly) : (zeroD ls).length = ls.length := by unfold zeroD; rw [List.length_map]
/-- The law's four steps, where nothing is wrong with the first. -/
theorem stays_facts {ls : List Ly} {ps qs : List (Mx × Mx)} {le ke : Int} (h : stE ls ps qs le ke = 0) :
    (stE ls ps qs 0 ke = 0 ∧ doL ls ps qs 0 ke = ls) ∧
    (stE ls ps qs le 0 = 0 ∧ stE ls (zeroD ls) qs le 0 = 0 ∧ doL ls ps qs le 0 = doL ls (zeroD ls) qs le 0 ∧ doG ls ps qs le 0 = doG ls (zeroD ls) qs le 0) ∧
    (stE ls (zeroD ls) (zeroD ls) le ke = 0 ∧ doL ls (zeroD ls) (zeroD ls) le ke = ls ∧ doG ls (zeroD ls) (zeroD ls) le ke = zeroD ls) := by
  obtain ⟨h0, h1, h2, h3, h4⟩ := stE_zero h
  obtain ⟨r1, r2⟩ := badR_learn h0
  obtain ⟨b1, b2, b3⟩ := stp_by le ls ps qs h2 h3 h4
  obtain ⟨c1, c2, c3⟩ := stp_rest le ke ls ps qs h2 h3 h4
  have hz := zeroD_len ls
  have d1 := stE_mk r1 h1 h2 h3 h4
  have d2 := stE_mk r2 h1 h2 h3 h4
  have d3 := stE_mk r2 h1 hz h3 b1
  have d4 := stE_mk h0 h1 hz hz c1
  unfold doL doG
  rw [if_pos d1, if_pos d2, if_pos d3, if_pos d2, if_pos d3, if_pos d4, if_pos d4]
  exact ⟨⟨d1, stpL_still ke ls ps qs h2 h3 h4⟩, ⟨d2, d3, b2, b3⟩, ⟨d4, c2, c3⟩⟩
/-- The law's first step, of one number. -/
theorem stays_first : stE [⟨3, ⟨1, 1, [256]⟩, noMx⟩] (zeroD [⟨3, ⟨1, 1, [256]⟩, noMx⟩]) [(⟨1, 1, [512]⟩, noMx)] 128 0 = 0 ∧ doL [⟨3, ⟨1, 1, [256]⟩, noMx⟩] (zeroD [⟨3, ⟨1, 1, [256]⟩, noMx⟩]) [(⟨1, 1, [512]⟩, noMx)] 128 0 = [⟨3, ⟨1, 1, [0]⟩, noMx⟩] := by
  constructor
  · decide
  · rfl
end Go.Proofs.Ytjmmplpecmnlnae
