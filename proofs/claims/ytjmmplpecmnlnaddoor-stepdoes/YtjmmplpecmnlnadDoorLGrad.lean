/- What mulTurned and linearGrad of package layer come to. -/
import Derived.Test.YtjmmplpecmnlnadDoorLEnd
namespace Go.Proofs.YtjmmplpecmnlnadDoor
open Go.RowKit
theorem MxErr.fresh_any {w : World} {m : Mx} {j : Int} {e : Ending} {w' : World} (h : MxErr w m j e w') : ∀ v x, e = .returned (.tuple #[v, x]) → Fresh w.heap.size v := by
  intro v x he
  rw [he] at h
  exact h.fresh
set_option maxHeartbeats 800000 in
theorem multurned_any (va vb : Value) (a b : Mx) (w : World) (Ra Rb Cb : Nat) (ga0 : Good a Ra Cb) (gb0 : Good b Rb Cb) (hR : Rb ≤ 12) (h0 : IsMx w va a) (h1 : IsMx w vb b) :
    Calls Tryd.prog 117 #[va, vb] w (MxErr w (mulX a (turnX b)) 0) := by
  obtain ⟨s0, rfl, hs0⟩ := h0
  obtain ⟨s1, rfl, hs1⟩ := h1
  obtain ⟨za, zn, zk, rfl⟩ := hs0.shape
  obtain ⟨ga, gn, gk, rfl⟩ := hs1.shape
  obtain ⟨r, e1⟩ : ∃ r, a.rows = r := ⟨_, rfl⟩
  obtain ⟨c, e2⟩ : ∃ r, a.cols = r := ⟨_, rfl⟩
  obtain ⟨r', e3⟩ : ∃ r, b.rows = r := ⟨_, rfl⟩
  obtain ⟨c', e4⟩ : ∃ r, b.cols = r := ⟨_, rfl⟩
  have HT := hide (fun W (h : Below w.heap.size w W) => mturn_any _ b W ⟨_, rfl, hs1.below h⟩)
  have HE := hide (gb0.turn0 hR)
  have gt := gb0.turn hR
  obtain ⟨t, ht⟩ : ∃ t, turnX b = t := ⟨_, rfl⟩
  rw [ht] at HT gt ⊢
  have HM := hide (fun W v (hv : IsMx W v t) (h : Below w.heap.size w W) => mmul_any _ v a t W ⟨_, rfl, hs0.below h⟩ hv)
  have HE2 := hide (ga0.mul0 gt)
  obtain ⟨p, hp⟩ : ∃ p, mulX a t = p := ⟨_, rfl⟩
  rw [hp] at HM ⊢
  rw [e3, e4] at HT
  rw [e1, e2] at HM
  rw [e1, e2, e3, e4]
  obtain ⟨V, hV⟩ : ∃ V, V = (((w.alloc (.cells #[.int .i64 r, .int .i64 c, .slice za zn zk] 25)).alloc (.cells #[.int .i64 r', .int .i64 c', .slice ga gn gk] 25)).alloc (.cells #[.int .i64 0, .int .i64 0, .slice none 0 0] 25)) := ⟨_, rfl⟩
  have HV := hide hV
  have HBW : Hid (Below w.heap.size w V) := by rw [hV]; exact hide (below_next (below_next (below_one _ _) (below_one _ _)) (below_one _ _))
  have HBA : Hid (Box V w.heap.size [.int .i64 r, .int .i64 c, .slice za zn zk]) := by rw [hV]; exact hide (((Box.new w [.int .i64 r, .int .i64 c, .slice za zn zk] 25 rfl).below (below_one _ _)).below (below_one _ _))
  have HBB : Hid (Box V (w.heap.size + 1) [.int .i64 r', .int .i64 c', .slice ga gn gk]) := by rw [hV]; exact hide ((Box.new _ [.int .i64 r', .int .i64 c', .slice ga gn gk] 25 (by simp)).below (below_one _ _))
  have HQ : Hid (Box V (w.heap.size + 1 + 1) [.int .i64 0, .int .i64 0, .slice none 0 0]) := by rw [hV]; exact hide (Box.new _ [.int .i64 0, .int .i64 0, .slice none 0 0] 25 (by simp))
  have HFR : Hid (Free V (w.heap.size + 1 + 1)) := by rw [hV]; exact hide (Free.new _ _ 25 (by simp))
  have HL := hide HQ.out.lt
  clear hV
  clear hs0 hs1 e1 e2 e3 e4 ht hp gt ga0 gb0
  go_enter Tryd.func117, Tryd.ntmps117
  go_wp2_with fail
  rw [← HV.out]
  refine (HT.out _ HBW.out).mono ?_
  intro e w1 h
  obtain ⟨ta, tn, tk, rfl, htm, hb1⟩ := h.good HE.out
  have HD := hide (below_next hb1 (below_one w1 (.cells #[.int .i64 t.rows, .int .i64 t.cols, .slice ta tn tk] 25)))
  have HTM := hide (htm.below (below_one w1 (.cells #[.int .i64 t.rows, .int .i64 t.cols, .slice ta tn tk] 25)))
  clear h htm hb1 HT
  have d0 := (HBA.out.below HD.out) 0 _ rfl
  have d1 := (HBA.out.below HD.out) 1 _ rfl
  have d2 := (HBA.out.below HD.out) 2 _ rfl
  go_wp2_with fail
  refine (HM.out _ _ HTM.out (below_next HBW.out HD.out)).mono ?_
  intro e w2 h
  have HF := hide h.fresh_any
  obtain ⟨qa, qn, qk, rfl, hqm, hb2⟩ := h.good HE2.out
  have HN := hide hqm
  have HB2 := hide (below_next HD.out hb2)
  have HFV := hide (fresh_mono (HF.out _ _ rfl) HD.out.size)
  clear h hqm hb2 HM HF d0 d1 d2
  have p0 := (HQ.out.below HB2.out) 0 _ rfl
  have p1 := (HQ.out.below HB2.out) 1 _ rfl
  have p2 := (HQ.out.below HB2.out) 2 _ rfl
  have f0 := (HFR.out.below HB2.out HL.out) 0
  have f1 := (HFR.out.below HB2.out HL.out) 1
  have f2 := (HFR.out.below HB2.out HL.out) 2
  go_wp2
  obtain ⟨c1, c2, c3⟩ := errEnd HN.out HFV.out HBW.out (B := w.heap.size + 1 + 1) (by omega) HL.out HB2.out (.int .i64 p.rows) (.int .i64 p.cols) (.slice qa qn qk)
  exact bodyPost_ret (v := .tuple #[.agg #[.int .i64 p.rows, .int .i64 p.cols, .slice qa qn qk], .nilIface]) (by simp [results, Tryd.results117, go_sem, p0, p1, p2]) rfl ⟨_, rfl, c1, c2, c3⟩
/-- What linearGrad comes to. -/
def GradErr (w : World) (a b : Mx) (k : Int) (e : Ending) (w' : World) : Prop := ∃ d, e = .returned (.tuple #[d, errV k]) ∧ IsTwo w' d a b ∧ Below w.heap.size w w' ∧ Fresh2 w.heap.size d
set_option maxHeartbeats 1600000 in
theorem grad_far (va vb : Value) (a b : Mx) (w : World) (R C : Nat) (ga0 : Good a R C) (hR : 12 < R) (h0 : IsMx w va a) (h1 : IsMx w vb b) :
    Calls Tryd.prog 118 #[va, vb] w (GradErr w noMx noMx 1) := by
  obtain ⟨s0, rfl, hs0⟩ := h0
  obtain ⟨s1, rfl, hs1⟩ := h1
  obtain ⟨za, zn, zk, rfl⟩ := hs0.shape
  obtain ⟨ga, gn, gk, rfl⟩ := hs1.shape
  obtain ⟨r, e1⟩ : ∃ r, a.rows = r := ⟨_, rfl⟩
  obtain ⟨c, e2⟩ : ∃ r, a.cols = r := ⟨_, rfl⟩
  obtain ⟨r', e3⟩ : ∃ r, b.rows = r := ⟨_, rfl⟩
  obtain ⟨c', e4⟩ : ∃ r, b.cols = r := ⟨_, rfl⟩
  have HT := hide (fun W (h : Below w.heap.size w W) => mturn_any _ a W ⟨_, rfl, hs0.below h⟩)
  have h1 := ga0.turn1 hR
  rw [h1, turnX_no (by rw [h1]; decide), e1, e2] at HT
  rw [e1, e2, e3, e4]
  obtain ⟨V, hV⟩ : ∃ V, V = (((w.alloc (.cells #[.int .i64 r, .int .i64 c, .slice za zn zk] 25)).alloc (.cells #[.int .i64 r', .int .i64 c', .slice ga gn gk] 25)).alloc (.cells #[.int .i64 0, .int .i64 0, .slice none 0 0, .int .i64 0, .int .i64 0, .slice none 0 0] 57)) := ⟨_, rfl⟩
  have HV := hide hV
  have HBW : Hid (Below w.heap.size w V) := by rw [hV]; exact hide (below_next (below_next (below_one _ _) (below_one _ _)) (below_one _ _))
  have HBA : Hid (Box V w.heap.size [.int .i64 r, .int .i64 c, .slice za zn zk]) := by rw [hV]; exact hide (((Box.new w [.int .i64 r, .int .i64 c, .slice za zn zk] 25 rfl).below (below_one _ _)).below (below_one _ _))
  have HBB : Hid (Box V (w.heap.size + 1) [.int .i64 r', .int .i64 c', .slice ga gn gk]) := by rw [hV]; exact hide ((Box.new _ [.int .i64 r', .int .i64 c', .slice ga gn gk] 25 (by simp)).below (below_one _ _))
  have HQ : Hid (Box V (w.heap.size + 1 + 1) [.int .i64 0, .int .i64 0, .slice none 0 0, .int .i64 0, .int .i64 0, .slice none 0 0]) := by rw [hV]; exact hide (Box.new _ [.int .i64 0, .int .i64 0, .slice none 0 0, .int .i64 0, .int .i64 0, .slice none 0 0] 57 (by simp))
  have HFR : Hid (Free V (w.heap.size + 1 + 1)) := by rw [hV]; exact hide (Free.new _ _ 57 (by simp))
  have HL := hide HQ.out.lt
  clear hV
  clear hs0 hs1 e1 e2 e3 e4 ga0 h1 HBA HBB
  go_enter Tryd.func118, Tryd.ntmps118
  go_wp2_with fail
  rw [← HV.out]
  refine (HT.out _ HBW.out).mono ?_
  intro e w1 h
  obtain ⟨ta, tn, tk, rfl, htm, hb1⟩ := h.bad (by decide) rfl
  have HD := hide (below_next hb1 (below_one w1 (.cells #[.int .i64 0, .int .i64 0, .slice ta tn tk] 25)))
  clear h htm hb1 HT
  have p0 := (HQ.out.below HD.out) 0 _ rfl
  have p1 := (HQ.out.below HD.out) 1 _ rfl
  have p2 := (HQ.out.below HD.out) 2 _ rfl
  have p3 := (HQ.out.below HD.out) 3 _ rfl
  have p4 := (HQ.out.below HD.out) 4 _ rfl
  have p5 := (HQ.out.below HD.out) 5 _ rfl
  have f0 := (HFR.out.below HD.out HL.out) 0
  have f1 := (HFR.out.below HD.out HL.out) 1
  have f2 := (HFR.out.below HD.out HL.out) 2
  have f3 := (HFR.out.below HD.out HL.out) 3
  have f4 := (HFR.out.below HD.out HL.out) 4
  have f5 := (HFR.out.below HD.out HL.out) 5
  go_wp2
  exact bodyPost_ret (v := .tuple #[.agg #[.int .i64 0, .int .i64 0, .slice none 0 0, .int .i64 0, .int .i64 0, .slice none 0 0], .iface 30 (.int .i64 1)]) (by simp [results, Tryd.results118, go_sem, p0, p1, p2, p3, p4, p5]) rfl ⟨_, rfl, isTwo_no _, below6 (below_next HBW.out HD.out) (B := w.heap.size + 1 + 1) (by omega) _ _ _ _ _ _, fresh2_no _ _ _ _ _⟩
set_option maxHeartbeats 1600000 in
theorem grad_any (va vb : Value) (a b : Mx) (w : World) (R C Cb : Nat) (ga0 : Good a R C) (gb0 : Good b R Cb) (hR : R ≤ 12) (h0 : IsMx w va a) (h1 : IsMx w vb b) :
    Calls Tryd.prog 118 #[va, vb] w (GradErr w (mulX (turnX a) b) (sumsX b) 0) := by
  obtain ⟨s0, rfl, hs0⟩ := h0
  obtain ⟨s1, rfl, hs1⟩ := h1
  obtain ⟨za, zn, zk, rfl⟩ := hs0.shape
  obtain ⟨ga, gn, gk, rfl⟩ := hs1.shape
  obtain ⟨r, e1⟩ : ∃ r, a.rows = r := ⟨_, rfl⟩
  obtain ⟨c, e2⟩ : ∃ r, a.cols = r := ⟨_, rfl⟩
  obtain ⟨r', e3⟩ : ∃ r, b.rows = r := ⟨_, rfl⟩
  obtain ⟨c', e4⟩ : ∃ r, b.cols = r := ⟨_, rfl⟩
  have HT := hide (fun W (h : Below w.heap.size w W) => mturn_any _ a W ⟨_, rfl, hs0.below h⟩)
  have HE := hide (ga0.turn0 hR)
  have gt := ga0.turn hR
  obtain ⟨t, ht⟩ : ∃ t, turnX a = t := ⟨_, rfl⟩
  rw [ht] at HT gt ⊢
  have HM := hide (fun W v (hv : IsMx W v t) (h : Below w.heap.size w W) => mmul_any v _ t b W hv ⟨_, rfl, hs1.below h⟩)
  have HE2 := hide (gt.mul0 gb0)
  obtain ⟨p, hp⟩ : ∃ p, mulX t b = p := ⟨_, rfl⟩
  rw [hp] at HM ⊢
  have HS := hide (fun W (h : Below w.heap.size w W) => msums_any _ b W ⟨_, rfl, hs1.below h⟩)
  have HE3 := hide (show timesE b = 0 by unfold timesE; rw [if_neg (by simp [gb0.fault])])
  obtain ⟨q, hq⟩ : ∃ q, sumsX b = q := ⟨_, rfl⟩
  rw [hq] at HS ⊢
  rw [e1, e2] at HT
  rw [e3, e4] at HM HS
  rw [e1, e2, e3, e4]
  obtain ⟨V, hV⟩ : ∃ V, V = (((w.alloc (.cells #[.int .i64 r, .int .i64 c, .slice za zn zk] 25)).alloc (.cells #[.int .i64 r', .int .i64 c', .slice ga gn gk] 25)).alloc (.cells #[.int .i64 0, .int .i64 0, .slice none 0 0, .int .i64 0, .int .i64 0, .slice none 0 0] 57)) := ⟨_, rfl⟩
  have HV := hide hV
  have HBW : Hid (Below w.heap.size w V) := by rw [hV]; exact hide (below_next (below_next (below_one _ _) (below_one _ _)) (below_one _ _))
  have HBA : Hid (Box V w.heap.size [.int .i64 r, .int .i64 c, .slice za zn zk]) := by rw [hV]; exact hide (((Box.new w [.int .i64 r, .int .i64 c, .slice za zn zk] 25 rfl).below (below_one _ _)).below (below_one _ _))
  have HBB : Hid (Box V (w.heap.size + 1) [.int .i64 r', .int .i64 c', .slice ga gn gk]) := by rw [hV]; exact hide ((Box.new _ [.int .i64 r', .int .i64 c', .slice ga gn gk] 25 (by simp)).below (below_one _ _))
  have HQ : Hid (Box V (w.heap.size + 1 + 1) [.int .i64 0, .int .i64 0, .slice none 0 0, .int .i64 0, .int .i64 0, .slice none 0 0]) := by rw [hV]; exact hide (Box.new _ [.int .i64 0, .int .i64 0, .slice none 0 0, .int .i64 0, .int .i64 0, .slice none 0 0] 57 (by simp))
  have HFR : Hid (Free V (w.heap.size + 1 + 1)) := by rw [hV]; exact hide (Free.new _ _ 57 (by simp))
  have HL := hide HQ.out.lt
  clear hV
  clear hs0 hs1 e1 e2 e3 e4 ht hp hq gt ga0 gb0 HBA
  go_enter Tryd.func118, Tryd.ntmps118
  go_wp2_with fail
  rw [← HV.out]
  refine (HT.out _ HBW.out).mono ?_
  intro e w1 h
  obtain ⟨ta, tn, tk, rfl, htm, hb1⟩ := h.good HE.out
  have HD := hide (below_next hb1 (below_one w1 (.cells #[.int .i64 t.rows, .int .i64 t.cols, .slice ta tn tk] 25)))
  have HTM := hide (htm.below (below_one w1 (.cells #[.int .i64 t.rows, .int .i64 t.cols, .slice ta tn tk] 25)))
  clear h htm hb1 HT
  have d0 := (HBB.out.below HD.out) 0 _ rfl
  have d1 := (HBB.out.below HD.out) 1 _ rfl
  have d2 := (HBB.out.below HD.out) 2 _ rfl
  go_wp2_with fail
  refine (HM.out _ _ HTM.out (below_next HBW.out HD.out)).mono ?_
  intro e w2 h
  have HF := hide h.fresh_any
  obtain ⟨pa, pn, pk, rfl, hpm, hb2⟩ := h.good HE2.out
  have HPF := hide (fresh_mono (HF.out _ _ rfl) HD.out.size)
  have HD2 := hide (below_next (below_next HD.out hb2) (below_one w2 (.cells #[.int .i64 p.rows, .int .i64 p.cols, .slice pa pn pk] 25)))
  have HPM := hide (hpm.below (below_one w2 (.cells #[.int .i64 p.rows, .int .i64 p.cols, .slice pa pn pk] 25)))
  have HPB := hide (Box.new w2 [.int .i64 p.rows, .int .i64 p.cols, .slice pa pn pk] 25 rfl)
  clear h hpm hb2 HM HF d0 d1 d2 HTM
  have d0 := (HBB.out.below HD2.out) 0 _ rfl
  have d1 := (HBB.out.below HD2.out) 1 _ rfl
  have d2 := (HBB.out.below HD2.out) 2 _ rfl
  go_wp2_with fail
  refine (HS.out _ (below_next HBW.out HD2.out)).mono ?_
  intro e w3 h
  have HF := hide h.fresh_any
  obtain ⟨qa, qn, qk, rfl, hqm, hb3⟩ := h.good HE3.out
  have HQF := hide (fresh_mono (HF.out _ _ rfl) HD2.out.size)
  have D3 := below_next hb3 (below_one w3 (.cells #[.int .i64 q.rows, .int .i64 q.cols, .slice qa qn qk] 25))
  have HD3 := hide (below_next HD2.out D3)
  have HQM := hide (hqm.below (below_one w3 (.cells #[.int .i64 q.rows, .int .i64 q.cols, .slice qa qn qk] 25)))
  have HPM3 := hide (HPM.out.below D3)
  have HPB3 := hide (HPB.out.below D3)
  clear h hqm hb3 HS HF d0 d1 d2 D3 HPM HPB
  have d0 := HPB3.out 0 _ rfl
  have d1 := HPB3.out 1 _ rfl
  have d2 := HPB3.out 2 _ rfl
  have p0 := (HQ.out.below HD3.out) 0 _ rfl
  have p1 := (HQ.out.below HD3.out) 1 _ rfl
  have p2 := (HQ.out.below HD3.out) 2 _ rfl
  have p3 := (HQ.out.below HD3.out) 3 _ rfl
  have p4 := (HQ.out.below HD3.out) 4 _ rfl
  have p5 := (HQ.out.below HD3.out) 5 _ rfl
  have f0 := (HFR.out.below HD3.out HL.out) 0
  have f1 := (HFR.out.below HD3.out HL.out) 1
  have f2 := (HFR.out.below HD3.out HL.out) 2
  have f3 := (HFR.out.below HD3.out HL.out) 3
  have f4 := (HFR.out.below HD3.out HL.out) 4
  have f5 := (HFR.out.below HD3.out HL.out) 5
  go_wp2
  have HA := above6 (B := w.heap.size + 1 + 1) HL.out (Above.refl _ (w3.alloc (.cells #[.int .i64 q.rows, .int .i64 q.cols, .slice qa qn qk] 25))) (.int .i64 p.rows) (.int .i64 p.cols) (.slice pa pn pk) (.int .i64 q.rows) (.int .i64 q.cols) (.slice qa qn qk)
  exact bodyPost_ret (v := .tuple #[.agg #[.int .i64 p.rows, .int .i64 p.cols, .slice pa pn pk, .int .i64 q.rows, .int .i64 q.cols, .slice qa qn qk], .nilIface]) (by simp [results, Tryd.results118, go_sem, p0, p1, p2, p3, p4, p5]) rfl
    ⟨_, rfl, two_of (HPM3.out.ints.above HPF.out HA) (HQM.out.ints.above HQF.out HA), below6 (below_next HBW.out HD3.out) (B := w.heap.size + 1 + 1) (by omega) _ _ _ _ _ _, fresh2_of (fresh_mono HPF.out HBW.out.size) (fresh_mono HQF.out HBW.out.size)⟩
end Go.Proofs.YtjmmplpecmnlnadDoor
