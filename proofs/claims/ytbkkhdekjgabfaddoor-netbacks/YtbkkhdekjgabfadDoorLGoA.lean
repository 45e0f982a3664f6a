/- What Check, Wide, Go and Back of package layer come to, for every layer and every matrix. -/
import Derived.Test.YtbkkhdekjgabfadDoorLAt
namespace Go.Proofs.YtbkkhdekjgabfadDoor
open Go.RowKit
set_option maxHeartbeats 1600000 in
theorem lgo_linear (l : Ly) {xa : Option Addr} {xn xk : Nat} {ya : Option Addr} {yn yk : Nat} (x : Mx) (vx : Value) (w : World) (hk : l.k = 1) (hs : IsInts w (.slice xa xn xk) l.w.cells) (ht : IsInts w (.slice ya yn yk) l.b.cells) (hx : IsMx w vx x) :
    Calls Tryd.prog 25 #[.agg #[.int .i64 1, .int .i64 l.w.rows, .int .i64 l.w.cols, .slice xa xn xk, .int .i64 l.b.rows, .int .i64 l.b.cols, .slice ya yn yk], vx] w (MxErr w (goX l x) (goE l x)) := by
  obtain ⟨sx, rfl, hsx⟩ := hx
  obtain ⟨za, zn, zk, rfl⟩ := hsx.shape
  obtain ⟨r, e5⟩ : ∃ r, x.rows = r := ⟨_, rfl⟩
  obtain ⟨c, e6⟩ : ∃ r, x.cols = r := ⟨_, rfl⟩
  obtain ⟨wr, e1⟩ : ∃ r, l.w.rows = r := ⟨_, rfl⟩
  obtain ⟨wc, e2⟩ : ∃ r, l.w.cols = r := ⟨_, rfl⟩
  obtain ⟨br, e3⟩ : ∃ r, l.b.rows = r := ⟨_, rfl⟩
  obtain ⟨bc, e4⟩ : ∃ r, l.b.cols = r := ⟨_, rfl⟩
  have HR := hide (fun W (h : Below w.heap.size w W) => ready_linear l x _ W hk (hs.below h) (ht.below h) ⟨_, rfl, hsx.below h⟩)
  have HFO := hide (fun W (h : Below w.heap.size w W) (h0 : goE l x = 0) => forth_at_linear l x _ W hk h0 (hs.below h) (ht.below h) ⟨_, rfl, hsx.below h⟩)
  rw [e1, e2, e3, e4, e5, e6] at HR HFO
  rw [e1, e2, e3, e4, e5, e6]
  obtain ⟨q, hq⟩ : ∃ q, goX l x = q := ⟨_, rfl⟩
  obtain ⟨E, hE0⟩ : ∃ E, goE l x = E := ⟨_, rfl⟩
  obtain ⟨cw, hcw⟩ : ∃ cw, goW l x = cw := ⟨_, rfl⟩
  have HQE := hide (And.intro hq hE0)
  rw [hE0, hcw] at HR
  rw [hq, hE0] at HFO ⊢
  clear hq hE0 hcw
  have hm : ∀ W : World, (method 276 123 (.agg #[.int .i64 wr, .int .i64 wc, .slice xa xn xk, .int .i64 br, .int .i64 bc, .slice ya yn yk]) "galley/layer.forth").run Tryd.prog W = .ok (94, .agg #[.int .i64 wr, .int .i64 wc, .slice xa xn xk, .int .i64 br, .int .i64 bc, .slice ya yn yk]) W := fun _ => by kernel_rfl
  obtain ⟨V, hV⟩ : ∃ V, V = (((w.alloc (.cells #[.int .i64 1, .int .i64 wr, .int .i64 wc, .slice xa xn xk, .int .i64 br, .int .i64 bc, .slice ya yn yk] 55)).alloc (.cells #[.int .i64 r, .int .i64 c, .slice za zn zk] 25)).alloc (.cells #[.int .i64 0, .int .i64 0, .slice none 0 0] 25)) := ⟨_, rfl⟩
  have HV := hide hV
  have HBW : Hid (Below w.heap.size w V) := by rw [hV]; exact hide (below_next (below_next (below_one _ _) (below_one _ _)) (below_one _ _))
  have HBX : Hid (Box V (w.heap.size + 1) [.int .i64 r, .int .i64 c, .slice za zn zk]) := by rw [hV]; exact hide ((Box.new _ [.int .i64 r, .int .i64 c, .slice za zn zk] 25 (by simp)).below (below_one _ _))
  have HQ : Hid (Box V (w.heap.size + 1 + 1) [.int .i64 0, .int .i64 0, .slice none 0 0]) := by rw [hV]; exact hide (Box.new _ [.int .i64 0, .int .i64 0, .slice none 0 0] 25 (by simp))
  have HFR : Hid (Free V (w.heap.size + 1 + 1)) := by rw [hV]; exact hide (Free.new _ _ 25 (by simp))
  have HL := hide HQ.out.lt
  clear hs ht hsx e1 e2 e3 e4 e5 e6 hk hV
  go_enter Tryd.func25, Tryd.ntmps25
  go_wp2_with fail
  rw [← HV.out]
  refine (HR.out _ HBW.out).mono ?_
  rintro e w1 ⟨rfl, hb1⟩
  have HB1 := hide hb1
  clear hb1 HR
  by_cases hE : E = 0
  · subst hE
    rw [← kindR_yes rfl, err_eq rfl]
    have HF := hide (fun W (h : Below w.heap.size w W) => HFO.out W h rfl)
    clear HFO
    have d0 := (HBX.out.below HB1.out) 0 _ rfl
    have d1 := (HBX.out.below HB1.out) 1 _ rfl
    have d2 := (HBX.out.below HB1.out) 2 _ rfl
    go_wp2_with fail
    refine (HF.out _ (below_next HBW.out HB1.out)).mono ?_
    rintro e w2 ⟨v', rfl, hm', hb2, hf⟩
    obtain ⟨s', rfl, hs'⟩ := hm'
    obtain ⟨qa, qn, qk, rfl⟩ := hs'.shape
    rw [err_eq rfl]
    have HN := hide (show IsMx w2 (.agg #[.int .i64 q.rows, .int .i64 q.cols, .slice qa qn qk]) q from ⟨_, rfl, hs'⟩)
    have HFV := hide (fresh_mono hf HB1.out.size)
    have HB2 := hide (below_next HB1.out hb2)
    clear hs' hb2 hf HF d0 d1 d2
    have p0 := (HQ.out.below HB2.out) 0 _ rfl
    have p1 := (HQ.out.below HB2.out) 1 _ rfl
    have p2 := (HQ.out.below HB2.out) 2 _ rfl
    have f0 := (HFR.out.below HB2.out HL.out) 0
    have f1 := (HFR.out.below HB2.out HL.out) 1
    have f2 := (HFR.out.below HB2.out HL.out) 2
    go_wp2
    obtain ⟨c1, c2, c3⟩ := errEnd HN.out HFV.out HBW.out (B := w.heap.size + 1 + 1) (by omega) HL.out HB2.out (.int .i64 q.rows) (.int .i64 q.cols) (.slice qa qn qk)
    exact bodyPost_ret (v := .tuple #[.agg #[.int .i64 q.rows, .int .i64 q.cols, .slice qa qn qk], .nilIface]) (by simp [results, Tryd.results25, go_sem, p0, p1, p2]) rfl ⟨_, rfl, c1, c2, c3⟩
  · rw [← kindR_no hE, err_ne hE]
    have HE := hide hE
    obtain rfl : q = noMx := by rw [← HQE.out.1]; exact goX_no (by rw [HQE.out.2]; exact hE)
    clear hE HFO
    have p0 := (HQ.out.below HB1.out) 0 _ rfl
    have p1 := (HQ.out.below HB1.out) 1 _ rfl
    have p2 := (HQ.out.below HB1.out) 2 _ rfl
    have f0 := (HFR.out.below HB1.out HL.out) 0
    have f1 := (HFR.out.below HB1.out HL.out) 1
    have f2 := (HFR.out.below HB1.out HL.out) 2
    go_wp2
    exact bodyPost_ret (v := .tuple #[.agg #[.int .i64 0, .int .i64 0, .slice none 0 0], .iface 30 (.int .i64 E)]) (by simp [results, Tryd.results25, go_sem, p0, p1, p2]) rfl ⟨_, by rw [err_ne HE.out], isMx_no _, below_set3 (below_next HBW.out HB1.out) (B := w.heap.size + 1 + 1) (by omega) _ _ _, fresh_no _ _ _⟩
set_option maxHeartbeats 4000000 in
theorem lback_linear (l : Ly) {xa : Option Addr} {xn xk : Nat} {ya : Option Addr} {yn yk : Nat} (x g : Mx) (vx vg : Value) (w : World) (hk : l.k = 1) (hs : IsInts w (.slice xa xn xk) l.w.cells) (ht : IsInts w (.slice ya yn yk) l.b.cells) (hx : IsMx w vx x) (hg : IsMx w vg g) :
    Calls Tryd.prog 30 #[.agg #[.int .i64 1, .int .i64 l.w.rows, .int .i64 l.w.cols, .slice xa xn xk, .int .i64 l.b.rows, .int .i64 l.b.cols, .slice ya yn yk], vx, vg] w (BackErr w (backX l x g) (gradW l x g) (gradB l x g) (backE l x g)) := by
  obtain ⟨sx, rfl, hsx⟩ := hx
  obtain ⟨za, zn, zk, rfl⟩ := hsx.shape
  obtain ⟨r, e5⟩ : ∃ r, x.rows = r := ⟨_, rfl⟩
  obtain ⟨c, e6⟩ : ∃ r, x.cols = r := ⟨_, rfl⟩
  obtain ⟨sg, rfl, hsg⟩ := hg
  obtain ⟨ga, gn, gk, rfl⟩ := hsg.shape
  obtain ⟨r', e7⟩ : ∃ r, g.rows = r := ⟨_, rfl⟩
  obtain ⟨c', e8⟩ : ∃ r, g.cols = r := ⟨_, rfl⟩
  obtain ⟨wr, e1⟩ : ∃ r, l.w.rows = r := ⟨_, rfl⟩
  obtain ⟨wc, e2⟩ : ∃ r, l.w.cols = r := ⟨_, rfl⟩
  obtain ⟨br, e3⟩ : ∃ r, l.b.rows = r := ⟨_, rfl⟩
  obtain ⟨bc, e4⟩ : ∃ r, l.b.cols = r := ⟨_, rfl⟩
  have HR := hide (fun W (h : Below w.heap.size w W) => ready_linear l x _ W hk (hs.below h) (ht.below h) ⟨_, rfl, hsx.below h⟩)
  have HC := hide (fun W (h : Below w.heap.size w W) => check_any _ g W ⟨_, rfl, hsg.below h⟩)
  have HSH := hide (fun W (a b : Int) (h : Below w.heap.size w W) => shape_any _ g a b W ⟨_, rfl, hsg.below h⟩)
  have HFO := hide (fun W (h : Below w.heap.size w W) (h0 : goE l x = 0) (h1 : fault g = 0) (h2 : g.rows = x.rows ∧ g.cols = givesL l x.cols) => back_at_linear l (ya := ya) (yn := yn) (yk := yk) x g _ _ W hk h0 h1 h2 (hs.below h) ⟨_, rfl, hsx.below h⟩ ⟨_, rfl, hsg.below h⟩)
  have HEQ := hide (And.intro e5 (And.intro e6 (And.intro e7 e8)))
  rw [e1, e2, e3, e4, e5, e6] at HR
  rw [e7, e8] at HC HSH
  rw [e1, e2, e3, e4, e5, e6, e7, e8] at HFO
  rw [e1, e2, e3, e4, e5, e6, e7, e8]
  obtain ⟨q, hq⟩ : ∃ q, backX l x g = q := ⟨_, rfl⟩
  obtain ⟨da, hda⟩ : ∃ q, gradW l x g = q := ⟨_, rfl⟩
  obtain ⟨db, hdb⟩ : ∃ q, gradB l x g = q := ⟨_, rfl⟩
  obtain ⟨j, hj⟩ : ∃ q, backE l x g = q := ⟨_, rfl⟩
  obtain ⟨E, hE0⟩ : ∃ E, goE l x = E := ⟨_, rfl⟩
  obtain ⟨cw, hcw⟩ : ∃ cw, goW l x = cw := ⟨_, rfl⟩
  obtain ⟨fg, hfg0⟩ : ∃ fg, fault g = fg := ⟨_, rfl⟩
  have HQE := hide (And.intro hq (And.intro hda (And.intro hdb (And.intro hj (And.intro hE0 (And.intro hcw hfg0))))))
  rw [hE0, hcw] at HR
  rw [hfg0] at HC
  rw [hq, hda, hdb, hj, hE0, hfg0] at HFO
  rw [hq, hda, hdb, hj]
  have HNO := hide (fun (h : j ≠ 0) => (show q = noMx ∧ da = noMx ∧ db = noMx by rw [← hq, ← hda, ← hdb]; exact backX_no (by rw [hj]; exact h)))
  clear hq hda hdb hj hE0 hcw hfg0
  have hm : ∀ W : World, (method 276 123 (.agg #[.int .i64 wr, .int .i64 wc, .slice xa xn xk, .int .i64 br, .int .i64 bc, .slice ya yn yk]) "galley/layer.back").run Tryd.prog W = .ok (92, .agg #[.int .i64 wr, .int .i64 wc, .slice xa xn xk, .int .i64 br, .int .i64 bc, .slice ya yn yk]) W := fun _ => by kernel_rfl
  obtain ⟨V, hV⟩ : ∃ V, V = (((((w.alloc (.cells #[.int .i64 1, .int .i64 wr, .int .i64 wc, .slice xa xn xk, .int .i64 br, .int .i64 bc, .slice ya yn yk] 55)).alloc (.cells #[.int .i64 r, .int .i64 c, .slice za zn zk] 25)).alloc (.cells #[.int .i64 r', .int .i64 c', .slice ga gn gk] 25)).alloc (.cells #[.int .i64 0, .int .i64 0, .slice none 0 0] 25)).alloc (.cells #[.int .i64 0, .int .i64 0, .slice none 0 0, .int .i64 0, .int .i64 0, .slice none 0 0] 57)) := ⟨_, rfl⟩
  have HV := hide hV
  have HBW : Hid (Below w.heap.size w V) := by rw [hV]; exact hide (below_next (below_next (below_next (below_next (below_one _ _) (below_one _ _)) (below_one _ _)) (below_one _ _)) (below_one _ _))
  have HBX : Hid (Box V (w.heap.size + 1) [.int .i64 r, .int .i64 c, .slice za zn zk]) := by rw [hV]; exact hide ((((Box.new _ [.int .i64 r, .int .i64 c, .slice za zn zk] 25 (by simp)).below (below_one _ _)).below (below_one _ _)).below (below_one _ _))
  have HBG : Hid (Box V (w.heap.size + 1 + 1) [.int .i64 r', .int .i64 c', .slice ga gn gk]) := by rw [hV]; exact hide (((Box.new _ [.int .i64 r', .int .i64 c', .slice ga gn gk] 25 (by simp)).below (below_one _ _)).below (below_one _ _))
  have HQ : Hid (Box V (w.heap.size + 1 + 1 + 1) [.int .i64 0, .int .i64 0, .slice none 0 0]) := by rw [hV]; exact hide ((Box.new _ [.int .i64 0, .int .i64 0, .slice none 0 0] 25 (by simp)).below (below_one _ _))
  have HFR : Hid (Free V (w.heap.size + 1 + 1 + 1)) := by rw [hV]; exact hide ((Free.new _ _ 25 (by simp)).below (below_one _ _) (by simp))
  have HP : Hid (Box V (w.heap.size + 1 + 1 + 1 + 1) [.int .i64 0, .int .i64 0, .slice none 0 0, .int .i64 0, .int .i64 0, .slice none 0 0]) := by rw [hV]; exact hide (Box.new _ [.int .i64 0, .int .i64 0, .slice none 0 0, .int .i64 0, .int .i64 0, .slice none 0 0] 57 (by simp))
  have HFP : Hid (Free V (w.heap.size + 1 + 1 + 1 + 1)) := by rw [hV]; exact hide (Free.new _ _ 57 (by simp))
  have HL := hide HQ.out.lt
  have HM2 := hide HP.out.lt
  clear hs ht hsx hsg e1 e2 e3 e4 e5 e6 e7 e8 hk hV
  go_enter Tryd.func30, Tryd.ntmps30
  go_wp2_with fail
  rw [← HV.out]
  refine (HR.out _ HBW.out).mono ?_
  rintro e w1 ⟨rfl, hb1⟩
  have HB1 := hide hb1
  clear hb1 HR
  by_cases hE : E = 0
  · subst hE
    rw [← kindR_yes rfl, err_eq rfl]
    have HCW := hide (show givesL l x.cols = cw by rw [← HQE.out.2.2.2.2.2.1]; unfold goW; rw [if_pos HQE.out.2.2.2.2.1])
    have d0 := (HBG.out.below HB1.out) 0 _ rfl
    have d1 := (HBG.out.below HB1.out) 1 _ rfl
    have d2 := (HBG.out.below HB1.out) 2 _ rfl
    go_wp2_with fail
    refine (HC.out _ (below_next HBW.out HB1.out)).mono ?_
    rintro e w2 ⟨rfl, hb2⟩
    have HB2 := hide (below_next HB1.out hb2)
    clear hb2 HC d0 d1 d2
    by_cases hfg : fg = 0
    · subst hfg
      rw [err_eq rfl]
      have d0 := (HBG.out.below HB2.out) 0 _ rfl
      have d1 := (HBG.out.below HB2.out) 1 _ rfl
      have d2 := (HBG.out.below HB2.out) 2 _ rfl
      have y0 := (HBX.out.below HB2.out) 0 _ rfl
      have y1 := (HBX.out.below HB2.out) 1 _ rfl
      have y2 := (HBX.out.below HB2.out) 2 _ rfl
      go_wp2_with fail
      refine (HSH.out _ _ _ (below_next HBW.out HB2.out)).mono ?_
      rintro e w3 ⟨rfl, hb3⟩
      have HB3 := hide (below_next HB2.out hb3)
      clear hb3 HSH d0 d1 d2 y0 y1 y2
      by_cases hsh : r' = r ∧ c' = cw
      · rw [shapeB_yes hsh]
        have HF := hide (fun W (h : Below w.heap.size w W) => HFO.out W h (by first | rfl | trivial) (by first | rfl | trivial) ⟨hsh.1, by rw [← HEQ.out.2.1, HCW.out]; exact hsh.2⟩)
        clear hsh HFO
        have d0 := (HBG.out.below HB3.out) 0 _ rfl
        have d1 := (HBG.out.below HB3.out) 1 _ rfl
        have d2 := (HBG.out.below HB3.out) 2 _ rfl
        have y0 := (HBX.out.below HB3.out) 0 _ rfl
        have y1 := (HBX.out.below HB3.out) 1 _ rfl
        have y2 := (HBX.out.below HB3.out) 2 _ rfl
        go_wp2_with fail
        refine (HF.out _ (below_next HBW.out HB3.out)).mono ?_
        rintro e w4 ⟨v', dv, rfl, hm', hd', hb4, hf4, hg4⟩
        obtain ⟨s', rfl, hs'⟩ := hm'
        obtain ⟨qa, qn, qk, rfl⟩ := hs'.shape
        obtain ⟨s1, s2, rfl, hs1, hs2⟩ := hd'
        obtain ⟨ua, un, uk, rfl⟩ := hs1.shape
        obtain ⟨va, vn, vk, rfl⟩ := hs2.shape
        have hfr := hg4 _ _ _ _ _ _ _ _ _ _ rfl
        have HN := hide hs'
        have HU := hide hs1
        have HW := hide hs2
        have HNF := hide (fresh_mono hf4 HB3.out.size)
        have HUF := hide (fresh_mono hfr.1 HB3.out.size)
        have HWF := hide (fresh_mono hfr.2 HB3.out.size)
        have HB4 := hide (below_next HB3.out hb4)
        clear hs' hs1 hs2 hb4 hf4 hg4 hfr HF d0 d1 d2 y0 y1 y2
        have p0 := (HQ.out.below HB4.out) 0 _ rfl
        have p1 := (HQ.out.below HB4.out) 1 _ rfl
        have p2 := (HQ.out.below HB4.out) 2 _ rfl
        have f0 := (HFR.out.below HB4.out HL.out) 0
        have f1 := (HFR.out.below HB4.out HL.out) 1
        have f2 := (HFR.out.below HB4.out HL.out) 2
        have q0 := (HP.out.below HB4.out) 0 _ rfl
        have q1 := (HP.out.below HB4.out) 1 _ rfl
        have q2 := (HP.out.below HB4.out) 2 _ rfl
        have q3 := (HP.out.below HB4.out) 3 _ rfl
        have q4 := (HP.out.below HB4.out) 4 _ rfl
        have q5 := (HP.out.below HB4.out) 5 _ rfl
        have h0 := (HFP.out.below HB4.out HM2.out) 0
        have h1 := (HFP.out.below HB4.out HM2.out) 1
        have h2 := (HFP.out.below HB4.out HM2.out) 2
        have h3 := (HFP.out.below HB4.out HM2.out) 3
        have h4 := (HFP.out.below HB4.out HM2.out) 4
        have h5 := (HFP.out.below HB4.out HM2.out) 5
        go_wp2
        have HA := above9 (B := w.heap.size + 1 + 1 + 1) (C := w.heap.size + 1 + 1 + 1 + 1) HL.out HM2.out w4 (.int .i64 q.rows) (.int .i64 q.cols) (.slice qa qn qk) (.int .i64 da.rows) (.int .i64 da.cols) (.slice ua un uk) (.int .i64 db.rows) (.int .i64 db.cols) (.slice va vn vk)
        exact bodyPost_ret (v := .tuple #[.agg #[.int .i64 q.rows, .int .i64 q.cols, .slice qa qn qk], .agg #[.int .i64 da.rows, .int .i64 da.cols, .slice ua un uk, .int .i64 db.rows, .int .i64 db.cols, .slice va vn vk], errV j]) (by simp [results, Tryd.results30, go_sem, p0, p1, p2, q0, q1, q2, q3, q4, q5]) rfl
          ⟨_, _, rfl, ⟨_, rfl, HN.out.above HNF.out HA⟩, two_of (HU.out.above HUF.out HA) (HW.out.above HWF.out HA), below9 (below_next HBW.out HB4.out) (B := w.heap.size + 1 + 1 + 1) (C := w.heap.size + 1 + 1 + 1 + 1) (by omega) (by omega) _ _ _ _ _ _ _ _ _, fresh_mono HNF.out HBW.out.size, fresh2_of (fresh_mono HUF.out HBW.out.size) (fresh_mono HWF.out HBW.out.size)⟩
      · rw [shapeB_no hsh]
        obtain rfl : j = 2 := by rw [← HQE.out.2.2.2.1]; exact backE_s HQE.out.2.2.2.2.1 HQE.out.2.2.2.2.2.2 (by have h1 := HEQ.out; rw [h1.1, h1.2.2.1, h1.2.2.2, HCW.out]; exact hsh)
        have HE := hide (show (2 : Int) ≠ 0 by decide)
        obtain ⟨rfl, rfl, rfl⟩ := HNO.out HE.out
        clear hsh HFO
        have p0 := (HQ.out.below HB3.out) 0 _ rfl
        have p1 := (HQ.out.below HB3.out) 1 _ rfl
        have p2 := (HQ.out.below HB3.out) 2 _ rfl
        have f0 := (HFR.out.below HB3.out HL.out) 0
        have f1 := (HFR.out.below HB3.out HL.out) 1
        have f2 := (HFR.out.below HB3.out HL.out) 2
        have q0 := (HP.out.below HB3.out) 0 _ rfl
        have q1 := (HP.out.below HB3.out) 1 _ rfl
        have q2 := (HP.out.below HB3.out) 2 _ rfl
        have q3 := (HP.out.below HB3.out) 3 _ rfl
        have q4 := (HP.out.below HB3.out) 4 _ rfl
        have q5 := (HP.out.below HB3.out) 5 _ rfl
        have h0 := (HFP.out.below HB3.out HM2.out) 0
        have h1 := (HFP.out.below HB3.out HM2.out) 1
        have h2 := (HFP.out.below HB3.out HM2.out) 2
        have h3 := (HFP.out.below HB3.out HM2.out) 3
        have h4 := (HFP.out.below HB3.out HM2.out) 4
        have h5 := (HFP.out.below HB3.out HM2.out) 5
        go_wp2
        exact bodyPost_ret (v := .tuple #[.agg #[.int .i64 0, .int .i64 0, .slice none 0 0], .agg #[.int .i64 0, .int .i64 0, .slice none 0 0, .int .i64 0, .int .i64 0, .slice none 0 0], .iface 30 (.int .i64 2)]) (by simp [results, Tryd.results30, go_sem, p0, p1, p2, q0, q1, q2, q3, q4, q5]) rfl
          ⟨_, _, by rw [err_ne HE.out], isMx_no _, isTwo_no _, below9 (below_next HBW.out HB3.out) (B := w.heap.size + 1 + 1 + 1) (C := w.heap.size + 1 + 1 + 1 + 1) (by omega) (by omega) _ _ _ _ _ _ _ _ _, fresh_no _ _ _, fresh2_no _ _ _ _ _⟩
    · rw [err_ne hfg]
      obtain rfl : j = fg := by rw [← HQE.out.2.2.2.1, ← HQE.out.2.2.2.2.2.2]; exact backE_g HQE.out.2.2.2.2.1 (by rw [HQE.out.2.2.2.2.2.2]; exact hfg)
      have HE := hide hfg
      obtain ⟨rfl, rfl, rfl⟩ := HNO.out hfg
      clear hfg HFO
      have p0 := (HQ.out.below HB2.out) 0 _ rfl
      have p1 := (HQ.out.below HB2.out) 1 _ rfl
      have p2 := (HQ.out.below HB2.out) 2 _ rfl
      have f0 := (HFR.out.below HB2.out HL.out) 0
      have f1 := (HFR.out.below HB2.out HL.out) 1
      have f2 := (HFR.out.below HB2.out HL.out) 2
      have q0 := (HP.out.below HB2.out) 0 _ rfl
      have q1 := (HP.out.below HB2.out) 1 _ rfl
      have q2 := (HP.out.below HB2.out) 2 _ rfl
      have q3 := (HP.out.below HB2.out) 3 _ rfl
      have q4 := (HP.out.below HB2.out) 4 _ rfl
      have q5 := (HP.out.below HB2.out) 5 _ rfl
      have h0 := (HFP.out.below HB2.out HM2.out) 0
      have h1 := (HFP.out.below HB2.out HM2.out) 1
      have h2 := (HFP.out.below HB2.out HM2.out) 2
      have h3 := (HFP.out.below HB2.out HM2.out) 3
      have h4 := (HFP.out.below HB2.out HM2.out) 4
      have h5 := (HFP.out.below HB2.out HM2.out) 5
      go_wp2
      exact bodyPost_ret (v := .tuple #[.agg #[.int .i64 0, .int .i64 0, .slice none 0 0], .agg #[.int .i64 0, .int .i64 0, .slice none 0 0, .int .i64 0, .int .i64 0, .slice none 0 0], .iface 30 (.int .i64 j)]) (by simp [results, Tryd.results30, go_sem, p0, p1, p2, q0, q1, q2, q3, q4, q5]) rfl
        ⟨_, _, by rw [err_ne HE.out], isMx_no _, isTwo_no _, below9 (below_next HBW.out HB2.out) (B := w.heap.size + 1 + 1 + 1) (C := w.heap.size + 1 + 1 + 1 + 1) (by omega) (by omega) _ _ _ _ _ _ _ _ _, fresh_no _ _ _, fresh2_no _ _ _ _ _⟩
  · rw [← kindR_no hE, err_ne hE]
    obtain rfl : j = E := by rw [← HQE.out.2.2.2.1, ← HQE.out.2.2.2.2.1]; exact backE_go (by rw [HQE.out.2.2.2.2.1]; exact hE)
    have HE := hide hE
    obtain ⟨rfl, rfl, rfl⟩ := HNO.out hE
    clear hE HFO
    have p0 := (HQ.out.below HB1.out) 0 _ rfl
    have p1 := (HQ.out.below HB1.out) 1 _ rfl
    have p2 := (HQ.out.below HB1.out) 2 _ rfl
    have f0 := (HFR.out.below HB1.out HL.out) 0
    have f1 := (HFR.out.below HB1.out HL.out) 1
    have f2 := (HFR.out.below HB1.out HL.out) 2
    have q0 := (HP.out.below HB1.out) 0 _ rfl
    have q1 := (HP.out.below HB1.out) 1 _ rfl
    have q2 := (HP.out.below HB1.out) 2 _ rfl
    have q3 := (HP.out.below HB1.out) 3 _ rfl
    have q4 := (HP.out.below HB1.out) 4 _ rfl
    have q5 := (HP.out.below HB1.out) 5 _ rfl
    have h0 := (HFP.out.below HB1.out HM2.out) 0
    have h1 := (HFP.out.below HB1.out HM2.out) 1
    have h2 := (HFP.out.below HB1.out HM2.out) 2
    have h3 := (HFP.out.below HB1.out HM2.out) 3
    have h4 := (HFP.out.below HB1.out HM2.out) 4
    have h5 := (HFP.out.below HB1.out HM2.out) 5
    go_wp2
    exact bodyPost_ret (v := .tuple #[.agg #[.int .i64 0, .int .i64 0, .slice none 0 0], .agg #[.int .i64 0, .int .i64 0, .slice none 0 0, .int .i64 0, .int .i64 0, .slice none 0 0], .iface 30 (.int .i64 j)]) (by simp [results, Tryd.results30, go_sem, p0, p1, p2, q0, q1, q2, q3, q4, q5]) rfl
      ⟨_, _, by rw [err_ne HE.out], isMx_no _, isTwo_no _, below9 (below_next HBW.out HB1.out) (B := w.heap.size + 1 + 1 + 1) (C := w.heap.size + 1 + 1 + 1 + 1) (by omega) (by omega) _ _ _ _ _ _ _ _ _, fresh_no _ _ _, fresh2_no _ _ _ _ _⟩
set_option maxHeartbeats 1600000 in
theorem lgo_relu (l : Ly) {xa : Option Addr} {xn xk : Nat} {ya : Option Addr} {yn yk : Nat} (x : Mx) (vx : Value) (w : World) (hk : l.k = 2) (hs : IsInts w (.slice xa xn xk) l.w.cells) (ht : IsInts w (.slice ya yn yk) l.b.cells) (hx : IsMx w vx x) :
    Calls Tryd.prog 25 #[.agg #[.int .i64 2, .int .i64 l.w.rows, .int .i64 l.w.cols, .slice xa xn xk, .int .i64 l.b.rows, .int .i64 l.b.cols, .slice ya yn yk], vx] w (MxErr w (goX l x) (goE l x)) := by
  obtain ⟨sx, rfl, hsx⟩ := hx
  obtain ⟨za, zn, zk, rfl⟩ := hsx.shape
  obtain ⟨r, e5⟩ : ∃ r, x.rows = r := ⟨_, rfl⟩
  obtain ⟨c, e6⟩ : ∃ r, x.cols = r := ⟨_, rfl⟩
  obtain ⟨wr, e1⟩ : ∃ r, l.w.rows = r := ⟨_, rfl⟩
  obtain ⟨wc, e2⟩ : ∃ r, l.w.cols = r := ⟨_, rfl⟩
  obtain ⟨br, e3⟩ : ∃ r, l.b.rows = r := ⟨_, rfl⟩
  obtain ⟨bc, e4⟩ : ∃ r, l.b.cols = r := ⟨_, rfl⟩
  have HR := hide (fun W (h : Below w.heap.size w W) => ready_relu l x _ W hk (hs.below h) (ht.below h) ⟨_, rfl, hsx.below h⟩)
  have HFO := hide (fun W (h : Below w.heap.size w W) (h0 : goE l x = 0) => forth_at_relu l x _ W hk h0 (hs.below h) (ht.below h) ⟨_, rfl, hsx.below h⟩)
  rw [e1, e2, e3, e4, e5, e6] at HR HFO
  rw [e1, e2, e3, e4, e5, e6]
  obtain ⟨q, hq⟩ : ∃ q, goX l x = q := ⟨_, rfl⟩
  obtain ⟨E, hE0⟩ : ∃ E, goE l x = E := ⟨_, rfl⟩
  obtain ⟨cw, hcw⟩ : ∃ cw, goW l x = cw := ⟨_, rfl⟩
  have HQE := hide (And.intro hq hE0)
  rw [hE0, hcw] at HR
  rw [hq, hE0] at HFO ⊢
  clear hq hE0 hcw
  have hm : ∀ W : World, (method 276 126 (.agg #[.int .i64 wr, .int .i64 wc, .slice xa xn xk, .int .i64 br, .int .i64 bc, .slice ya yn yk]) "galley/layer.forth").run Tryd.prog W = .ok (114, .agg #[.int .i64 wr, .int .i64 wc, .slice xa xn xk, .int .i64 br, .int .i64 bc, .slice ya yn yk]) W := fun _ => by kernel_rfl
  obtain ⟨V, hV⟩ : ∃ V, V = (((w.alloc (.cells #[.int .i64 2, .int .i64 wr, .int .i64 wc, .slice xa xn xk, .int .i64 br, .int .i64 bc, .slice ya yn yk] 55)).alloc (.cells #[.int .i64 r, .int .i64 c, .slice za zn zk] 25)).alloc (.cells #[.int .i64 0, .int .i64 0, .slice none 0 0] 25)) := ⟨_, rfl⟩
  have HV := hide hV
  have HBW : Hid (Below w.heap.size w V) := by rw [hV]; exact hide (below_next (below_next (below_one _ _) (below_one _ _)) (below_one _ _))
  have HBX : Hid (Box V (w.heap.size + 1) [.int .i64 r, .int .i64 c, .slice za zn zk]) := by rw [hV]; exact hide ((Box.new _ [.int .i64 r, .int .i64 c, .slice za zn zk] 25 (by simp)).below (below_one _ _))
  have HQ : Hid (Box V (w.heap.size + 1 + 1) [.int .i64 0, .int .i64 0, .slice none 0 0]) := by rw [hV]; exact hide (Box.new _ [.int .i64 0, .int .i64 0, .slice none 0 0] 25 (by simp))
  have HFR : Hid (Free V (w.heap.size + 1 + 1)) := by rw [hV]; exact hide (Free.new _ _ 25 (by simp))
  have HL := hide HQ.out.lt
  clear hs ht hsx e1 e2 e3 e4 e5 e6 hk hV
  go_enter Tryd.func25, Tryd.ntmps25
  go_wp2_with fail
  rw [← HV.out]
  refine (HR.out _ HBW.out).mono ?_
  rintro e w1 ⟨rfl, hb1⟩
  have HB1 := hide hb1
  clear hb1 HR
  by_cases hE : E = 0
  · subst hE
    rw [← kindR_yes rfl, err_eq rfl]
    have HF := hide (fun W (h : Below w.heap.size w W) => HFO.out W h rfl)
    clear HFO
    have d0 := (HBX.out.below HB1.out) 0 _ rfl
    have d1 := (HBX.out.below HB1.out) 1 _ rfl
    have d2 := (HBX.out.below HB1.out) 2 _ rfl
    go_wp2_with fail
    refine (HF.out _ (below_next HBW.out HB1.out)).mono ?_
    rintro e w2 ⟨v', rfl, hm', hb2, hf⟩
    obtain ⟨s', rfl, hs'⟩ := hm'
    obtain ⟨qa, qn, qk, rfl⟩ := hs'.shape
    rw [err_eq rfl]
    have HN := hide (show IsMx w2 (.agg #[.int .i64 q.rows, .int .i64 q.cols, .slice qa qn qk]) q from ⟨_, rfl, hs'⟩)
    have HFV := hide (fresh_mono hf HB1.out.size)
    have HB2 := hide (below_next HB1.out hb2)
    clear hs' hb2 hf HF d0 d1 d2
    have p0 := (HQ.out.below HB2.out) 0 _ rfl
    have p1 := (HQ.out.below HB2.out) 1 _ rfl
    have p2 := (HQ.out.below HB2.out) 2 _ rfl
    have f0 := (HFR.out.below HB2.out HL.out) 0
    have f1 := (HFR.out.below HB2.out HL.out) 1
    have f2 := (HFR.out.below HB2.out HL.out) 2
    go_wp2
    obtain ⟨c1, c2, c3⟩ := errEnd HN.out HFV.out HBW.out (B := w.heap.size + 1 + 1) (by omega) HL.out HB2.out (.int .i64 q.rows) (.int .i64 q.cols) (.slice qa qn qk)
    exact bodyPost_ret (v := .tuple #[.agg #[.int .i64 q.rows, .int .i64 q.cols, .slice qa qn qk], .nilIface]) (by simp [results, Tryd.results25, go_sem, p0, p1, p2]) rfl ⟨_, rfl, c1, c2, c3⟩
  · rw [← kindR_no hE, err_ne hE]
    have HE := hide hE
    obtain rfl : q = noMx := by rw [← HQE.out.1]; exact goX_no (by rw [HQE.out.2]; exact hE)
    clear hE HFO
    have p0 := (HQ.out.below HB1.out) 0 _ rfl
    have p1 := (HQ.out.below HB1.out) 1 _ rfl
    have p2 := (HQ.out.below HB1.out) 2 _ rfl
    have f0 := (HFR.out.below HB1.out HL.out) 0
    have f1 := (HFR.out.below HB1.out HL.out) 1
    have f2 := (HFR.out.below HB1.out HL.out) 2
    go_wp2
    exact bodyPost_ret (v := .tuple #[.agg #[.int .i64 0, .int .i64 0, .slice none 0 0], .iface 30 (.int .i64 E)]) (by simp [results, Tryd.results25, go_sem, p0, p1, p2]) rfl ⟨_, by rw [err_ne HE.out], isMx_no _, below_set3 (below_next HBW.out HB1.out) (B := w.heap.size + 1 + 1) (by omega) _ _ _, fresh_no _ _ _⟩
set_option maxHeartbeats 4000000 in
theorem lback_relu (l : Ly) {xa : Option Addr} {xn xk : Nat} {ya : Option Addr} {yn yk : Nat} (x g : Mx) (vx vg : Value) (w : World) (hk : l.k = 2) (hs : IsInts w (.slice xa xn xk) l.w.cells) (ht : IsInts w (.slice ya yn yk) l.b.cells) (hx : IsMx w vx x) (hg : IsMx w vg g) :
    Calls Tryd.prog 30 #[.agg #[.int .i64 2, .int .i64 l.w.rows, .int .i64 l.w.cols, .slice xa xn xk, .int .i64 l.b.rows, .int .i64 l.b.cols, .slice ya yn yk], vx, vg] w (BackErr w (backX l x g) (gradW l x g) (gradB l x g) (backE l x g)) := by
  obtain ⟨sx, rfl, hsx⟩ := hx
  obtain ⟨za, zn, zk, rfl⟩ := hsx.shape
  obtain ⟨r, e5⟩ : ∃ r, x.rows = r := ⟨_, rfl⟩
  obtain ⟨c, e6⟩ : ∃ r, x.cols = r := ⟨_, rfl⟩
  obtain ⟨sg, rfl, hsg⟩ := hg
  obtain ⟨ga, gn, gk, rfl⟩ := hsg.shape
  obtain ⟨r', e7⟩ : ∃ r, g.rows = r := ⟨_, rfl⟩
  obtain ⟨c', e8⟩ : ∃ r, g.cols = r := ⟨_, rfl⟩
  obtain ⟨wr, e1⟩ : ∃ r, l.w.rows = r := ⟨_, rfl⟩
  obtain ⟨wc, e2⟩ : ∃ r, l.w.cols = r := ⟨_, rfl⟩
  obtain ⟨br, e3⟩ : ∃ r, l.b.rows = r := ⟨_, rfl⟩
  obtain ⟨bc, e4⟩ : ∃ r, l.b.cols = r := ⟨_, rfl⟩
  have HR := hide (fun W (h : Below w.heap.size w W) => ready_relu l x _ W hk (hs.below h) (ht.below h) ⟨_, rfl, hsx.below h⟩)
  have HC := hide (fun W (h : Below w.heap.size w W) => check_any _ g W ⟨_, rfl, hsg.below h⟩)
  have HSH := hide (fun W (a b : Int) (h : Below w.heap.size w W) => shape_any _ g a b W ⟨_, rfl, hsg.below h⟩)
  have HFO := hide (fun W (h : Below w.heap.size w W) (h0 : goE l x = 0) (h1 : fault g = 0) (h2 : g.rows = x.rows ∧ g.cols = givesL l x.cols) => back_at_relu l (ya := ya) (yn := yn) (yk := yk) x g _ _ W hk h0 h1 h2 (hs.below h) ⟨_, rfl, hsx.below h⟩ ⟨_, rfl, hsg.below h⟩)
  have HEQ := hide (And.intro e5 (And.intro e6 (And.intro e7 e8)))
  rw [e1, e2, e3, e4, e5, e6] at HR
  rw [e7, e8] at HC HSH
  rw [e1, e2, e3, e4, e5, e6, e7, e8] at HFO
  rw [e1, e2, e3, e4, e5, e6, e7, e8]
  obtain ⟨q, hq⟩ : ∃ q, backX l x g = q := ⟨_, rfl⟩
  obtain ⟨da, hda⟩ : ∃ q, gradW l x g = q := ⟨_, rfl⟩
  obtain ⟨db, hdb⟩ : ∃ q, gradB l x g = q := ⟨_, rfl⟩
  obtain ⟨j, hj⟩ : ∃ q, backE l x g = q := ⟨_, rfl⟩
  obtain ⟨E, hE0⟩ : ∃ E, goE l x = E := ⟨_, rfl⟩
  obtain ⟨cw, hcw⟩ : ∃ cw, goW l x = cw := ⟨_, rfl⟩
  obtain ⟨fg, hfg0⟩ : ∃ fg, fault g = fg := ⟨_, rfl⟩
  have HQE := hide (And.intro hq (And.intro hda (And.intro hdb (And.intro hj (And.intro hE0 (And.intro hcw hfg0))))))
  rw [hE0, hcw] at HR
  rw [hfg0] at HC
  rw [hq, hda, hdb, hj, hE0, hfg0] at HFO
  rw [hq, hda, hdb, hj]
  have HNO := hide (fun (h : j ≠ 0) => (show q = noMx ∧ da = noMx ∧ db = noMx by rw [← hq, ← hda, ← hdb]; exact backX_no (by rw [hj]; exact h)))
  clear hq hda hdb hj hE0 hcw hfg0
  have hm : ∀ W : World, (method 276 126 (.agg #[.int .i64 wr, .int .i64 wc, .slice xa xn xk, .int .i64 br, .int .i64 bc, .slice ya yn yk]) "galley/layer.back").run Tryd.prog W = .ok (112, .agg #[.int .i64 wr, .int .i64 wc, .slice xa xn xk, .int .i64 br, .int .i64 bc, .slice ya yn yk]) W := fun _ => by kernel_rfl
  obtain ⟨V, hV⟩ : ∃ V, V = (((((w.alloc (.cells #[.int .i64 2, .int .i64 wr, .int .i64 wc, .slice xa xn xk, .int .i64 br, .int .i64 bc, .slice ya yn yk] 55)).alloc (.cells #[.int .i64 r, .int .i64 c, .slice za zn zk] 25)).alloc (.cells #[.int .i64 r', .int .i64 c', .slice ga gn gk] 25)).alloc (.cells #[.int .i64 0, .int .i64 0, .slice none 0 0] 25)).alloc (.cells #[.int .i64 0, .int .i64 0, .slice none 0 0, .int .i64 0, .int .i64 0, .slice none 0 0] 57)) := ⟨_, rfl⟩
  have HV := hide hV
  have HBW : Hid (Below w.heap.size w V) := by rw [hV]; exact hide (below_next (below_next (below_next (below_next (below_one _ _) (below_one _ _)) (below_one _ _)) (below_one _ _)) (below_one _ _))
  have HBX : Hid (Box V (w.heap.size + 1) [.int .i64 r, .int .i64 c, .slice za zn zk]) := by rw [hV]; exact hide ((((Box.new _ [.int .i64 r, .int .i64 c, .slice za zn zk] 25 (by simp)).below (below_one _ _)).below (below_one _ _)).below (below_one _ _))
  have HBG : Hid (Box V (w.heap.size + 1 + 1) [.int .i64 r', .int .i64 c', .slice ga gn gk]) := by rw [hV]; exact hide (((Box.new _ [.int .i64 r', .int .i64 c', .slice ga gn gk] 25 (by simp)).below (below_one _ _)).below (below_one _ _))
  have HQ : Hid (Box V (w.heap.size + 1 + 1 + 1) [.int .i64 0, .int .i64 0, .slice none 0 0]) := by rw [hV]; exact hide ((Box.new _ [.int .i64 0, .int .i64 0, .slice none 0 0] 25 (by simp)).below (below_one _ _))
  have HFR : Hid (Free V (w.heap.size + 1 + 1 + 1)) := by rw [hV]; exact hide ((Free.new _ _ 25 (by simp)).below (below_one _ _) (by simp))
  have HP : Hid (Box V (w.heap.size + 1 + 1 + 1 + 1) [.int .i64 0, .int .i64 0, .slice none 0 0, .int .i64 0, .int .i64 0, .slice none 0 0]) := by rw [hV]; exact hide (Box.new _ [.int .i64 0, .int .i64 0, .slice none 0 0, .int .i64 0, .int .i64 0, .slice none 0 0] 57 (by simp))
  have HFP : Hid (Free V (w.heap.size + 1 + 1 + 1 + 1)) := by rw [hV]; exact hide (Free.new _ _ 57 (by simp))
  have HL := hide HQ.out.lt
  have HM2 := hide HP.out.lt
  clear hs ht hsx hsg e1 e2 e3 e4 e5 e6 e7 e8 hk hV
  go_enter Tryd.func30, Tryd.ntmps30
  go_wp2_with fail
  rw [← HV.out]
  refine (HR.out _ HBW.out).mono ?_
  rintro e w1 ⟨rfl, hb1⟩
  have HB1 := hide hb1
  clear hb1 HR
  by_cases hE : E = 0
  · subst hE
    rw [← kindR_yes rfl, err_eq rfl]
    have HCW := hide (show givesL l x.cols = cw by rw [← HQE.out.2.2.2.2.2.1]; unfold goW; rw [if_pos HQE.out.2.2.2.2.1])
    have d0 := (HBG.out.below HB1.out) 0 _ rfl
    have d1 := (HBG.out.below HB1.out) 1 _ rfl
    have d2 := (HBG.out.below HB1.out) 2 _ rfl
    go_wp2_with fail
    refine (HC.out _ (below_next HBW.out HB1.out)).mono ?_
    rintro e w2 ⟨rfl, hb2⟩
    have HB2 := hide (below_next HB1.out hb2)
    clear hb2 HC d0 d1 d2
    by_cases hfg : fg = 0
    · subst hfg
      rw [err_eq rfl]
      have d0 := (HBG.out.below HB2.out) 0 _ rfl
      have d1 := (HBG.out.below HB2.out) 1 _ rfl
      have d2 := (HBG.out.below HB2.out) 2 _ rfl
      have y0 := (HBX.out.below HB2.out) 0 _ rfl
      have y1 := (HBX.out.below HB2.out) 1 _ rfl
      have y2 := (HBX.out.below HB2.out) 2 _ rfl
      go_wp2_with fail
      refine (HSH.out _ _ _ (below_next HBW.out HB2.out)).mono ?_
      rintro e w3 ⟨rfl, hb3⟩
      have HB3 := hide (below_next HB2.out hb3)
      clear hb3 HSH d0 d1 d2 y0 y1 y2
      by_cases hsh : r' = r ∧ c' = cw
      · rw [shapeB_yes hsh]
        have HF := hide (fun W (h : Below w.heap.size w W) => HFO.out W h (by first | rfl | trivial) (by first | rfl | trivial) ⟨hsh.1, by rw [← HEQ.out.2.1, HCW.out]; exact hsh.2⟩)
        clear hsh HFO
        have d0 := (HBG.out.below HB3.out) 0 _ rfl
        have d1 := (HBG.out.below HB3.out) 1 _ rfl
        have d2 := (HBG.out.below HB3.out) 2 _ rfl
        have y0 := (HBX.out.below HB3.out) 0 _ rfl
        have y1 := (HBX.out.below HB3.out) 1 _ rfl
        have y2 := (HBX.out.below HB3.out) 2 _ rfl
        go_wp2_with fail
        refine (HF.out _ (below_next HBW.out HB3.out)).mono ?_
        rintro e w4 ⟨v', dv, rfl, hm', hd', hb4, hf4, hg4⟩
        obtain ⟨s', rfl, hs'⟩ := hm'
        obtain ⟨qa, qn, qk, rfl⟩ := hs'.shape
        obtain ⟨s1, s2, rfl, hs1, hs2⟩ := hd'
        obtain ⟨ua, un, uk, rfl⟩ := hs1.shape
        obtain ⟨va, vn, vk, rfl⟩ := hs2.shape
        have hfr := hg4 _ _ _ _ _ _ _ _ _ _ rfl
        have HN := hide hs'
        have HU := hide hs1
        have HW := hide hs2
        have HNF := hide (fresh_mono hf4 HB3.out.size)
        have HUF := hide (fresh_mono hfr.1 HB3.out.size)
        have HWF := hide (fresh_mono hfr.2 HB3.out.size)
        have HB4 := hide (below_next HB3.out hb4)
        clear hs' hs1 hs2 hb4 hf4 hg4 hfr HF d0 d1 d2 y0 y1 y2
        have p0 := (HQ.out.below HB4.out) 0 _ rfl
        have p1 := (HQ.out.below HB4.out) 1 _ rfl
        have p2 := (HQ.out.below HB4.out) 2 _ rfl
        have f0 := (HFR.out.below HB4.out HL.out) 0
        have f1 := (HFR.out.below HB4.out HL.out) 1
        have f2 := (HFR.out.below HB4.out HL.out) 2
        have q0 := (HP.out.below HB4.out) 0 _ rfl
        have q1 := (HP.out.below HB4.out) 1 _ rfl
        have q2 := (HP.out.below HB4.out) 2 _ rfl
        have q3 := (HP.out.below HB4.out) 3 _ rfl
        have q4 := (HP.out.below HB4.out) 4 _ rfl
        have q5 := (HP.out.below HB4.out) 5 _ rfl
        have h0 := (HFP.out.below HB4.out HM2.out) 0
        have h1 := (HFP.out.below HB4.out HM2.out) 1
        have h2 := (HFP.out.below HB4.out HM2.out) 2
        have h3 := (HFP.out.below HB4.out HM2.out) 3
        have h4 := (HFP.out.below HB4.out HM2.out) 4
        have h5 := (HFP.out.below HB4.out HM2.out) 5
        go_wp2
        have HA := above9 (B := w.heap.size + 1 + 1 + 1) (C := w.heap.size + 1 + 1 + 1 + 1) HL.out HM2.out w4 (.int .i64 q.rows) (.int .i64 q.cols) (.slice qa qn qk) (.int .i64 da.rows) (.int .i64 da.cols) (.slice ua un uk) (.int .i64 db.rows) (.int .i64 db.cols) (.slice va vn vk)
        exact bodyPost_ret (v := .tuple #[.agg #[.int .i64 q.rows, .int .i64 q.cols, .slice qa qn qk], .agg #[.int .i64 da.rows, .int .i64 da.cols, .slice ua un uk, .int .i64 db.rows, .int .i64 db.cols, .slice va vn vk], errV j]) (by simp [results, Tryd.results30, go_sem, p0, p1, p2, q0, q1, q2, q3, q4, q5]) rfl
          ⟨_, _, rfl, ⟨_, rfl, HN.out.above HNF.out HA⟩, two_of (HU.out.above HUF.out HA) (HW.out.above HWF.out HA), below9 (below_next HBW.out HB4.out) (B := w.heap.size + 1 + 1 + 1) (C := w.heap.size + 1 + 1 + 1 + 1) (by omega) (by omega) _ _ _ _ _ _ _ _ _, fresh_mono HNF.out HBW.out.size, fresh2_of (fresh_mono HUF.out HBW.out.size) (fresh_mono HWF.out HBW.out.size)⟩
      · rw [shapeB_no hsh]
        obtain rfl : j = 2 := by rw [← HQE.out.2.2.2.1]; exact backE_s HQE.out.2.2.2.2.1 HQE.out.2.2.2.2.2.2 (by have h1 := HEQ.out; rw [h1.1, h1.2.2.1, h1.2.2.2, HCW.out]; exact hsh)
        have HE := hide (show (2 : Int) ≠ 0 by decide)
        obtain ⟨rfl, rfl, rfl⟩ := HNO.out HE.out
        clear hsh HFO
        have p0 := (HQ.out.below HB3.out) 0 _ rfl
        have p1 := (HQ.out.below HB3.out) 1 _ rfl
        have p2 := (HQ.out.below HB3.out) 2 _ rfl
        have f0 := (HFR.out.below HB3.out HL.out) 0
        have f1 := (HFR.out.below HB3.out HL.out) 1
        have f2 := (HFR.out.below HB3.out HL.out) 2
        have q0 := (HP.out.below HB3.out) 0 _ rfl
        have q1 := (HP.out.below HB3.out) 1 _ rfl
        have q2 := (HP.out.below HB3.out) 2 _ rfl
        have q3 := (HP.out.below HB3.out) 3 _ rfl
        have q4 := (HP.out.below HB3.out) 4 _ rfl
        have q5 := (HP.out.below HB3.out) 5 _ rfl
        have h0 := (HFP.out.below HB3.out HM2.out) 0
        have h1 := (HFP.out.below HB3.out HM2.out) 1
        have h2 := (HFP.out.below HB3.out HM2.out) 2
        have h3 := (HFP.out.below HB3.out HM2.out) 3
        have h4 := (HFP.out.below HB3.out HM2.out) 4
        have h5 := (HFP.out.below HB3.out HM2.out) 5
        go_wp2
        exact bodyPost_ret (v := .tuple #[.agg #[.int .i64 0, .int .i64 0, .slice none 0 0], .agg #[.int .i64 0, .int .i64 0, .slice none 0 0, .int .i64 0, .int .i64 0, .slice none 0 0], .iface 30 (.int .i64 2)]) (by simp [results, Tryd.results30, go_sem, p0, p1, p2, q0, q1, q2, q3, q4, q5]) rfl
          ⟨_, _, by rw [err_ne HE.out], isMx_no _, isTwo_no _, below9 (below_next HBW.out HB3.out) (B := w.heap.size + 1 + 1 + 1) (C := w.heap.size + 1 + 1 + 1 + 1) (by omega) (by omega) _ _ _ _ _ _ _ _ _, fresh_no _ _ _, fresh2_no _ _ _ _ _⟩
    · rw [err_ne hfg]
      obtain rfl : j = fg := by rw [← HQE.out.2.2.2.1, ← HQE.out.2.2.2.2.2.2]; exact backE_g HQE.out.2.2.2.2.1 (by rw [HQE.out.2.2.2.2.2.2]; exact hfg)
      have HE := hide hfg
      obtain ⟨rfl, rfl, rfl⟩ := HNO.out hfg
      clear hfg HFO
      have p0 := (HQ.out.below HB2.out) 0 _ rfl
      have p1 := (HQ.out.below HB2.out) 1 _ rfl
      have p2 := (HQ.out.below HB2.out) 2 _ rfl
      have f0 := (HFR.out.below HB2.out HL.out) 0
      have f1 := (HFR.out.below HB2.out HL.out) 1
      have f2 := (HFR.out.below HB2.out HL.out) 2
      have q0 := (HP.out.below HB2.out) 0 _ rfl
      have q1 := (HP.out.below HB2.out) 1 _ rfl
      have q2 := (HP.out.below HB2.out) 2 _ rfl
      have q3 := (HP.out.below HB2.out) 3 _ rfl
      have q4 := (HP.out.below HB2.out) 4 _ rfl
      have q5 := (HP.out.below HB2.out) 5 _ rfl
      have h0 := (HFP.out.below HB2.out HM2.out) 0
      have h1 := (HFP.out.below HB2.out HM2.out) 1
      have h2 := (HFP.out.below HB2.out HM2.out) 2
      have h3 := (HFP.out.below HB2.out HM2.out) 3
      have h4 := (HFP.out.below HB2.out HM2.out) 4
      have h5 := (HFP.out.below HB2.out HM2.out) 5
      go_wp2
      exact bodyPost_ret (v := .tuple #[.agg #[.int .i64 0, .int .i64 0, .slice none 0 0], .agg #[.int .i64 0, .int .i64 0, .slice none 0 0, .int .i64 0, .int .i64 0, .slice none 0 0], .iface 30 (.int .i64 j)]) (by simp [results, Tryd.results30, go_sem, p0, p1, p2, q0, q1, q2, q3, q4, q5]) rfl
        ⟨_, _, by rw [err_ne HE.out], isMx_no _, isTwo_no _, below9 (below_next HBW.out HB2.out) (B := w.heap.size + 1 + 1 + 1) (C := w.heap.size + 1 + 1 + 1 + 1) (by omega) (by omega) _ _ _ _ _ _ _ _ _, fresh_no _ _ _, fresh2_no _ _ _ _ _⟩
  · rw [← kindR_no hE, err_ne hE]
    obtain rfl : j = E := by rw [← HQE.out.2.2.2.1, ← HQE.out.2.2.2.2.1]; exact backE_go (by rw [HQE.out.2.2.2.2.1]; exact hE)
    have HE := hide hE
    obtain ⟨rfl, rfl, rfl⟩ := HNO.out hE
    clear hE HFO
    have p0 := (HQ.out.below HB1.out) 0 _ rfl
    have p1 := (HQ.out.below HB1.out) 1 _ rfl
    have p2 := (HQ.out.below HB1.out) 2 _ rfl
    have f0 := (HFR.out.below HB1.out HL.out) 0
    have f1 := (HFR.out.below HB1.out HL.out) 1
    have f2 := (HFR.out.below HB1.out HL.out) 2
    have q0 := (HP.out.below HB1.out) 0 _ rfl
    have q1 := (HP.out.below HB1.out) 1 _ rfl
    have q2 := (HP.out.below HB1.out) 2 _ rfl
    have q3 := (HP.out.below HB1.out) 3 _ rfl
    have q4 := (HP.out.below HB1.out) 4 _ rfl
    have q5 := (HP.out.below HB1.out) 5 _ rfl
    have h0 := (HFP.out.below HB1.out HM2.out) 0
    have h1 := (HFP.out.below HB1.out HM2.out) 1
    have h2 := (HFP.out.below HB1.out HM2.out) 2
    have h3 := (HFP.out.below HB1.out HM2.out) 3
    have h4 := (HFP.out.below HB1.out HM2.out) 4
    have h5 := (HFP.out.below HB1.out HM2.out) 5
    go_wp2
    exact bodyPost_ret (v := .tuple #[.agg #[.int .i64 0, .int .i64 0, .slice none 0 0], .agg #[.int .i64 0, .int .i64 0, .slice none 0 0, .int .i64 0, .int .i64 0, .slice none 0 0], .iface 30 (.int .i64 j)]) (by simp [results, Tryd.results30, go_sem, p0, p1, p2, q0, q1, q2, q3, q4, q5]) rfl
      ⟨_, _, by rw [err_ne HE.out], isMx_no _, isTwo_no _, below9 (below_next HBW.out HB1.out) (B := w.heap.size + 1 + 1 + 1) (C := w.heap.size + 1 + 1 + 1 + 1) (by omega) (by omega) _ _ _ _ _ _ _ _ _, fresh_no _ _ _, fresh2_no _ _ _ _ _⟩
end Go.Proofs.YtbkkhdekjgabfadDoor
/- What Check, Wide, Go and Back of package layer come to, for every layer and every matrix. -/
namespace Go.Proofs.YtbkkhdekjgabfadDoor
open Go.RowKit
set_option maxHeartbeats 1600000 in
theorem lgo_scale (l : Ly) {xa : Option Addr} {xn xk : Nat} {ya : Option Addr} {yn yk : Nat} (x : Mx) (vx : Value) (w : World) (hk : l.k = 3) (hs : IsInts w (.slice xa xn xk) l.w.cells) (ht : IsInts w (.slice ya yn yk) l.b.cells) (hx : IsMx w vx x) :
    Calls Tryd.prog 25 #[.agg #[.int .i64 3, .int .i64 l.w.rows, .int .i64 l.w.cols, .slice xa xn xk, .int .i64 l.b.rows, .int .i64 l.b.cols, .slice ya yn yk], vx] w (MxErr w (goX l x) (goE l x)) := by
  obtain ⟨sx, rfl, hsx⟩ := hx
  obtain ⟨za, zn, zk, rfl⟩ := hsx.shape
  obtain ⟨r, e5⟩ : ∃ r, x.rows = r := ⟨_, rfl⟩
  obtain ⟨c, e6⟩ : ∃ r, x.cols = r := ⟨_, rfl⟩
  obtain ⟨wr, e1⟩ : ∃ r, l.w.rows = r := ⟨_, rfl⟩
  obtain ⟨wc, e2⟩ : ∃ r, l.w.cols = r := ⟨_, rfl⟩
  obtain ⟨br, e3⟩ : ∃ r, l.b.rows = r := ⟨_, rfl⟩
  obtain ⟨bc, e4⟩ : ∃ r, l.b.cols = r := ⟨_, rfl⟩
  have HR := hide (fun W (h : Below w.heap.size w W) => ready_scale l x _ W hk (hs.below h) (ht.below h) ⟨_, rfl, hsx.below h⟩)
  have HFO := hide (fun W (h : Below w.heap.size w W) (h0 : goE l x = 0) => forth_at_scale l x _ W hk h0 (hs.below h) (ht.below h) ⟨_, rfl, hsx.below h⟩)
  rw [e1, e2, e3, e4, e5, e6] at HR HFO
  rw [e1, e2, e3, e4, e5, e6]
  obtain ⟨q, hq⟩ : ∃ q, goX l x = q := ⟨_, rfl⟩
  obtain ⟨E, hE0⟩ : ∃ E, goE l x = E := ⟨_, rfl⟩
  obtain ⟨cw, hcw⟩ : ∃ cw, goW l x = cw := ⟨_, rfl⟩
  have HQE := hide (And.intro hq hE0)
  rw [hE0, hcw] at HR
  rw [hq, hE0] at HFO ⊢
  clear hq hE0 hcw
  have hm : ∀ W : World, (method 276 127 (.agg #[.int .i64 wr, .int .i64 wc, .slice xa xn xk, .int .i64 br, .int .i64 bc, .slice ya yn yk]) "galley/layer.forth").run Tryd.prog W = .ok (119, .agg #[.int .i64 wr, .int .i64 wc, .slice xa xn xk, .int .i64 br, .int .i64 bc, .slice ya yn yk]) W := fun _ => by kernel_rfl
  obtain ⟨V, hV⟩ : ∃ V, V = (((w.alloc (.cells #[.int .i64 3, .int .i64 wr, .int .i64 wc, .slice xa xn xk, .int .i64 br, .int .i64 bc, .slice ya yn yk] 55)).alloc (.cells #[.int .i64 r, .int .i64 c, .slice za zn zk] 25)).alloc (.cells #[.int .i64 0, .int .i64 0, .slice none 0 0] 25)) := ⟨_, rfl⟩
  have HV := hide hV
  have HBW : Hid (Below w.heap.size w V) := by rw [hV]; exact hide (below_next (below_next (below_one _ _) (below_one _ _)) (below_one _ _))
  have HBX : Hid (Box V (w.heap.size + 1) [.int .i64 r, .int .i64 c, .slice za zn zk]) := by rw [hV]; exact hide ((Box.new _ [.int .i64 r, .int .i64 c, .slice za zn zk] 25 (by simp)).below (below_one _ _))
  have HQ : Hid (Box V (w.heap.size + 1 + 1) [.int .i64 0, .int .i64 0, .slice none 0 0]) := by rw [hV]; exact hide (Box.new _ [.int .i64 0, .int .i64 0, .slice none 0 0] 25 (by simp))
  have HFR : Hid (Free V (w.heap.size + 1 + 1)) := by rw [hV]; exact hide (Free.new _ _ 25 (by simp))
  have HL := hide HQ.out.lt
  clear hs ht hsx e1 e2 e3 e4 e5 e6 hk hV
  go_enter Tryd.func25, Tryd.ntmps25
  go_wp2_with fail
  rw [← HV.out]
  refine (HR.out _ HBW.out).mono ?_
  rintro e w1 ⟨rfl, hb1⟩
  have HB1 := hide hb1
  clear hb1 HR
  by_cases hE : E = 0
  · subst hE
    rw [← kindR_yes rfl, err_eq rfl]
    have HF := hide (fun W (h : Below w.heap.size w W) => HFO.out W h rfl)
    clear HFO
    have d0 := (HBX.out.below HB1.out) 0 _ rfl
    have d1 := (HBX.out.below HB1.out) 1 _ rfl
    have d2 := (HBX.out.below HB1.out) 2 _ rfl
    go_wp2_with fail
    refine (HF.out _ (below_next HBW.out HB1.out)).mono ?_
    rintro e w2 ⟨v', rfl, hm', hb2, hf⟩
    obtain ⟨s', rfl, hs'⟩ := hm'
    obtain ⟨qa, qn, qk, rfl⟩ := hs'.shape
    rw [err_eq rfl]
    have HN := hide (show IsMx w2 (.agg #[.int .i64 q.rows, .int .i64 q.cols, .slice qa qn qk]) q from ⟨_, rfl, hs'⟩)
    have HFV := hide (fresh_mono hf HB1.out.size)
    have HB2 := hide (below_next HB1.out hb2)
    clear hs' hb2 hf HF d0 d1 d2
    have p0 := (HQ.out.below HB2.out) 0 _ rfl
    have p1 := (HQ.out.below HB2.out) 1 _ rfl
    have p2 := (HQ.out.below HB2.out) 2 _ rfl
    have f0 := (HFR.out.below HB2.out HL.out) 0
    have f1 := (HFR.out.below HB2.out HL.out) 1
    have f2 := (HFR.out.below HB2.out HL.out) 2
    go_wp2
    obtain ⟨c1, c2, c3⟩ := errEnd HN.out HFV.out HBW.out (B := w.heap.size + 1 + 1) (by omega) HL.out HB2.out (.int .i64 q.rows) (.int .i64 q.cols) (.slice qa qn qk)
    exact bodyPost_ret (v := .tuple #[.agg #[.int .i64 q.rows, .int .i64 q.cols, .slice qa qn qk], .nilIface]) (by simp [results, Tryd.results25, go_sem, p0, p1, p2]) rfl ⟨_, rfl, c1, c2, c3⟩
  · rw [← kindR_no hE, err_ne hE]
    have HE := hide hE
    obtain rfl : q = noMx := by rw [← HQE.out.1]; exact goX_no (by rw [HQE.out.2]; exact hE)
    clear hE HFO
    have p0 := (HQ.out.below HB1.out) 0 _ rfl
    have p1 := (HQ.out.below HB1.out) 1 _ rfl
    have p2 := (HQ.out.below HB1.out) 2 _ rfl
    have f0 := (HFR.out.below HB1.out HL.out) 0
    have f1 := (HFR.out.below HB1.out HL.out) 1
    have f2 := (HFR.out.below HB1.out HL.out) 2
    go_wp2
    exact bodyPost_ret (v := .tuple #[.agg #[.int .i64 0, .int .i64 0, .slice none 0 0], .iface 30 (.int .i64 E)]) (by simp [results, Tryd.results25, go_sem, p0, p1, p2]) rfl ⟨_, by rw [err_ne HE.out], isMx_no _, below_set3 (below_next HBW.out HB1.out) (B := w.heap.size + 1 + 1) (by omega) _ _ _, fresh_no _ _ _⟩
set_option maxHeartbeats 4000000 in
theorem lback_scale (l : Ly) {xa : Option Addr} {xn xk : Nat} {ya : Option Addr} {yn yk : Nat} (x g : Mx) (vx vg : Value) (w : World) (hk : l.k = 3) (hs : IsInts w (.slice xa xn xk) l.w.cells) (ht : IsInts w (.slice ya yn yk) l.b.cells) (hx : IsMx w vx x) (hg : IsMx w vg g) :
    Calls Tryd.prog 30 #[.agg #[.int .i64 3, .int .i64 l.w.rows, .int .i64 l.w.cols, .slice xa xn xk, .int .i64 l.b.rows, .int .i64 l.b.cols, .slice ya yn yk], vx, vg] w (BackErr w (backX l x g) (gradW l x g) (gradB l x g) (backE l x g)) := by
  obtain ⟨sx, rfl, hsx⟩ := hx
  obtain ⟨za, zn, zk, rfl⟩ := hsx.shape
  obtain ⟨r, e5⟩ : ∃ r, x.rows = r := ⟨_, rfl⟩
  obtain ⟨c, e6⟩ : ∃ r, x.cols = r := ⟨_, rfl⟩
  obtain ⟨sg, rfl, hsg⟩ := hg
  obtain ⟨ga, gn, gk, rfl⟩ := hsg.shape
  obtain ⟨r', e7⟩ : ∃ r, g.rows = r := ⟨_, rfl⟩
  obtain ⟨c', e8⟩ : ∃ r, g.cols = r := ⟨_, rfl⟩
  obtain ⟨wr, e1⟩ : ∃ r, l.w.rows = r := ⟨_, rfl⟩
  obtain ⟨wc, e2⟩ : ∃ r, l.w.cols = r := ⟨_, rfl⟩
  obtain ⟨br, e3⟩ : ∃ r, l.b.rows = r := ⟨_, rfl⟩
  obtain ⟨bc, e4⟩ : ∃ r, l.b.cols = r := ⟨_, rfl⟩
  have HR := hide (fun W (h : Below w.heap.size w W) => ready_scale l x _ W hk (hs.below h) (ht.below h) ⟨_, rfl, hsx.below h⟩)
  have HC := hide (fun W (h : Below w.heap.size w W) => check_any _ g W ⟨_, rfl, hsg.below h⟩)
  have HSH := hide (fun W (a b : Int) (h : Below w.heap.size w W) => shape_any _ g a b W ⟨_, rfl, hsg.below h⟩)
  have HFO := hide (fun W (h : Below w.heap.size w W) (h0 : goE l x = 0) (h1 : fault g = 0) (h2 : g.rows = x.rows ∧ g.cols = givesL l x.cols) => back_at_scale l (ya := ya) (yn := yn) (yk := yk) x g _ _ W hk h0 h1 h2 (hs.below h) ⟨_, rfl, hsx.below h⟩ ⟨_, rfl, hsg.below h⟩)
  have HEQ := hide (And.intro e5 (And.intro e6 (And.intro e7 e8)))
  rw [e1, e2, e3, e4, e5, e6] at HR
  rw [e7, e8] at HC HSH
  rw [e1, e2, e3, e4, e5, e6, e7, e8] at HFO
  rw [e1, e2, e3, e4, e5, e6, e7, e8]
  obtain ⟨q, hq⟩ : ∃ q, backX l x g = q := ⟨_, rfl⟩
  obtain ⟨da, hda⟩ : ∃ q, gradW l x g = q := ⟨_, rfl⟩
  obtain ⟨db, hdb⟩ : ∃ q, gradB l x g = q := ⟨_, rfl⟩
  obtain ⟨j, hj⟩ : ∃ q, backE l x g = q := ⟨_, rfl⟩
  obtain ⟨E, hE0⟩ : ∃ E, goE l x = E := ⟨_, rfl⟩
  obtain ⟨cw, hcw⟩ : ∃ cw, goW l x = cw := ⟨_, rfl⟩
  obtain ⟨fg, hfg0⟩ : ∃ fg, fault g = fg := ⟨_, rfl⟩
  have HQE := hide (And.intro hq (And.intro hda (And.intro hdb (And.intro hj (And.intro hE0 (And.intro hcw hfg0))))))
  rw [hE0, hcw] at HR
  rw [hfg0] at HC
  rw [hq, hda, hdb, hj, hE0, hfg0] at HFO
  rw [hq, hda, hdb, hj]
  have HNO := hide (fun (h : j ≠ 0) => (show q = noMx ∧ da = noMx ∧ db = noMx by rw [← hq, ← hda, ← hdb]; exact backX_no (by rw [hj]; exact h)))
  clear hq hda hdb hj hE0 hcw hfg0
  have hm : ∀ W : World, (method 276 127 (.agg #[.int .i64 wr, .int .i64 wc, .slice xa xn xk, .int .i64 br, .int .i64 bc, .slice ya yn yk]) "galley/layer.back").run Tryd.prog W = .ok (117, .agg #[.int .i64 wr, .int .i64 wc, .slice xa xn xk, .int .i64 br, .int .i64 bc, .slice ya yn yk]) W := fun _ => by kernel_rfl
  obtain ⟨V, hV⟩ : ∃ V, V = (((((w.alloc (.cells #[.int .i64 3, .int .i64 wr, .int .i64 wc, .slice xa xn xk, .int .i64 br, .int .i64 bc, .slice ya yn yk] 55)).alloc (.cells #[.int .i64 r, .int .i64 c, .slice za zn zk] 25)).alloc (.cells #[.int .i64 r', .int .i64 c', .slice ga gn gk] 25)).alloc (.cells #[.int .i64 0, .int .i64 0, .slice none 0 0] 25)).alloc (.cells #[.int .i64 0, .int .i64 0, .slice none 0 0, .int .i64 0, .int .i64 0, .slice none 0 0] 57)) := ⟨_, rfl⟩
  have HV := hide hV
  have HBW : Hid (Below w.heap.size w V) := by rw [hV]; exact hide (below_next (below_next (below_next (below_next (below_one _ _) (below_one _ _)) (below_one _ _)) (below_one _ _)) (below_one _ _))
  have HBX : Hid (Box V (w.heap.size + 1) [.int .i64 r, .int .i64 c, .slice za zn zk]) := by rw [hV]; exact hide ((((Box.new _ [.int .i64 r, .int .i64 c, .slice za zn zk] 25 (by simp)).below (below_one _ _)).below (below_one _ _)).below (below_one _ _))
  have HBG : Hid (Box V (w.heap.size + 1 + 1) [.int .i64 r', .int .i64 c', .slice ga gn gk]) := by rw [hV]; exact hide (((Box.new _ [.int .i64 r', .int .i64 c', .slice ga gn gk] 25 (by simp)).below (below_one _ _)).below (below_one _ _))
  have HQ : Hid (Box V (w.heap.size + 1 + 1 + 1) [.int .i64 0, .int .i64 0, .slice none 0 0]) := by rw [hV]; exact hide ((Box.new _ [.int .i64 0, .int .i64 0, .slice none 0 0] 25 (by simp)).below (below_one _ _))
  have HFR : Hid (Free V (w.heap.size + 1 + 1 + 1)) := by rw [hV]; exact hide ((Free.new _ _ 25 (by simp)).below (below_one _ _) (by simp))
  have HP : Hid (Box V (w.heap.size + 1 + 1 + 1 + 1) [.int .i64 0, .int .i64 0, .slice none 0 0, .int .i64 0, .int .i64 0, .slice none 0 0]) := by rw [hV]; exact hide (Box.new _ [.int .i64 0, .int .i64 0, .slice none 0 0, .int .i64 0, .int .i64 0, .slice none 0 0] 57 (by simp))
  have HFP : Hid (Free V (w.heap.size + 1 + 1 + 1 + 1)) := by rw [hV]; exact hide (Free.new _ _ 57 (by simp))
  have HL := hide HQ.out.lt
  have HM2 := hide HP.out.lt
  clear hs ht hsx hsg e1 e2 e3 e4 e5 e6 e7 e8 hk hV
  go_enter Tryd.func30, Tryd.ntmps30
  go_wp2_with fail
  rw [← HV.out]
  refine (HR.out _ HBW.out).mono ?_
  rintro e w1 ⟨rfl, hb1⟩
  have HB1 := hide hb1
  clear hb1 HR
  by_cases hE : E = 0
  · subst hE
    rw [← kindR_yes rfl, err_eq rfl]
    have HCW := hide (show givesL l x.cols = cw by rw [← HQE.out.2.2.2.2.2.1]; unfold goW; rw [if_pos HQE.out.2.2.2.2.1])
    have d0 := (HBG.out.below HB1.out) 0 _ rfl
    have d1 := (HBG.out.below HB1.out) 1 _ rfl
    have d2 := (HBG.out.below HB1.out) 2 _ rfl
    go_wp2_with fail
    refine (HC.out _ (below_next HBW.out HB1.out)).mono ?_
    rintro e w2 ⟨rfl, hb2⟩
    have HB2 := hide (below_next HB1.out hb2)
    clear hb2 HC d0 d1 d2
    by_cases hfg : fg = 0
    · subst hfg
      rw [err_eq rfl]
      have d0 := (HBG.out.below HB2.out) 0 _ rfl
      have d1 := (HBG.out.below HB2.out) 1 _ rfl
      have d2 := (HBG.out.below HB2.out) 2 _ rfl
      have y0 := (HBX.out.below HB2.out) 0 _ rfl
      have y1 := (HBX.out.below HB2.out) 1 _ rfl
      have y2 := (HBX.out.below HB2.out) 2 _ rfl
      go_wp2_with fail
      refine (HSH.out _ _ _ (below_next HBW.out HB2.out)).mono ?_
      rintro e w3 ⟨rfl, hb3⟩
      have HB3 := hide (below_next HB2.out hb3)
      clear hb3 HSH d0 d1 d2 y0 y1 y2
      by_cases hsh : r' = r ∧ c' = cw
      · rw [shapeB_yes hsh]
        have HF := hide (fun W (h : Below w.heap.size w W) => HFO.out W h (by first | rfl | trivial) (by first | rfl | trivial) ⟨hsh.1, by rw [← HEQ.out.2.1, HCW.out]; exact hsh.2⟩)
        clear hsh HFO
        have d0 := (HBG.out.below HB3.out) 0 _ rfl
        have d1 := (HBG.out.below HB3.out) 1 _ rfl
        have d2 := (HBG.out.below HB3.out) 2 _ rfl
        have y0 := (HBX.out.below HB3.out) 0 _ rfl
        have y1 := (HBX.out.below HB3.out) 1 _ rfl
        have y2 := (HBX.out.below HB3.out) 2 _ rfl
        go_wp2_with fail
        refine (HF.out _ (below_next HBW.out HB3.out)).mono ?_
        rintro e w4 ⟨v', dv, rfl, hm', hd', hb4, hf4, hg4⟩
        obtain ⟨s', rfl, hs'⟩ := hm'
        obtain ⟨qa, qn, qk, rfl⟩ := hs'.shape
        obtain ⟨s1, s2, rfl, hs1, hs2⟩ := hd'
        obtain ⟨ua, un, uk, rfl⟩ := hs1.shape
        obtain ⟨va, vn, vk, rfl⟩ := hs2.shape
        have hfr := hg4 _ _ _ _ _ _ _ _ _ _ rfl
        have HN := hide hs'
        have HU := hide hs1
        have HW := hide hs2
        have HNF := hide (fresh_mono hf4 HB3.out.size)
        have HUF := hide (fresh_mono hfr.1 HB3.out.size)
        have HWF := hide (fresh_mono hfr.2 HB3.out.size)
        have HB4 := hide (below_next HB3.out hb4)
        clear hs' hs1 hs2 hb4 hf4 hg4 hfr HF d0 d1 d2 y0 y1 y2
        have p0 := (HQ.out.below HB4.out) 0 _ rfl
        have p1 := (HQ.out.below HB4.out) 1 _ rfl
        have p2 := (HQ.out.below HB4.out) 2 _ rfl
        have f0 := (HFR.out.below HB4.out HL.out) 0
        have f1 := (HFR.out.below HB4.out HL.out) 1
        have f2 := (HFR.out.below HB4.out HL.out) 2
        have q0 := (HP.out.below HB4.out) 0 _ rfl
        have q1 := (HP.out.below HB4.out) 1 _ rfl
        have q2 := (HP.out.below HB4.out) 2 _ rfl
        have q3 := (HP.out.below HB4.out) 3 _ rfl
        have q4 := (HP.out.below HB4.out) 4 _ rfl
        have q5 := (HP.out.below HB4.out) 5 _ rfl
        have h0 := (HFP.out.below HB4.out HM2.out) 0
        have h1 := (HFP.out.below HB4.out HM2.out) 1
        have h2 := (HFP.out.below HB4.out HM2.out) 2
        have h3 := (HFP.out.below HB4.out HM2.out) 3
        have h4 := (HFP.out.below HB4.out HM2.out) 4
        have h5 := (HFP.out.below HB4.out HM2.out) 5
        go_wp2
        have HA := above9 (B := w.heap.size + 1 + 1 + 1) (C := w.heap.size + 1 + 1 + 1 + 1) HL.out HM2.out w4 (.int .i64 q.rows) (.int .i64 q.cols) (.slice qa qn qk) (.int .i64 da.rows) (.int .i64 da.cols) (.slice ua un uk) (.int .i64 db.rows) (.int .i64 db.cols) (.slice va vn vk)
        exact bodyPost_ret (v := .tuple #[.agg #[.int .i64 q.rows, .int .i64 q.cols, .slice qa qn qk], .agg #[.int .i64 da.rows, .int .i64 da.cols, .slice ua un uk, .int .i64 db.rows, .int .i64 db.cols, .slice va vn vk], errV j]) (by simp [results, Tryd.results30, go_sem, p0, p1, p2, q0, q1, q2, q3, q4, q5]) rfl
          ⟨_, _, rfl, ⟨_, rfl, HN.out.above HNF.out HA⟩, two_of (HU.out.above HUF.out HA) (HW.out.above HWF.out HA), below9 (below_next HBW.out HB4.out) (B := w.heap.size + 1 + 1 + 1) (C := w.heap.size + 1 + 1 + 1 + 1) (by omega) (by omega) _ _ _ _ _ _ _ _ _, fresh_mono HNF.out HBW.out.size, fresh2_of (fresh_mono HUF.out HBW.out.size) (fresh_mono HWF.out HBW.out.size)⟩
      · rw [shapeB_no hsh]
        obtain rfl : j = 2 := by rw [← HQE.out.2.2.2.1]; exact backE_s HQE.out.2.2.2.2.1 HQE.out.2.2.2.2.2.2 (by have h1 := HEQ.out; rw [h1.1, h1.2.2.1, h1.2.2.2, HCW.out]; exact hsh)
        have HE := hide (show (2 : Int) ≠ 0 by decide)
        obtain ⟨rfl, rfl, rfl⟩ := HNO.out HE.out
        clear hsh HFO
        have p0 := (HQ.out.below HB3.out) 0 _ rfl
        have p1 := (HQ.out.below HB3.out) 1 _ rfl
        have p2 := (HQ.out.below HB3.out) 2 _ rfl
        have f0 := (HFR.out.below HB3.out HL.out) 0
        have f1 := (HFR.out.below HB3.out HL.out) 1
        have f2 := (HFR.out.below HB3.out HL.out) 2
        have q0 := (HP.out.below HB3.out) 0 _ rfl
        have q1 := (HP.out.below HB3.out) 1 _ rfl
        have q2 := (HP.out.below HB3.out) 2 _ rfl
        have q3 := (HP.out.below HB3.out) 3 _ rfl
        have q4 := (HP.out.below HB3.out) 4 _ rfl
        have q5 := (HP.out.below HB3.out) 5 _ rfl
        have h0 := (HFP.out.below HB3.out HM2.out) 0
        have h1 := (HFP.out.below HB3.out HM2.out) 1
        have h2 := (HFP.out.below HB3.out HM2.out) 2
        have h3 := (HFP.out.below HB3.out HM2.out) 3
        have h4 := (HFP.out.below HB3.out HM2.out) 4
        have h5 := (HFP.out.below HB3.out HM2.out) 5
        go_wp2
        exact bodyPost_ret (v := .tuple #[.agg #[.int .i64 0, .int .i64 0, .slice none 0 0], .agg #[.int .i64 0, .int .i64 0, .slice none 0 0, .int .i64 0, .int .i64 0, .slice none 0 0], .iface 30 (.int .i64 2)]) (by simp [results, Tryd.results30, go_sem, p0, p1, p2, q0, q1, q2, q3, q4, q5]) rfl
          ⟨_, _, by rw [err_ne HE.out], isMx_no _, isTwo_no _, below9 (below_next HBW.out HB3.out) (B := w.heap.size + 1 + 1 + 1) (C := w.heap.size + 1 + 1 + 1 + 1) (by omega) (by omega) _ _ _ _ _ _ _ _ _, fresh_no _ _ _, fresh2_no _ _ _ _ _⟩
    · rw [err_ne hfg]
      obtain rfl : j = fg := by rw [← HQE.out.2.2.2.1, ← HQE.out.2.2.2.2.2.2]; exact backE_g HQE.out.2.2.2.2.1 (by rw [HQE.out.2.2.2.2.2.2]; exact hfg)
      have HE := hide hfg
      obtain ⟨rfl, rfl, rfl⟩ := HNO.out hfg
      clear hfg HFO
      have p0 := (HQ.out.below HB2.out) 0 _ rfl
      have p1 := (HQ.out.below HB2.out) 1 _ rfl
      have p2 := (HQ.out.below HB2.out) 2 _ rfl
      have f0 := (HFR.out.below HB2.out HL.out) 0
      have f1 := (HFR.out.below HB2.out HL.out) 1
      have f2 := (HFR.out.below HB2.out HL.out) 2
      have q0 := (HP.out.below HB2.out) 0 _ rfl
      have q1 := (HP.out.below HB2.out) 1 _ rfl
      have q2 := (HP.out.below HB2.out) 2 _ rfl
      have q3 := (HP.out.below HB2.out) 3 _ rfl
      have q4 := (HP.out.below HB2.out) 4 _ rfl
      have q5 := (HP.out.below HB2.out) 5 _ rfl
      have h0 := (HFP.out.below HB2.out HM2.out) 0
      have h1 := (HFP.out.below HB2.out HM2.out) 1
      have h2 := (HFP.out.below HB2.out HM2.out) 2
      have h3 := (HFP.out.below HB2.out HM2.out) 3
      have h4 := (HFP.out.below HB2.out HM2.out) 4
      have h5 := (HFP.out.below HB2.out HM2.out) 5
      go_wp2
      exact bodyPost_ret (v := .tuple #[.agg #[.int .i64 0, .int .i64 0, .slice none 0 0], .agg #[.int .i64 0, .int .i64 0, .slice none 0 0, .int .i64 0, .int .i64 0, .slice none 0 0], .iface 30 (.int .i64 j)]) (by simp [results, Tryd.results30, go_sem, p0, p1, p2, q0, q1, q2, q3, q4, q5]) rfl
        ⟨_, _, by rw [err_ne HE.out], isMx_no _, isTwo_no _, below9 (below_next HBW.out HB2.out) (B := w.heap.size + 1 + 1 + 1) (C := w.heap.size + 1 + 1 + 1 + 1) (by omega) (by omega) _ _ _ _ _ _ _ _ _, fresh_no _ _ _, fresh2_no _ _ _ _ _⟩
  · rw [← kindR_no hE, err_ne hE]
    obtain rfl : j = E := by rw [← HQE.out.2.2.2.1, ← HQE.out.2.2.2.2.1]; exact backE_go (by rw [HQE.out.2.2.2.2.1]; exact hE)
    have HE := hide hE
    obtain ⟨rfl, rfl, rfl⟩ := HNO.out hE
    clear hE HFO
    have p0 := (HQ.out.below HB1.out) 0 _ rfl
    have p1 := (HQ.out.below HB1.out) 1 _ rfl
    have p2 := (HQ.out.below HB1.out) 2 _ rfl
    have f0 := (HFR.out.below HB1.out HL.out) 0
    have f1 := (HFR.out.below HB1.out HL.out) 1
    have f2 := (HFR.out.below HB1.out HL.out) 2
    have q0 := (HP.out.below HB1.out) 0 _ rfl
    have q1 := (HP.out.below HB1.out) 1 _ rfl
    have q2 := (HP.out.below HB1.out) 2 _ rfl
    have q3 := (HP.out.below HB1.out) 3 _ rfl
    have q4 := (HP.out.below HB1.out) 4 _ rfl
    have q5 := (HP.out.below HB1.out) 5 _ rfl
    have h0 := (HFP.out.below HB1.out HM2.out) 0
    have h1 := (HFP.out.below HB1.out HM2.out) 1
    have h2 := (HFP.out.below HB1.out HM2.out) 2
    have h3 := (HFP.out.below HB1.out HM2.out) 3
    have h4 := (HFP.out.below HB1.out HM2.out) 4
    have h5 := (HFP.out.below HB1.out HM2.out) 5
    go_wp2
    exact bodyPost_ret (v := .tuple #[.agg #[.int .i64 0, .int .i64 0, .slice none 0 0], .agg #[.int .i64 0, .int .i64 0, .slice none 0 0, .int .i64 0, .int .i64 0, .slice none 0 0], .iface 30 (.int .i64 j)]) (by simp [results, Tryd.results30, go_sem, p0, p1, p2, q0, q1, q2, q3, q4, q5]) rfl
      ⟨_, _, by rw [err_ne HE.out], isMx_no _, isTwo_no _, below9 (below_next HBW.out HB1.out) (B := w.heap.size + 1 + 1 + 1) (C := w.heap.size + 1 + 1 + 1 + 1) (by omega) (by omega) _ _ _ _ _ _ _ _ _, fresh_no _ _ _, fresh2_no _ _ _ _ _⟩
set_option maxHeartbeats 1600000 in
theorem lgo_shift (l : Ly) {xa : Option Addr} {xn xk : Nat} {ya : Option Addr} {yn yk : Nat} (x : Mx) (vx : Value) (w : World) (hk : l.k = 4) (hs : IsInts w (.slice xa xn xk) l.w.cells) (ht : IsInts w (.slice ya yn yk) l.b.cells) (hx : IsMx w vx x) :
    Calls Tryd.prog 25 #[.agg #[.int .i64 4, .int .i64 l.w.rows, .int .i64 l.w.cols, .slice xa xn xk, .int .i64 l.b.rows, .int .i64 l.b.cols, .slice ya yn yk], vx] w (MxErr w (goX l x) (goE l x)) := by
  obtain ⟨sx, rfl, hsx⟩ := hx
  obtain ⟨za, zn, zk, rfl⟩ := hsx.shape
  obtain ⟨r, e5⟩ : ∃ r, x.rows = r := ⟨_, rfl⟩
  obtain ⟨c, e6⟩ : ∃ r, x.cols = r := ⟨_, rfl⟩
  obtain ⟨wr, e1⟩ : ∃ r, l.w.rows = r := ⟨_, rfl⟩
  obtain ⟨wc, e2⟩ : ∃ r, l.w.cols = r := ⟨_, rfl⟩
  obtain ⟨br, e3⟩ : ∃ r, l.b.rows = r := ⟨_, rfl⟩
  obtain ⟨bc, e4⟩ : ∃ r, l.b.cols = r := ⟨_, rfl⟩
  have HR := hide (fun W (h : Below w.heap.size w W) => ready_shift l x _ W hk (hs.below h) (ht.below h) ⟨_, rfl, hsx.below h⟩)
  have HFO := hide (fun W (h : Below w.heap.size w W) (h0 : goE l x = 0) => forth_at_shift l x _ W hk h0 (hs.below h) (ht.below h) ⟨_, rfl, hsx.below h⟩)
  rw [e1, e2, e3, e4, e5, e6] at HR HFO
  rw [e1, e2, e3, e4, e5, e6]
  obtain ⟨q, hq⟩ : ∃ q, goX l x = q := ⟨_, rfl⟩
  obtain ⟨E, hE0⟩ : ∃ E, goE l x = E := ⟨_, rfl⟩
  obtain ⟨cw, hcw⟩ : ∃ cw, goW l x = cw := ⟨_, rfl⟩
  have HQE := hide (And.intro hq hE0)
  rw [hE0, hcw] at HR
  rw [hq, hE0] at HFO ⊢
  clear hq hE0 hcw
  have hm : ∀ W : World, (method 276 128 (.agg #[.int .i64 wr, .int .i64 wc, .slice xa xn xk, .int .i64 br, .int .i64 bc, .slice ya yn yk]) "galley/layer.forth").run Tryd.prog W = .ok (124, .agg #[.int .i64 wr, .int .i64 wc, .slice xa xn xk, .int .i64 br, .int .i64 bc, .slice ya yn yk]) W := fun _ => by kernel_rfl
  obtain ⟨V, hV⟩ : ∃ V, V = (((w.alloc (.cells #[.int .i64 4, .int .i64 wr, .int .i64 wc, .slice xa xn xk, .int .i64 br, .int .i64 bc, .slice ya yn yk] 55)).alloc (.cells #[.int .i64 r, .int .i64 c, .slice za zn zk] 25)).alloc (.cells #[.int .i64 0, .int .i64 0, .slice none 0 0] 25)) := ⟨_, rfl⟩
  have HV := hide hV
  have HBW : Hid (Below w.heap.size w V) := by rw [hV]; exact hide (below_next (below_next (below_one _ _) (below_one _ _)) (below_one _ _))
  have HBX : Hid (Box V (w.heap.size + 1) [.int .i64 r, .int .i64 c, .slice za zn zk]) := by rw [hV]; exact hide ((Box.new _ [.int .i64 r, .int .i64 c, .slice za zn zk] 25 (by simp)).below (below_one _ _))
  have HQ : Hid (Box V (w.heap.size + 1 + 1) [.int .i64 0, .int .i64 0, .slice none 0 0]) := by rw [hV]; exact hide (Box.new _ [.int .i64 0, .int .i64 0, .slice none 0 0] 25 (by simp))
  have HFR : Hid (Free V (w.heap.size + 1 + 1)) := by rw [hV]; exact hide (Free.new _ _ 25 (by simp))
  have HL := hide HQ.out.lt
  clear hs ht hsx e1 e2 e3 e4 e5 e6 hk hV
  go_enter Tryd.func25, Tryd.ntmps25
  go_wp2_with fail
  rw [← HV.out]
  refine (HR.out _ HBW.out).mono ?_
  rintro e w1 ⟨rfl, hb1⟩
  have HB1 := hide hb1
  clear hb1 HR
  by_cases hE : E = 0
  · subst hE
    rw [← kindR_yes rfl, err_eq rfl]
    have HF := hide (fun W (h : Below w.heap.size w W) => HFO.out W h rfl)
    clear HFO
    have d0 := (HBX.out.below HB1.out) 0 _ rfl
    have d1 := (HBX.out.below HB1.out) 1 _ rfl
    have d2 := (HBX.out.below HB1.out) 2 _ rfl
    go_wp2_with fail
    refine (HF.out _ (below_next HBW.out HB1.out)).mono ?_
    rintro e w2 ⟨v', rfl, hm', hb2, hf⟩
    obtain ⟨s', rfl, hs'⟩ := hm'
    obtain ⟨qa, qn, qk, rfl⟩ := hs'.shape
    rw [err_eq rfl]
    have HN := hide (show IsMx w2 (.agg #[.int .i64 q.rows, .int .i64 q.cols, .slice qa qn qk]) q from ⟨_, rfl, hs'⟩)
    have HFV := hide (fresh_mono hf HB1.out.size)
    have HB2 := hide (below_next HB1.out hb2)
    clear hs' hb2 hf HF d0 d1 d2
    have p0 := (HQ.out.below HB2.out) 0 _ rfl
    have p1 := (HQ.out.below HB2.out) 1 _ rfl
    have p2 := (HQ.out.below HB2.out) 2 _ rfl
    have f0 := (HFR.out.below HB2.out HL.out) 0
    have f1 := (HFR.out.below HB2.out HL.out) 1
    have f2 := (HFR.out.below HB2.out HL.out) 2
    go_wp2
    obtain ⟨c1, c2, c3⟩ := errEnd HN.out HFV.out HBW.out (B := w.heap.size + 1 + 1) (by omega) HL.out HB2.out (.int .i64 q.rows) (.int .i64 q.cols) (.slice qa qn qk)
    exact bodyPost_ret (v := .tuple #[.agg #[.int .i64 q.rows, .int .i64 q.cols, .slice qa qn qk], .nilIface]) (by simp [results, Tryd.results25, go_sem, p0, p1, p2]) rfl ⟨_, rfl, c1, c2, c3⟩
  · rw [← kindR_no hE, err_ne hE]
    have HE := hide hE
    obtain rfl : q = noMx := by rw [← HQE.out.1]; exact goX_no (by rw [HQE.out.2]; exact hE)
    clear hE HFO
    have p0 := (HQ.out.below HB1.out) 0 _ rfl
    have p1 := (HQ.out.below HB1.out) 1 _ rfl
    have p2 := (HQ.out.below HB1.out) 2 _ rfl
    have f0 := (HFR.out.below HB1.out HL.out) 0
    have f1 := (HFR.out.below HB1.out HL.out) 1
    have f2 := (HFR.out.below HB1.out HL.out) 2
    go_wp2
    exact bodyPost_ret (v := .tuple #[.agg #[.int .i64 0, .int .i64 0, .slice none 0 0], .iface 30 (.int .i64 E)]) (by simp [results, Tryd.results25, go_sem, p0, p1, p2]) rfl ⟨_, by rw [err_ne HE.out], isMx_no _, below_set3 (below_next HBW.out HB1.out) (B := w.heap.size + 1 + 1) (by omega) _ _ _, fresh_no _ _ _⟩
set_option maxHeartbeats 4000000 in
theorem lback_shift (l : Ly) {xa : Option Addr} {xn xk : Nat} {ya : Option Addr} {yn yk : Nat} (x g : Mx) (vx vg : Value) (w : World) (hk : l.k = 4) (hs : IsInts w (.slice xa xn xk) l.w.cells) (ht : IsInts w (.slice ya yn yk) l.b.cells) (hx : IsMx w vx x) (hg : IsMx w vg g) :
    Calls Tryd.prog 30 #[.agg #[.int .i64 4, .int .i64 l.w.rows, .int .i64 l.w.cols, .slice xa xn xk, .int .i64 l.b.rows, .int .i64 l.b.cols, .slice ya yn yk], vx, vg] w (BackErr w (backX l x g) (gradW l x g) (gradB l x g) (backE l x g)) := by
  obtain ⟨sx, rfl, hsx⟩ := hx
  obtain ⟨za, zn, zk, rfl⟩ := hsx.shape
  obtain ⟨r, e5⟩ : ∃ r, x.rows = r := ⟨_, rfl⟩
  obtain ⟨c, e6⟩ : ∃ r, x.cols = r := ⟨_, rfl⟩
  obtain ⟨sg, rfl, hsg⟩ := hg
  obtain ⟨ga, gn, gk, rfl⟩ := hsg.shape
  obtain ⟨r', e7⟩ : ∃ r, g.rows = r := ⟨_, rfl⟩
  obtain ⟨c', e8⟩ : ∃ r, g.cols = r := ⟨_, rfl⟩
  obtain ⟨wr, e1⟩ : ∃ r, l.w.rows = r := ⟨_, rfl⟩
  obtain ⟨wc, e2⟩ : ∃ r, l.w.cols = r := ⟨_, rfl⟩
  obtain ⟨br, e3⟩ : ∃ r, l.b.rows = r := ⟨_, rfl⟩
  obtain ⟨bc, e4⟩ : ∃ r, l.b.cols = r := ⟨_, rfl⟩
  have HR := hide (fun W (h : Below w.heap.size w W) => ready_shift l x _ W hk (hs.below h) (ht.below h) ⟨_, rfl, hsx.below h⟩)
  have HC := hide (fun W (h : Below w.heap.size w W) => check_any _ g W ⟨_, rfl, hsg.below h⟩)
  have HSH := hide (fun W (a b : Int) (h : Below w.heap.size w W) => shape_any _ g a b W ⟨_, rfl, hsg.below h⟩)
  have HFO := hide (fun W (h : Below w.heap.size w W) (h0 : goE l x = 0) (h1 : fault g = 0) (h2 : g.rows = x.rows ∧ g.cols = givesL l x.cols) => back_at_shift l (ya := ya) (yn := yn) (yk := yk) x g _ _ W hk h0 h1 h2 (hs.below h) ⟨_, rfl, hsx.below h⟩ ⟨_, rfl, hsg.below h⟩)
  have HEQ := hide (And.intro e5 (And.intro e6 (And.intro e7 e8)))
  rw [e1, e2, e3, e4, e5, e6] at HR
  rw [e7, e8] at HC HSH
  rw [e1, e2, e3, e4, e5, e6, e7, e8] at HFO
  rw [e1, e2, e3, e4, e5, e6, e7, e8]
  obtain ⟨q, hq⟩ : ∃ q, backX l x g = q := ⟨_, rfl⟩
  obtain ⟨da, hda⟩ : ∃ q, gradW l x g = q := ⟨_, rfl⟩
  obtain ⟨db, hdb⟩ : ∃ q, gradB l x g = q := ⟨_, rfl⟩
  obtain ⟨j, hj⟩ : ∃ q, backE l x g = q := ⟨_, rfl⟩
  obtain ⟨E, hE0⟩ : ∃ E, goE l x = E := ⟨_, rfl⟩
  obtain ⟨cw, hcw⟩ : ∃ cw, goW l x = cw := ⟨_, rfl⟩
  obtain ⟨fg, hfg0⟩ : ∃ fg, fault g = fg := ⟨_, rfl⟩
  have HQE := hide (And.intro hq (And.intro hda (And.intro hdb (And.intro hj (And.intro hE0 (And.intro hcw hfg0))))))
  rw [hE0, hcw] at HR
  rw [hfg0] at HC
  rw [hq, hda, hdb, hj, hE0, hfg0] at HFO
  rw [hq, hda, hdb, hj]
  have HNO := hide (fun (h : j ≠ 0) => (show q = noMx ∧ da = noMx ∧ db = noMx by rw [← hq, ← hda, ← hdb]; exact backX_no (by rw [hj]; exact h)))
  clear hq hda hdb hj hE0 hcw hfg0
  have hm : ∀ W : World, (method 276 128 (.agg #[.int .i64 wr, .int .i64 wc, .slice xa xn xk, .int .i64 br, .int .i64 bc, .slice ya yn yk]) "galley/layer.back").run Tryd.prog W = .ok (122, .agg #[.int .i64 wr, .int .i64 wc, .slice xa xn xk, .int .i64 br, .int .i64 bc, .slice ya yn yk]) W := fun _ => by kernel_rfl
  obtain ⟨V, hV⟩ : ∃ V, V = (((((w.alloc (.cells #[.int .i64 4, .int .i64 wr, .int .i64 wc, .slice xa xn xk, .int .i64 br, .int .i64 bc, .slice ya yn yk] 55)).alloc (.cells #[.int .i64 r, .int .i64 c, .slice za zn zk] 25)).alloc (.cells #[.int .i64 r', .int .i64 c', .slice ga gn gk] 25)).alloc (.cells #[.int .i64 0, .int .i64 0, .slice none 0 0] 25)).alloc (.cells #[.int .i64 0, .int .i64 0, .slice none 0 0, .int .i64 0, .int .i64 0, .slice none 0 0] 57)) := ⟨_, rfl⟩
  have HV := hide hV
  have HBW : Hid (Below w.heap.size w V) := by rw [hV]; exact hide (below_next (below_next (below_next (below_next (below_one _ _) (below_one _ _)) (below_one _ _)) (below_one _ _)) (below_one _ _))
  have HBX : Hid (Box V (w.heap.size + 1) [.int .i64 r, .int .i64 c, .slice za zn zk]) := by rw [hV]; exact hide ((((Box.new _ [.int .i64 r, .int .i64 c, .slice za zn zk] 25 (by simp)).below (below_one _ _)).below (below_one _ _)).below (below_one _ _))
  have HBG : Hid (Box V (w.heap.size + 1 + 1) [.int .i64 r', .int .i64 c', .slice ga gn gk]) := by rw [hV]; exact hide (((Box.new _ [.int .i64 r', .int .i64 c', .slice ga gn gk] 25 (by simp)).below (below_one _ _)).below (below_one _ _))
  have HQ : Hid (Box V (w.heap.size + 1 + 1 + 1) [.int .i64 0, .int .i64 0, .slice none 0 0]) := by rw [hV]; exact hide ((Box.new _ [.int .i64 0, .int .i64 0, .slice none 0 0] 25 (by simp)).below (below_one _ _))
  have HFR : Hid (Free V (w.heap.size + 1 + 1 + 1)) := by rw [hV]; exact hide ((Free.new _ _ 25 (by simp)).below (below_one _ _) (by simp))
  have HP : Hid (Box V (w.heap.size + 1 + 1 + 1 + 1) [.int .i64 0, .int .i64 0, .slice none 0 0, .int .i64 0, .int .i64 0, .slice none 0 0]) := by rw [hV]; exact hide (Box.new _ [.int .i64 0, .int .i64 0, .slice none 0 0, .int .i64 0, .int .i64 0, .slice none 0 0] 57 (by simp))
  have HFP : Hid (Free V (w.heap.size + 1 + 1 + 1 + 1)) := by rw [hV]; exact hide (Free.new _ _ 57 (by simp))
  have HL := hide HQ.out.lt
  have HM2 := hide HP.out.lt
  clear hs ht hsx hsg e1 e2 e3 e4 e5 e6 e7 e8 hk hV
  go_enter Tryd.func30, Tryd.ntmps30
  go_wp2_with fail
  rw [← HV.out]
  refine (HR.out _ HBW.out).mono ?_
  rintro e w1 ⟨rfl, hb1⟩
  have HB1 := hide hb1
  clear hb1 HR
  by_cases hE : E = 0
  · subst hE
    rw [← kindR_yes rfl, err_eq rfl]
    have HCW := hide (show givesL l x.cols = cw by rw [← HQE.out.2.2.2.2.2.1]; unfold goW; rw [if_pos HQE.out.2.2.2.2.1])
    have d0 := (HBG.out.below HB1.out) 0 _ rfl
    have d1 := (HBG.out.below HB1.out) 1 _ rfl
    have d2 := (HBG.out.below HB1.out) 2 _ rfl
    go_wp2_with fail
    refine (HC.out _ (below_next HBW.out HB1.out)).mono ?_
    rintro e w2 ⟨rfl, hb2⟩
    have HB2 := hide (below_next HB1.out hb2)
    clear hb2 HC d0 d1 d2
    by_cases hfg : fg = 0
    · subst hfg
      rw [err_eq rfl]
      have d0 := (HBG.out.below HB2.out) 0 _ rfl
      have d1 := (HBG.out.below HB2.out) 1 _ rfl
      have d2 := (HBG.out.below HB2.out) 2 _ rfl
      have y0 := (HBX.out.below HB2.out) 0 _ rfl
      have y1 := (HBX.out.below HB2.out) 1 _ rfl
      have y2 := (HBX.out.below HB2.out) 2 _ rfl
      go_wp2_with fail
      refine (HSH.out _ _ _ (below_next HBW.out HB2.out)).mono ?_
      rintro e w3 ⟨rfl, hb3⟩
      have HB3 := hide (below_next HB2.out hb3)
      clear hb3 HSH d0 d1 d2 y0 y1 y2
      by_cases hsh : r' = r ∧ c' = cw
      · rw [shapeB_yes hsh]
        have HF := hide (fun W (h : Below w.heap.size w W) => HFO.out W h (by first | rfl | trivial) (by first | rfl | trivial) ⟨hsh.1, by rw [← HEQ.out.2.1, HCW.out]; exact hsh.2⟩)
        clear hsh HFO
        have d0 := (HBG.out.below HB3.out) 0 _ rfl
        have d1 := (HBG.out.below HB3.out) 1 _ rfl
        have d2 := (HBG.out.below HB3.out) 2 _ rfl
        have y0 := (HBX.out.below HB3.out) 0 _ rfl
        have y1 := (HBX.out.below HB3.out) 1 _ rfl
        have y2 := (HBX.out.below HB3.out) 2 _ rfl
        go_wp2_with fail
        refine (HF.out _ (below_next HBW.out HB3.out)).mono ?_
        rintro e w4 ⟨v', dv, rfl, hm', hd', hb4, hf4, hg4⟩
        obtain ⟨s', rfl, hs'⟩ := hm'
        obtain ⟨qa, qn, qk, rfl⟩ := hs'.shape
        obtain ⟨s1, s2, rfl, hs1, hs2⟩ := hd'
        obtain ⟨ua, un, uk, rfl⟩ := hs1.shape
        obtain ⟨va, vn, vk, rfl⟩ := hs2.shape
        have hfr := hg4 _ _ _ _ _ _ _ _ _ _ rfl
        have HN := hide hs'
        have HU := hide hs1
        have HW := hide hs2
        have HNF := hide (fresh_mono hf4 HB3.out.size)
        have HUF := hide (fresh_mono hfr.1 HB3.out.size)
        have HWF := hide (fresh_mono hfr.2 HB3.out.size)
        have HB4 := hide (below_next HB3.out hb4)
        clear hs' hs1 hs2 hb4 hf4 hg4 hfr HF d0 d1 d2 y0 y1 y2
        have p0 := (HQ.out.below HB4.out) 0 _ rfl
        have p1 := (HQ.out.below HB4.out) 1 _ rfl
        have p2 := (HQ.out.below HB4.out) 2 _ rfl
        have f0 := (HFR.out.below HB4.out HL.out) 0
        have f1 := (HFR.out.below HB4.out HL.out) 1
        have f2 := (HFR.out.below HB4.out HL.out) 2
        have q0 := (HP.out.below HB4.out) 0 _ rfl
        have q1 := (HP.out.below HB4.out) 1 _ rfl
        have q2 := (HP.out.below HB4.out) 2 _ rfl
        have q3 := (HP.out.below HB4.out) 3 _ rfl
        have q4 := (HP.out.below HB4.out) 4 _ rfl
        have q5 := (HP.out.below HB4.out) 5 _ rfl
        have h0 := (HFP.out.below HB4.out HM2.out) 0
        have h1 := (HFP.out.below HB4.out HM2.out) 1
        have h2 := (HFP.out.below HB4.out HM2.out) 2
        have h3 := (HFP.out.below HB4.out HM2.out) 3
        have h4 := (HFP.out.below HB4.out HM2.out) 4
        have h5 := (HFP.out.below HB4.out HM2.out) 5
        go_wp2
        have HA := above9 (B := w.heap.size + 1 + 1 + 1) (C := w.heap.size + 1 + 1 + 1 + 1) HL.out HM2.out w4 (.int .i64 q.rows) (.int .i64 q.cols) (.slice qa qn qk) (.int .i64 da.rows) (.int .i64 da.cols) (.slice ua un uk) (.int .i64 db.rows) (.int .i64 db.cols) (.slice va vn vk)
        exact bodyPost_ret (v := .tuple #[.agg #[.int .i64 q.rows, .int .i64 q.cols, .slice qa qn qk], .agg #[.int .i64 da.rows, .int .i64 da.cols, .slice ua un uk, .int .i64 db.rows, .int .i64 db.cols, .slice va vn vk], errV j]) (by simp [results, Tryd.results30, go_sem, p0, p1, p2, q0, q1, q2, q3, q4, q5]) rfl
          ⟨_, _, rfl, ⟨_, rfl, HN.out.above HNF.out HA⟩, two_of (HU.out.above HUF.out HA) (HW.out.above HWF.out HA), below9 (below_next HBW.out HB4.out) (B := w.heap.size + 1 + 1 + 1) (C := w.heap.size + 1 + 1 + 1 + 1) (by omega) (by omega) _ _ _ _ _ _ _ _ _, fresh_mono HNF.out HBW.out.size, fresh2_of (fresh_mono HUF.out HBW.out.size) (fresh_mono HWF.out HBW.out.size)⟩
      · rw [shapeB_no hsh]
        obtain rfl : j = 2 := by rw [← HQE.out.2.2.2.1]; exact backE_s HQE.out.2.2.2.2.1 HQE.out.2.2.2.2.2.2 (by have h1 := HEQ.out; rw [h1.1, h1.2.2.1, h1.2.2.2, HCW.out]; exact hsh)
        have HE := hide (show (2 : Int) ≠ 0 by decide)
        obtain ⟨rfl, rfl, rfl⟩ := HNO.out HE.out
        clear hsh HFO
        have p0 := (HQ.out.below HB3.out) 0 _ rfl
        have p1 := (HQ.out.below HB3.out) 1 _ rfl
        have p2 := (HQ.out.below HB3.out) 2 _ rfl
        have f0 := (HFR.out.below HB3.out HL.out) 0
        have f1 := (HFR.out.below HB3.out HL.out) 1
        have f2 := (HFR.out.below HB3.out HL.out) 2
        have q0 := (HP.out.below HB3.out) 0 _ rfl
        have q1 := (HP.out.below HB3.out) 1 _ rfl
        have q2 := (HP.out.below HB3.out) 2 _ rfl
        have q3 := (HP.out.below HB3.out) 3 _ rfl
        have q4 := (HP.out.below HB3.out) 4 _ rfl
        have q5 := (HP.out.below HB3.out) 5 _ rfl
        have h0 := (HFP.out.below HB3.out HM2.out) 0
        have h1 := (HFP.out.below HB3.out HM2.out) 1
        have h2 := (HFP.out.below HB3.out HM2.out) 2
        have h3 := (HFP.out.below HB3.out HM2.out) 3
        have h4 := (HFP.out.below HB3.out HM2.out) 4
        have h5 := (HFP.out.below HB3.out HM2.out) 5
        go_wp2
        exact bodyPost_ret (v := .tuple #[.agg #[.int .i64 0, .int .i64 0, .slice none 0 0], .agg #[.int .i64 0, .int .i64 0, .slice none 0 0, .int .i64 0, .int .i64 0, .slice none 0 0], .iface 30 (.int .i64 2)]) (by simp [results, Tryd.results30, go_sem, p0, p1, p2, q0, q1, q2, q3, q4, q5]) rfl
          ⟨_, _, by rw [err_ne HE.out], isMx_no _, isTwo_no _, below9 (below_next HBW.out HB3.out) (B := w.heap.size + 1 + 1 + 1) (C := w.heap.size + 1 + 1 + 1 + 1) (by omega) (by omega) _ _ _ _ _ _ _ _ _, fresh_no _ _ _, fresh2_no _ _ _ _ _⟩
    · rw [err_ne hfg]
      obtain rfl : j = fg := by rw [← HQE.out.2.2.2.1, ← HQE.out.2.2.2.2.2.2]; exact backE_g HQE.out.2.2.2.2.1 (by rw [HQE.out.2.2.2.2.2.2]; exact hfg)
      have HE := hide hfg
      obtain ⟨rfl, rfl, rfl⟩ := HNO.out hfg
      clear hfg HFO
      have p0 := (HQ.out.below HB2.out) 0 _ rfl
      have p1 := (HQ.out.below HB2.out) 1 _ rfl
      have p2 := (HQ.out.below HB2.out) 2 _ rfl
      have f0 := (HFR.out.below HB2.out HL.out) 0
      have f1 := (HFR.out.below HB2.out HL.out) 1
      have f2 := (HFR.out.below HB2.out HL.out) 2
      have q0 := (HP.out.below HB2.out) 0 _ rfl
      have q1 := (HP.out.below HB2.out) 1 _ rfl
      have q2 := (HP.out.below HB2.out) 2 _ rfl
      have q3 := (HP.out.below HB2.out) 3 _ rfl
      have q4 := (HP.out.below HB2.out) 4 _ rfl
      have q5 := (HP.out.below HB2.out) 5 _ rfl
      have h0 := (HFP.out.below HB2.out HM2.out) 0
      have h1 := (HFP.out.below HB2.out HM2.out) 1
      have h2 := (HFP.out.below HB2.out HM2.out) 2
      have h3 := (HFP.out.below HB2.out HM2.out) 3
      have h4 := (HFP.out.below HB2.out HM2.out) 4
      have h5 := (HFP.out.below HB2.out HM2.out) 5
      go_wp2
      exact bodyPost_ret (v := .tuple #[.agg #[.int .i64 0, .int .i64 0, .slice none 0 0], .agg #[.int .i64 0, .int .i64 0, .slice none 0 0, .int .i64 0, .int .i64 0, .slice none 0 0], .iface 30 (.int .i64 j)]) (by simp [results, Tryd.results30, go_sem, p0, p1, p2, q0, q1, q2, q3, q4, q5]) rfl
        ⟨_, _, by rw [err_ne HE.out], isMx_no _, isTwo_no _, below9 (below_next HBW.out HB2.out) (B := w.heap.size + 1 + 1 + 1) (C := w.heap.size + 1 + 1 + 1 + 1) (by omega) (by omega) _ _ _ _ _ _ _ _ _, fresh_no _ _ _, fresh2_no _ _ _ _ _⟩
  · rw [← kindR_no hE, err_ne hE]
    obtain rfl : j = E := by rw [← HQE.out.2.2.2.1, ← HQE.out.2.2.2.2.1]; exact backE_go (by rw [HQE.out.2.2.2.2.1]; exact hE)
    have HE := hide hE
    obtain ⟨rfl, rfl, rfl⟩ := HNO.out hE
    clear hE HFO
    have p0 := (HQ.out.below HB1.out) 0 _ rfl
    have p1 := (HQ.out.below HB1.out) 1 _ rfl
    have p2 := (HQ.out.below HB1.out) 2 _ rfl
    have f0 := (HFR.out.below HB1.out HL.out) 0
    have f1 := (HFR.out.below HB1.out HL.out) 1
    have f2 := (HFR.out.below HB1.out HL.out) 2
    have q0 := (HP.out.below HB1.out) 0 _ rfl
    have q1 := (HP.out.below HB1.out) 1 _ rfl
    have q2 := (HP.out.below HB1.out) 2 _ rfl
    have q3 := (HP.out.below HB1.out) 3 _ rfl
    have q4 := (HP.out.below HB1.out) 4 _ rfl
    have q5 := (HP.out.below HB1.out) 5 _ rfl
    have h0 := (HFP.out.below HB1.out HM2.out) 0
    have h1 := (HFP.out.below HB1.out HM2.out) 1
    have h2 := (HFP.out.below HB1.out HM2.out) 2
    have h3 := (HFP.out.below HB1.out HM2.out) 3
    have h4 := (HFP.out.below HB1.out HM2.out) 4
    have h5 := (HFP.out.below HB1.out HM2.out) 5
    go_wp2
    exact bodyPost_ret (v := .tuple #[.agg #[.int .i64 0, .int .i64 0, .slice none 0 0], .agg #[.int .i64 0, .int .i64 0, .slice none 0 0, .int .i64 0, .int .i64 0, .slice none 0 0], .iface 30 (.int .i64 j)]) (by simp [results, Tryd.results30, go_sem, p0, p1, p2, q0, q1, q2, q3, q4, q5]) rfl
      ⟨_, _, by rw [err_ne HE.out], isMx_no _, isTwo_no _, below9 (below_next HBW.out HB1.out) (B := w.heap.size + 1 + 1 + 1) (C := w.heap.size + 1 + 1 + 1 + 1) (by omega) (by omega) _ _ _ _ _ _ _ _ _, fresh_no _ _ _, fresh2_no _ _ _ _ _⟩
end Go.Proofs.YtbkkhdekjgabfadDoor
/- What Go and Back of package layer come to, for every layer and every matrix. -/
namespace Go.Proofs.YtbkkhdekjgabfadDoor
open Go.RowKit
theorem BackErr.any {w : World} {m a b : Mx} {k : Int} {e : Ending} {w' : World} (h : BackErr w m a b k e w') : ∃ p n q p1 n1 q1 p2 n2 q2, e = .returned (.tuple #[.agg #[.int .i64 m.rows, .int .i64 m.cols, .slice p n q], .agg #[.int .i64 a.rows, .int .i64 a.cols, .slice p1 n1 q1, .int .i64 b.rows, .int .i64 b.cols, .slice p2 n2 q2], errV k]) ∧ IsMx w' (.agg #[.int .i64 m.rows, .int .i64 m.cols, .slice p n q]) m ∧ IsInts w' (.slice p1 n1 q1) a.cells ∧ IsInts w' (.slice p2 n2 q2) b.cells ∧ Below w.heap.size w w' := by
  obtain ⟨v', d, rfl, ⟨s, rfl, hs⟩, ⟨s1, s2, rfl, hs1, hs2⟩, hb, _, _⟩ := h
  obtain ⟨p, n, q, rfl⟩ := hs.shape
  obtain ⟨p1, n1, q1, rfl⟩ := hs1.shape
  obtain ⟨p2, n2, q2, rfl⟩ := hs2.shape
  exact ⟨p, n, q, p1, n1, q1, p2, n2, q2, rfl, ⟨_, rfl, hs⟩, hs1, hs2, hb⟩
set_option maxHeartbeats 800000 in
theorem lgo_none (k : Int) (wr wc br bc : Int) (xa : Option Addr) (xn xk : Nat) (ya : Option Addr) (yn yk : Nat) (x : Mx) (vx : Value) (w : World) (hk : k < 1 ∨ 4 < k) (hx : IsMx w vx x) :
    Calls Tryd.prog 25 #[.agg #[.int .i64 k, .int .i64 wr, .int .i64 wc, .slice xa xn xk, .int .i64 br, .int .i64 bc, .slice ya yn yk], vx] w (MxErr w noMx 1) := by
  obtain ⟨sx, rfl, hsx⟩ := hx
  obtain ⟨za, zn, zk, rfl⟩ := hsx.shape
  obtain ⟨r, e5⟩ : ∃ r, x.rows = r := ⟨_, rfl⟩
  obtain ⟨c, e6⟩ : ∃ r, x.cols = r := ⟨_, rfl⟩
  have HR := hide (fun W (h : Below w.heap.size w W) => ready_none k wr wc br bc xa xn xk ya yn yk _ x W hk ⟨_, rfl, hsx.below h⟩)
  rw [e5, e6] at HR
  rw [e5, e6]
  obtain ⟨V, hV⟩ : ∃ V, V = (((w.alloc (.cells #[.int .i64 k, .int .i64 wr, .int .i64 wc, .slice xa xn xk, .int .i64 br, .int .i64 bc, .slice ya yn yk] 55)).alloc (.cells #[.int .i64 r, .int .i64 c, .slice za zn zk] 25)).alloc (.cells #[.int .i64 0, .int .i64 0, .slice none 0 0] 25)) := ⟨_, rfl⟩
  have HV := hide hV
  have HBW : Hid (Below w.heap.size w V) := by rw [hV]; exact hide (below_next (below_next (below_one _ _) (below_one _ _)) (below_one _ _))
  have HQ : Hid (Box V (w.heap.size + 1 + 1) [.int .i64 0, .int .i64 0, .slice none 0 0]) := by rw [hV]; exact hide (Box.new _ [.int .i64 0, .int .i64 0, .slice none 0 0] 25 (by simp))
  have HFR : Hid (Free V (w.heap.size + 1 + 1)) := by rw [hV]; exact hide (Free.new _ _ 25 (by simp))
  have HL := hide HQ.out.lt
  clear hsx e5 e6 hk hV
  go_enter Tryd.func25, Tryd.ntmps25
  go_wp2_with fail
  rw [← HV.out]
  refine (HR.out _ HBW.out).mono ?_
  rintro e w1 ⟨rfl, hb1⟩
  rw [err_ne (show (1 : Int) ≠ 0 by decide)]
  have HB1 := hide hb1
  clear hb1 HR
  have p0 := (HQ.out.below HB1.out) 0 _ rfl
  have p1 := (HQ.out.below HB1.out) 1 _ rfl
  have p2 := (HQ.out.below HB1.out) 2 _ rfl
  have f0 := (HFR.out.below HB1.out HL.out) 0
  have f1 := (HFR.out.below HB1.out HL.out) 1
  have f2 := (HFR.out.below HB1.out HL.out) 2
  go_wp2
  exact bodyPost_ret (v := .tuple #[.agg #[.int .i64 0, .int .i64 0, .slice none 0 0], .iface 30 (.int .i64 1)]) (by simp [results, Tryd.results25, go_sem, p0, p1, p2]) rfl ⟨_, rfl, isMx_no _, below_set3 (below_next HBW.out HB1.out) (B := w.heap.size + 1 + 1) (by omega) _ _ _, fresh_no _ _ _⟩
set_option maxHeartbeats 800000 in
theorem lback_none (k : Int) (wr wc br bc : Int) (xa : Option Addr) (xn xk : Nat) (ya : Option Addr) (yn yk : Nat) (x g : Mx) (vx vg : Value) (w : World) (hk : k < 1 ∨ 4 < k) (hx : IsMx w vx x) (hg : IsMx w vg g) :
    Calls Tryd.prog 30 #[.agg #[.int .i64 k, .int .i64 wr, .int .i64 wc, .slice xa xn xk, .int .i64 br, .int .i64 bc, .slice ya yn yk], vx, vg] w (BackErr w noMx noMx noMx 1) := by
  obtain ⟨sx, rfl, hsx⟩ := hx
  obtain ⟨za, zn, zk, rfl⟩ := hsx.shape
  obtain ⟨r, e5⟩ : ∃ r, x.rows = r := ⟨_, rfl⟩
  obtain ⟨c, e6⟩ : ∃ r, x.cols = r := ⟨_, rfl⟩
  obtain ⟨sg, rfl, hsg⟩ := hg
  obtain ⟨ga, gn, gk, rfl⟩ := hsg.shape
  obtain ⟨r', e7⟩ : ∃ r, g.rows = r := ⟨_, rfl⟩
  obtain ⟨c', e8⟩ : ∃ r, g.cols = r := ⟨_, rfl⟩
  have HR := hide (fun W (h : Below w.heap.size w W) => ready_none k wr wc br bc xa xn xk ya yn yk _ x W hk ⟨_, rfl, hsx.below h⟩)
  rw [e5, e6] at HR
  rw [e5, e6, e7, e8]
  obtain ⟨V, hV⟩ : ∃ V, V = (((((w.alloc (.cells #[.int .i64 k, .int .i64 wr, .int .i64 wc, .slice xa xn xk, .int .i64 br, .int .i64 bc, .slice ya yn yk] 55)).alloc (.cells #[.int .i64 r, .int .i64 c, .slice za zn zk] 25)).alloc (.cells #[.int .i64 r', .int .i64 c', .slice ga gn gk] 25)).alloc (.cells #[.int .i64 0, .int .i64 0, .slice none 0 0] 25)).alloc (.cells #[.int .i64 0, .int .i64 0, .slice none 0 0, .int .i64 0, .int .i64 0, .slice none 0 0] 57)) := ⟨_, rfl⟩
  have HV := hide hV
  have HBW : Hid (Below w.heap.size w V) := by rw [hV]; exact hide (below_next (below_next (below_next (below_next (below_one _ _) (below_one _ _)) (below_one _ _)) (below_one _ _)) (below_one _ _))
  have HQ : Hid (Box V (w.heap.size + 1 + 1 + 1) [.int .i64 0, .int .i64 0, .slice none 0 0]) := by rw [hV]; exact hide ((Box.new _ [.int .i64 0, .int .i64 0, .slice none 0 0] 25 (by simp)).below (below_one _ _))
  have HFR : Hid (Free V (w.heap.size + 1 + 1 + 1)) := by rw [hV]; exact hide ((Free.new _ _ 25 (by simp)).below (below_one _ _) (by simp))
  have HP : Hid (Box V (w.heap.size + 1 + 1 + 1 + 1) [.int .i64 0, .int .i64 0, .slice none 0 0, .int .i64 0, .int .i64 0, .slice none 0 0]) := by rw [hV]; exact hide (Box.new _ [.int .i64 0, .int .i64 0, .slice none 0 0, .int .i64 0, .int .i64 0, .slice none 0 0] 57 (by simp))
  have HFP : Hid (Free V (w.heap.size + 1 + 1 + 1 + 1)) := by rw [hV]; exact hide (Free.new _ _ 57 (by simp))
  have HL := hide HQ.out.lt
  have HM2 := hide HP.out.lt
  have HE := hide (show (1 : Int) ≠ 0 by decide)
  clear hsx hsg e5 e6 e7 e8 hk hV
  go_enter Tryd.func30, Tryd.ntmps30
  go_wp2_with fail
  rw [← HV.out]
  refine (HR.out _ HBW.out).mono ?_
  rintro e w1 ⟨rfl, hb1⟩
  rw [err_ne (show (1 : Int) ≠ 0 by decide)]
  have HB1 := hide hb1
  clear hb1 HR
  have p0 := (HQ.out.below HB1.out) 0 _ rfl
  have p1 := (HQ.out.below HB1.out) 1 _ rfl
  have p2 := (HQ.out.below HB1.out) 2 _ rfl
  have f0 := (HFR.out.below HB1.out HL.out) 0
  have f1 := (HFR.out.below HB1.out HL.out) 1
  have f2 := (HFR.out.below HB1.out HL.out) 2
  have q0 := (HP.out.below HB1.out) 0 _ rfl
  have q1 := (HP.out.below HB1.out) 1 _ rfl
  have q2 := (HP.out.below HB1.out) 2 _ rfl
  have q3 := (HP.out.below HB1.out) 3 _ rfl
  have q4 := (HP.out.below HB1.out) 4 _ rfl
  have q5 := (HP.out.below HB1.out) 5 _ rfl
  have h0 := (HFP.out.below HB1.out HM2.out) 0
  have h1 := (HFP.out.below HB1.out HM2.out) 1
  have h2 := (HFP.out.below HB1.out HM2.out) 2
  have h3 := (HFP.out.below HB1.out HM2.out) 3
  have h4 := (HFP.out.below HB1.out HM2.out) 4
  have h5 := (HFP.out.below HB1.out HM2.out) 5
  go_wp2
  exact bodyPost_ret (v := .tuple #[.agg #[.int .i64 0, .int .i64 0, .slice none 0 0], .agg #[.int .i64 0, .int .i64 0, .slice none 0 0, .int .i64 0, .int .i64 0, .slice none 0 0], .iface 30 (.int .i64 1)]) (by simp [results, Tryd.results30, go_sem, p0, p1, p2, q0, q1, q2, q3, q4, q5]) rfl
    ⟨_, _, by rw [err_ne HE.out], isMx_no _, isTwo_no _, below9 (below_next HBW.out HB1.out) (B := w.heap.size + 1 + 1 + 1) (C := w.heap.size + 1 + 1 + 1 + 1) (by omega) (by omega) _ _ _ _ _ _ _ _ _, fresh_no _ _ _, fresh2_no _ _ _ _ _⟩
theorem lgo_any (v : Value) (l : Ly) (x : Mx) (vx : Value) (w : World) (hv : IsLy w v l) (hx : IsMx w vx x) : Calls Tryd.prog 25 #[v, vx] w (MxErr w (goX l x) (goE l x)) := by
  obtain ⟨s, t, rfl, hs, ht⟩ := hv
  obtain ⟨xa, xn, xk, rfl⟩ := hs.shape
  obtain ⟨ya, yn, yk, rfl⟩ := ht.shape
  by_cases h1 : l.k = 1
  · rw [h1]; exact lgo_linear l x vx w h1 hs ht hx
  · by_cases h2 : l.k = 2
    · rw [h2]; exact lgo_relu l x vx w h2 hs ht hx
    · by_cases h3 : l.k = 3
      · rw [h3]; exact lgo_scale l x vx w h3 hs ht hx
      · by_cases h4 : l.k = 4
        · rw [h4]; exact lgo_shift l x vx w h4 hs ht hx
        · have hk : l.k < 1 ∨ 4 < l.k := by omega
          have hE : goE l x = 1 := by unfold goE lfault; rw [if_pos hk, if_pos (by decide)]
          rw [goX_no (by rw [hE]; decide), hE]
          exact lgo_none l.k _ _ _ _ xa xn xk ya yn yk x vx w hk hx
theorem lback_any (v : Value) (l : Ly) (x g : Mx) (vx vg : Value) (w : World) (hv : IsLy w v l) (hx : IsMx w vx x) (hg : IsMx w vg g) : Calls Tryd.prog 30 #[v, vx, vg] w (BackErr w (backX l x g) (gradW l x g) (gradB l x g) (backE l x g)) := by
  obtain ⟨s, t, rfl, hs, ht⟩ := hv
  obtain ⟨xa, xn, xk, rfl⟩ := hs.shape
  obtain ⟨ya, yn, yk, rfl⟩ := ht.shape
  by_cases h1 : l.k = 1
  · rw [h1]; exact lback_linear l x g vx vg w h1 hs ht hx hg
  · by_cases h2 : l.k = 2
    · rw [h2]; exact lback_relu l x g vx vg w h2 hs ht hx hg
    · by_cases h3 : l.k = 3
      · rw [h3]; exact lback_scale l x g vx vg w h3 hs ht hx hg
      · by_cases h4 : l.k = 4
        · rw [h4]; exact lback_shift l x g vx vg w h4 hs ht hx hg
        · have hk : l.k < 1 ∨ 4 < l.k := by omega
          have hG : goE l x = 1 := by unfold goE lfault; rw [if_pos hk, if_pos (by decide)]
          have hE : backE l x g = 1 := by rw [backE_go (by rw [hG]; decide), hG]
          obtain ⟨n1, n2, n3⟩ := backX_no (show backE l x g ≠ 0 by rw [hE]; decide)
          rw [n1, n2, n3, hE]
          exact lback_none l.k _ _ _ _ xa xn xk ya yn yk x g vx vg w hk hx hg
end Go.Proofs.YtbkkhdekjgabfadDoor
