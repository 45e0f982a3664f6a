/- What Go and Back of package layer come to, for every layer and every matrix. -/
import Derived.Test.YtbkkhdekjgabfadLGoK
import Derived.Test.YtbkkhdekjgabfadLGoL
namespace Go.Proofs.Ytbkkhdekjgabfad
open Go.RowKit
theorem BackErr.any {w : World} {m a b : Mx} {k : Int} {e : Ending} {w' : World} (h : BackErr w m a b k e w') : ∃ p n q p1 n1 q1 p2 n2 q2, e = .returned (.tuple #[.agg #[.int .i64 m.rows, .int .i64 m.cols, .slice p n q], .agg #[.int .i64 a.rows, .int .i64 a.cols, .slice p1 n1 q1, .int .i64 b.rows, .int .i64 b.cols, .slice p2 n2 q2], errV k]) ∧ IsMx w' (.agg #[.int .i64 m.rows, .int .i64 m.cols, .slice p n q]) m ∧ IsInts w' (.slice p1 n1 q1) a.cells ∧ IsInts w' (.slice p2 n2 q2) b.cells ∧ Below w.heap.size w w' := by
  obtain ⟨v', d, rfl, ⟨s, rfl, hs⟩, ⟨s1, s2, rfl, hs1, hs2⟩, hb, _, _⟩ := h
  obtain ⟨p, n, q, rfl⟩ := hs.shape
  obtain ⟨p1, n1, q1, rfl⟩ := hs1.shape
  obtain ⟨p2, n2, q2, rfl⟩ := hs2.shape
  exact ⟨p, n, q, p1, n1, q1, p2, n2, q2, rfl, ⟨_, rfl, hs⟩, hs1, hs2, hb⟩
set_option maxHeartbeats 800000 in
theorem lgo_none (k : Int) (wr wc br bc : Int) (xa : Option Addr) (xn xk : Nat) (ya : Option Addr) (yn yk : Nat) (x : Mx) (vx : Value) (w : World) (hk : k < 1 ∨ 4 < k) (hx : IsMx w vx x) :
    Calls Try.prog 18 #[.agg #[.int .i64 k, .int .i64 wr, .int .i64 wc, .slice xa xn xk, .int .i64 br, .int .i64 bc, .slice ya yn yk], vx] w (MxErr w noMx 1) := by
  obtain ⟨sx, rfl, hsx⟩ := hx
  obtain ⟨za, zn, zk, rfl⟩ := hsx.shape
  obtain ⟨r, e5⟩ : ∃ r, x.rows = r := ⟨_, rfl⟩
  obtain ⟨c, e6⟩ : ∃ r, x.cols = r := ⟨_, rfl⟩
  have HR := hide (fun W (h : Below w.heap.size w W) => ready_none k wr wc br bc xa xn xk ya yn yk _ x W hk ⟨_, rfl, hsx.below h⟩)
  rw [e5, e6] at HR
  rw [e5, e6]
  obtain ⟨V, hV⟩ : ∃ V, V = (((w.alloc (.cells #[.int .i64 k, .int .i64 wr, .int .i64 wc, .slice xa xn xk, .int .i64 br, .int .i64 bc, .slice ya yn yk] 37)).alloc (.cells #[.int .i64 r, .int .i64 c, .slice za zn zk] 24)).alloc (.cells #[.int .i64 0, .int .i64 0, .slice none 0 0] 24)) := ⟨_, rfl⟩
  have HV := hide hV
  have HBW : Hid (Below w.heap.size w V) := by rw [hV]; exact hide (below_next (below_next (below_one _ _) (below_one _ _)) (below_one _ _))
  have HQ : Hid (Box V (w.heap.size + 1 + 1) [.int .i64 0, .int .i64 0, .slice none 0 0]) := by rw [hV]; exact hide (Box.new _ [.int .i64 0, .int .i64 0, .slice none 0 0] 24 (by simp))
  have HFR : Hid (Free V (w.heap.size + 1 + 1)) := by rw [hV]; exact hide (Free.new _ _ 24 (by simp))
  have HL := hide HQ.out.lt
  clear hsx e5 e6 hk hV
  go_enter Try.func18, Try.ntmps18
  go_wp2_with fail
  rw [← HV.out]
  refine (HR.out _ HBW.out).mono ?_
  rintro e w1 ⟨rfl, hb1⟩
  rw [err_ne (show (1 : Int) ≠ 0 by decide)]
  have HB1 := hide hb1
  clear hb1 HR
  have p0 := (HQ.out.below HB1.out) 0 _ rfl
  have p1 := (HQ.out.below HB1.out) 1 _ rfl
  have p2 := (HQ.out.below HB1.out) 2 _ rfl
  have f0 := (HFR.out.below HB1.out HL.out) 0
  have f1 := (HFR.out.below HB1.out HL.out) 1
  have f2 := (HFR.out.below HB1.out HL.out) 2
  go_wp2
  exact bodyPost_ret (v := .tuple #[.agg #[.int .i64 0, .int .i64 0, .slice none 0 0], .iface 52 (.int .i64 1)]) (by simp [results, Try.results18, go_sem, p0, p1, p2]) rfl ⟨_, rfl, isMx_no _, below_set3 (below_next HBW.out HB1.out) (B := w.heap.size + 1 + 1) (by omega) _ _ _, fresh_no _ _ _⟩
set_option maxHeartbeats 800000 in
theorem lback_none (k : Int) (wr wc br bc : Int) (xa : Option Addr) (xn xk : Nat) (ya : Option Addr) (yn yk : Nat) (x g : Mx) (vx vg : Value) (w : World) (hk : k < 1 ∨ 4 < k) (hx : IsMx w vx x) (hg : IsMx w vg g) :
    Calls Try.prog 20 #[.agg #[.int .i64 k, .int .i64 wr, .int .i64 wc, .slice xa xn xk, .int .i64 br, .int .i64 bc, .slice ya yn yk], vx, vg] w (BackErr w noMx noMx noMx 1) := by
  obtain ⟨sx, rfl, hsx⟩ := hx
  obtain ⟨za, zn, zk, rfl⟩ := hsx.shape
  obtain ⟨r, e5⟩ : ∃ r, x.rows = r := ⟨_, rfl⟩
  obtain ⟨c, e6⟩ : ∃ r, x.cols = r := ⟨_, rfl⟩
  obtain ⟨sg, rfl, hsg⟩ := hg
  obtain ⟨ga, gn, gk, rfl⟩ := hsg.shape
  obtain ⟨r', e7⟩ : ∃ r, g.rows = r := ⟨_, rfl⟩
  obtain ⟨c', e8⟩ : ∃ r, g.cols = r := ⟨_, rfl⟩
  have HR := hide (fun W (h : Below w.heap.size w W) => ready_none k wr wc br bc xa xn xk ya yn yk _ x W hk ⟨_, rfl, hsx.below h⟩)
  rw [e5, e6] at HR
  rw [e5, e6, e7, e8]
  obtain ⟨V, hV⟩ : ∃ V, V = (((((w.alloc (.cells #[.int .i64 k, .int .i64 wr, .int .i64 wc, .slice xa xn xk, .int .i64 br, .int .i64 bc, .slice ya yn yk] 37)).alloc (.cells #[.int .i64 r, .int .i64 c, .slice za zn zk] 24)).alloc (.cells #[.int .i64 r', .int .i64 c', .slice ga gn gk] 24)).alloc (.cells #[.int .i64 0, .int .i64 0, .slice none 0 0] 24)).alloc (.cells #[.int .i64 0, .int .i64 0, .slice none 0 0, .int .i64 0, .int .i64 0, .slice none 0 0] 57)) := ⟨_, rfl⟩
  have HV := hide hV
  have HBW : Hid (Below w.heap.size w V) := by rw [hV]; exact hide (below_next (below_next (below_next (below_next (below_one _ _) (below_one _ _)) (below_one _ _)) (below_one _ _)) (below_one _ _))
  have HQ : Hid (Box V (w.heap.size + 1 + 1 + 1) [.int .i64 0, .int .i64 0, .slice none 0 0]) := by rw [hV]; exact hide ((Box.new _ [.int .i64 0, .int .i64 0, .slice none 0 0] 24 (by simp)).below (below_one _ _))
  have HFR : Hid (Free V (w.heap.size + 1 + 1 + 1)) := by rw [hV]; exact hide ((Free.new _ _ 24 (by simp)).below (below_one _ _) (by simp))
  have HP : Hid (Box V (w.heap.size + 1 + 1 + 1 + 1) [.int .i64 0, .int .i64 0, .slice none 0 0, .int .i64 0, .int .i64 0, .slice none 0 0]) := by rw [hV]; exact hide (Box.new _ [.int .i64 0, .int .i64 0, .slice none 0 0, .int .i64 0, .int .i64 0, .slice none 0 0] 57 (by simp))
  have HFP : Hid (Free V (w.heap.size + 1 + 1 + 1 + 1)) := by rw [hV]; exact hide (Free.new _ _ 57 (by simp))
  have HL := hide HQ.out.lt
  have HM2 := hide HP.out.lt
  have HE := hide (show (1 : Int) ≠ 0 by decide)
  clear hsx hsg e5 e6 e7 e8 hk hV
  go_enter Try.func20, Try.ntmps20
  go_wp2_with fail
  rw [← HV.out]
  refine (HR.out _ HBW.out).mono ?_
  rintro e w1 ⟨rfl, hb1⟩
  rw [err_ne (show (1 : Int) ≠ 0 by decide)]
  have HB1 := hide hb1
  clear hb1 HR
  have p0 := (HQ.out.below HB1.out) 0 _ rfl
  have p1 := (HQ.out.below HB1.out) 1 _ rfl
  have p2 := (HQ.out.below HB1.out) 2 _ rfl
  have f0 := (HFR.out.below HB1.out HL.out) 0
  have f1 := (HFR.out.below HB1.out HL.out) 1
  have f2 := (HFR.out.below HB1.out HL.out) 2
  have q0 := (HP.out.below HB1.out) 0 _ rfl
  have q1 := (HP.out.below HB1.out) 1 _ rfl
  have q2 := (HP.out.below HB1.out) 2 _ rfl
  have q3 := (HP.out.below HB1.out) 3 _ rfl
  have q4 := (HP.out.below HB1.out) 4 _ rfl
  have q5 := (HP.out.below HB1.out) 5 _ rfl
  have h0 := (HFP.out.below HB1.out HM2.out) 0
  have h1 := (HFP.out.below HB1.out HM2.out) 1
  have h2 := (HFP.out.below HB1.out HM2.out) 2
  have h3 := (HFP.out.below HB1.out HM2.out) 3
  have h4 := (HFP.out.below HB1.out HM2.out) 4
  have h5 := (HFP.out.below HB1.out HM2.out) 5
  go_wp2
  exact bodyPost_ret (v := .tuple #[.agg #[.int .i64 0, .int .i64 0, .slice none 0 0], .agg #[.int .i64 0, .int .i64 0, .slice none 0 0, .int .i64 0, .int .i64 0, .slice none 0 0], .iface 52 (.int .i64 1)]) (by simp [results, Try.results20, go_sem, p0, p1, p2, q0, q1, q2, q3, q4, q5]) rfl
    ⟨_, _, by rw [err_ne HE.out], isMx_no _, isTwo_no _, below9 (below_next HBW.out HB1.out) (B := w.heap.size + 1 + 1 + 1) (C := w.heap.size + 1 + 1 + 1 + 1) (by omega) (by omega) _ _ _ _ _ _ _ _ _, fresh_no _ _ _, fresh2_no _ _ _ _ _⟩
theorem lgo_any (v : Value) (l : Ly) (x : Mx) (vx : Value) (w : World) (hv : IsLy w v l) (hx : IsMx w vx x) : Calls Try.prog 18 #[v, vx] w (MxErr w (goX l x) (goE l x)) := by
  obtain ⟨s, t, rfl, hs, ht⟩ := hv
  obtain ⟨xa, xn, xk, rfl⟩ := hs.shape
  obtain ⟨ya, yn, yk, rfl⟩ := ht.shape
  by_cases h1 : l.k = 1
  · rw [h1]; exact lgo_linear l x vx w h1 hs ht hx
  · by_cases h2 : l.k = 2
    · rw [h2]; exact lgo_relu l x vx w h2 hs ht hx
    · by_cases h3 : l.k = 3
      · rw [h3]; exact lgo_scale l x vx w h3 hs ht hx
      · by_cases h4 : l.k = 4
        · rw [h4]; exact lgo_shift l x vx w h4 hs ht hx
        · have hk : l.k < 1 ∨ 4 < l.k := by omega
          have hE : goE l x = 1 := by unfold goE lfault; rw [if_pos hk, if_pos (by decide)]
          rw [goX_no (by rw [hE]; decide), hE]
          exact lgo_none l.k _ _ _ _ xa xn xk ya yn yk x vx w hk hx
theorem lback_any (v : Value) (l : Ly) (x g : Mx) (vx vg : Value) (w : World) (hv : IsLy w v l) (hx : IsMx w vx x) (hg : IsMx w vg g) : Calls Try.prog 20 #[v, vx, vg] w (BackErr w (backX l x g) (gradW l x g) (gradB l x g) (backE l x g)) := by
  obtain ⟨s, t, rfl, hs, ht⟩ := hv
  obtain ⟨xa, xn, xk, rfl⟩ := hs.shape
  obtain ⟨ya, yn, yk, rfl⟩ := ht.shape
  by_cases h1 : l.k = 1
  · rw [h1]; exact lback_linear l x g vx vg w h1 hs ht hx hg
  · by_cases h2 : l.k = 2
    · rw [h2]; exact lback_relu l x g vx vg w h2 hs ht hx hg
    · by_cases h3 : l.k = 3
      · rw [h3]; exact lback_scale l x g vx vg w h3 hs ht hx hg
      · by_cases h4 : l.k = 4
        · rw [h4]; exact lback_shift l x g vx vg w h4 hs ht hx hg
        · have hk : l.k < 1 ∨ 4 < l.k := by omega
          have hG : goE l x = 1 := by unfold goE lfault; rw [if_pos hk, if_pos (by decide)]
          have hE : backE l x g = 1 := by rw [backE_go (by rw [hG]; decide), hG]
          obtain ⟨n1, n2, n3⟩ := backX_no (show backE l x g ≠ 0 by rw [hE]; decide)
          rw [n1, n2, n3, hE]
          exact lback_none l.k _ _ _ _ xa xn xk ya yn yk x g vx vg w hk hx hg
end Go.Proofs.Ytbkkhdekjgabfad
