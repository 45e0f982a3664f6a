/- The walk of the law LossNought: it is never below 0, 0 at what is as wanted, as far the other way round, and what goes back is the opposite. No condition. -/
import Derived.Test.YtogmbihigjpmfadLsLaw
import Derived.Test.YtogmbihigjpmfadLsOf
import Derived.Test.YtogmbihigjpmfadLsBack
namespace Go.Proofs.Ytogmbihigjpmfad
open Go.RowKit
set_option maxHeartbeats 40000000 in
set_option maxRecDepth 100000 in
theorem nought_walk (v0 : Value) (m0 : Mx) (v1 : Value) (m1 : Mx) (w : World) (w0 : IsMx w v0 m0) (w1 : IsMx w v1 m1) : Calls Try.prog 3 #[v0, v1] w fun e w' => e = .returned (.bool true) ∧ Below w.heap.size w w' := by
  obtain ⟨sm0, rfl, hm0⟩ := w0
  obtain ⟨xa, xn, xk, rfl⟩ := hm0.shape
  obtain ⟨r, er⟩ : ∃ r, m0.rows = r := ⟨_, rfl⟩
  obtain ⟨c, ec⟩ : ∃ r, m0.cols = r := ⟨_, rfl⟩
  have Mm0 := hide (show IsMx w (.agg #[.int .i64 r, .int .i64 c, .slice xa xn xk]) m0 from ⟨_, by rw [er, ec], hm0⟩)
  obtain ⟨sm1, rfl, hm1⟩ := w1
  obtain ⟨ha, hn, hk, rfl⟩ := hm1.shape
  obtain ⟨r', er'⟩ : ∃ r, m1.rows = r := ⟨_, rfl⟩
  obtain ⟨c', ec'⟩ : ∃ r, m1.cols = r := ⟨_, rfl⟩
  have Mm1 := hide (show IsMx w (.agg #[.int .i64 r', .int .i64 c', .slice ha hn hk]) m1 from ⟨_, by rw [er', ec'], hm1⟩)
  rw [er, ec, er', ec']
  clear hm0 hm1 er ec er' ec'
  have WW := hide (Below.refl w.heap.size w)
  have C := hide (Below.refl w.heap.size w)
  have D := below_next C.out (below_one w (.cells #[.int .i64 r, .int .i64 c, .slice xa xn xk] 24))
  replace Mm0 := hide (Mm0.out.below D)
  replace Mm1 := hide (Mm1.out.below D)
  replace WW := hide (below_next WW.out D)
  replace C := hide (Below.refl (w.alloc (.cells #[.int .i64 r, .int .i64 c, .slice xa xn xk] 24)).heap.size (w.alloc (.cells #[.int .i64 r, .int .i64 c, .slice xa xn xk] 24)))
  clear D
  have Ba := hide (Box.new w [.int .i64 r, .int .i64 c, .slice xa xn xk] 24 (B := w.heap.size) (by simp))
  have D := below_next C.out (below_one (w.alloc (.cells #[.int .i64 r, .int .i64 c, .slice xa xn xk] 24)) (.cells #[.int .i64 r', .int .i64 c', .slice ha hn hk] 24))
  replace Mm0 := hide (Mm0.out.below D)
  replace Mm1 := hide (Mm1.out.below D)
  replace Ba := hide (Ba.out.below D)
  replace WW := hide (below_next WW.out D)
  replace C := hide (Below.refl ((w.alloc (.cells #[.int .i64 r, .int .i64 c, .slice xa xn xk] 24)).alloc (.cells #[.int .i64 r', .int .i64 c', .slice ha hn hk] 24)).heap.size ((w.alloc (.cells #[.int .i64 r, .int .i64 c, .slice xa xn xk] 24)).alloc (.cells #[.int .i64 r', .int .i64 c', .slice ha hn hk] 24)))
  clear D
  have Bb := hide (Box.new (w.alloc (.cells #[.int .i64 r, .int .i64 c, .slice xa xn xk] 24)) [.int .i64 r', .int .i64 c', .slice ha hn hk] 24 (B := w.heap.size + 1) (by simp))
  have D := below_next C.out (below_one ((w.alloc (.cells #[.int .i64 r, .int .i64 c, .slice xa xn xk] 24)).alloc (.cells #[.int .i64 r', .int .i64 c', .slice ha hn hk] 24)) (.cells #[.int .i64 512, .int .i64 0] 3))
  replace Mm0 := hide (Mm0.out.below D)
  replace Mm1 := hide (Mm1.out.below D)
  replace Ba := hide (Ba.out.below D)
  replace Bb := hide (Bb.out.below D)
  replace WW := hide (below_next WW.out D)
  replace C := hide (Below.refl (((w.alloc (.cells #[.int .i64 r, .int .i64 c, .slice xa xn xk] 24)).alloc (.cells #[.int .i64 r', .int .i64 c', .slice ha hn hk] 24)).alloc (.cells #[.int .i64 512, .int .i64 0] 3)).heap.size (((w.alloc (.cells #[.int .i64 r, .int .i64 c, .slice xa xn xk] 24)).alloc (.cells #[.int .i64 r', .int .i64 c', .slice ha hn hk] 24)).alloc (.cells #[.int .i64 512, .int .i64 0] 3)))
  clear D
  have MFA := hide (show IsMx (((w.alloc (.cells #[.int .i64 r, .int .i64 c, .slice xa xn xk] 24)).alloc (.cells #[.int .i64 r', .int .i64 c', .slice ha hn hk] 24)).alloc (.cells #[.int .i64 512, .int .i64 0] 3)) (.agg #[.int .i64 1, .int .i64 2, .slice (some ⟨w.heap.size + 1 + 1, 0, none⟩) 2 2]) factA from ⟨_, rfl, ints_newB ((w.alloc (.cells #[.int .i64 r, .int .i64 c, .slice xa xn xk] 24)).alloc (.cells #[.int .i64 r', .int .i64 c', .slice ha hn hk] 24)) [512, 0] (by decide) 3 (B := w.heap.size + 1 + 1) (by simp)⟩)
  have D := below_next C.out (below_one (((w.alloc (.cells #[.int .i64 r, .int .i64 c, .slice xa xn xk] 24)).alloc (.cells #[.int .i64 r', .int .i64 c', .slice ha hn hk] 24)).alloc (.cells #[.int .i64 512, .int .i64 0] 3)) (.cells #[.int .i64 256, .int .i64 256] 3))
  replace Mm0 := hide (Mm0.out.below D)
  replace Mm1 := hide (Mm1.out.below D)
  replace Ba := hide (Ba.out.below D)
  replace Bb := hide (Bb.out.below D)
  replace MFA := hide (MFA.out.below D)
  replace WW := hide (below_next WW.out D)
  replace C := hide (Below.refl ((((w.alloc (.cells #[.int .i64 r, .int .i64 c, .slice xa xn xk] 24)).alloc (.cells #[.int .i64 r', .int .i64 c', .slice ha hn hk] 24)).alloc (.cells #[.int .i64 512, .int .i64 0] 3)).alloc (.cells #[.int .i64 256, .int .i64 256] 3)).heap.size ((((w.alloc (.cells #[.int .i64 r, .int .i64 c, .slice xa xn xk] 24)).alloc (.cells #[.int .i64 r', .int .i64 c', .slice ha hn hk] 24)).alloc (.cells #[.int .i64 512, .int .i64 0] 3)).alloc (.cells #[.int .i64 256, .int .i64 256] 3)))
  clear D
  have MFB := hide (show IsMx ((((w.alloc (.cells #[.int .i64 r, .int .i64 c, .slice xa xn xk] 24)).alloc (.cells #[.int .i64 r', .int .i64 c', .slice ha hn hk] 24)).alloc (.cells #[.int .i64 512, .int .i64 0] 3)).alloc (.cells #[.int .i64 256, .int .i64 256] 3)) (.agg #[.int .i64 1, .int .i64 2, .slice (some ⟨w.heap.size + 1 + 1 + 1, 0, none⟩) 2 2]) factB from ⟨_, rfl, ints_newB (((w.alloc (.cells #[.int .i64 r, .int .i64 c, .slice xa xn xk] 24)).alloc (.cells #[.int .i64 r', .int .i64 c', .slice ha hn hk] 24)).alloc (.cells #[.int .i64 512, .int .i64 0] 3)) [256, 256] (by decide) 3 (B := w.heap.size + 1 + 1 + 1) (by simp)⟩)
  go_enter Try.func3, Try.ntmps3
  have HX := hide (lof_any _ _ factA factB _ (MFA.out.below C.out) (MFB.out.below C.out))
  go_wp2_with fail
  refine HX.out.mono ?_
  rintro e u1 ⟨rfl, hb⟩
  rw [factE, factL, err_eq rfl]
  replace C := hide (below_next C.out hb)
  clear HX hb 
  clear MFA MFB
  obtain ⟨E, hE⟩ : ∃ E, addE m0 m1 = E := ⟨_, rfl⟩
  obtain ⟨k, hk⟩ : ∃ k, lossX m0 m1 = k := ⟨_, rfl⟩
  have HY := hide (And.intro hE hk)
  clear hE hk
  have HX := hide (lof_any _ _ m0 m1 _ (Mm0.out.below C.out) (Mm1.out.below C.out))
  have za0 := (Ba.out.below C.out) 0 _ rfl
  have za1 := (Ba.out.below C.out) 1 _ rfl
  have za2 := (Ba.out.below C.out) 2 _ rfl
  have zb0 := (Bb.out.below C.out) 0 _ rfl
  have zb1 := (Bb.out.below C.out) 1 _ rfl
  have zb2 := (Bb.out.below C.out) 2 _ rfl
  go_wp2_with fail
  refine HX.out.mono ?_
  rintro e u2 ⟨rfl, hb⟩
  rw [HY.out.1, HY.out.2]
  replace C := hide (below_next C.out hb)
  clear HX hb za0 za1 za2 zb0 zb1 zb2
  by_cases hE : E = 0
  · subst hE
    rw [err_eq rfl]
    obtain ⟨n, hn576, f1, f2, f3, f4, f5, f6, f7, f8⟩ := nought_facts HY.out.1
    rw [HY.out.2] at f3 f5
    obtain ⟨y, hy⟩ : ∃ y, offX m0 m1 = y := ⟨_, rfl⟩
    obtain ⟨z, hz⟩ : ∃ y, offX m1 m0 = y := ⟨_, rfl⟩
    rw [hy] at f6 f8
    rw [hz] at f7 f8
    have HO := hide (And.intro hy hz)
    have HE := hide (And.intro f1 f2)
    have HK := hide (And.intro f3 f4)
    have HN := hide (And.intro f6 f7)
    have HF := hide f8
    clear f1 f2 f3 f4 f6 f7 f8 hy hz
    have HX := hide (lof_any _ _ m1 m0 _ (Mm1.out.below C.out) (Mm0.out.below C.out))
    have za0 := (Ba.out.below C.out) 0 _ rfl
    have za1 := (Ba.out.below C.out) 1 _ rfl
    have za2 := (Ba.out.below C.out) 2 _ rfl
    have zb0 := (Bb.out.below C.out) 0 _ rfl
    have zb1 := (Bb.out.below C.out) 1 _ rfl
    have zb2 := (Bb.out.below C.out) 2 _ rfl
    go_wp2_with fail
    refine HX.out.mono ?_
    rintro e u3 ⟨rfl, hb⟩
    rw [HE.out.1, HK.out.1, err_eq rfl]
    replace C := hide (below_next C.out hb)
    clear HX hb za0 za1 za2 zb0 zb1 zb2
    have HX := hide (lof_any _ _ m0 m0 _ (Mm0.out.below C.out) (Mm0.out.below C.out))
    have za0 := (Ba.out.below C.out) 0 _ rfl
    have za1 := (Ba.out.below C.out) 1 _ rfl
    have za2 := (Ba.out.below C.out) 2 _ rfl
    go_wp2_with fail
    refine HX.out.mono ?_
    rintro e u4 ⟨rfl, hb⟩
    rw [HE.out.2, HK.out.2, err_eq rfl]
    replace C := hide (below_next C.out hb)
    clear HX hb za0 za1 za2
    have HX := hide (lsback_any _ _ m0 m1 _ (Mm0.out.below C.out) (Mm1.out.below C.out))
    have za0 := (Ba.out.below C.out) 0 _ rfl
    have za1 := (Ba.out.below C.out) 1 _ rfl
    have za2 := (Ba.out.below C.out) 2 _ rfl
    have zb0 := (Bb.out.below C.out) 0 _ rfl
    have zb1 := (Bb.out.below C.out) 1 _ rfl
    have zb2 := (Bb.out.below C.out) 2 _ rfl
    go_wp2_with fail
    refine HX.out.mono ?_
    intro e u5 h
    rw [HO.out.1, HY.out.1] at h
    obtain ⟨ya, yn, yk, rfl, hm, hb⟩ := h.any
    rw [err_eq rfl]
    clear h
    replace C := hide (below_next C.out hb)
    clear HX hb za0 za1 za2 zb0 zb1 zb2
    have My := hide (hm.below (below_one u5 (.cells #[.int .i64 y.rows, .int .i64 y.cols, .slice ya yn yk] 24)))
    have D := below_next C.out (below_one u5 (.cells #[.int .i64 y.rows, .int .i64 y.cols, .slice ya yn yk] 24))
    replace Mm0 := hide (Mm0.out.below D)
    replace Mm1 := hide (Mm1.out.below D)
    replace Ba := hide (Ba.out.below D)
    replace Bb := hide (Bb.out.below D)
    replace WW := hide (below_next WW.out D)
    replace C := hide (Below.refl (u5.alloc (.cells #[.int .i64 y.rows, .int .i64 y.cols, .slice ya yn yk] 24)).heap.size (u5.alloc (.cells #[.int .i64 y.rows, .int .i64 y.cols, .slice ya yn yk] 24)))
    clear D
    have By := hide (Box.new u5 [.int .i64 y.rows, .int .i64 y.cols, .slice ya yn yk] 24 (B := u5.heap.size) (by simp))
    clear hm
    have HX := hide (lsback_any _ _ m1 m0 _ (Mm1.out.below C.out) (Mm0.out.below C.out))
    have za0 := (Ba.out.below C.out) 0 _ rfl
    have za1 := (Ba.out.below C.out) 1 _ rfl
    have za2 := (Ba.out.below C.out) 2 _ rfl
    have zb0 := (Bb.out.below C.out) 0 _ rfl
    have zb1 := (Bb.out.below C.out) 1 _ rfl
    have zb2 := (Bb.out.below C.out) 2 _ rfl
    go_wp2_with fail
    refine HX.out.mono ?_
    intro e u6 h
    rw [HO.out.2, HE.out.1] at h
    obtain ⟨za, zn, zk, rfl, hm, hb⟩ := h.any
    rw [err_eq rfl]
    clear h
    replace C := hide (below_next C.out hb)
    clear HX hb za0 za1 za2 zb0 zb1 zb2
    have Mz := hide (hm.below (below_one u6 (.cells #[.int .i64 z.rows, .int .i64 z.cols, .slice za zn zk] 24)))
    have D := below_next C.out (below_one u6 (.cells #[.int .i64 z.rows, .int .i64 z.cols, .slice za zn zk] 24))
    replace Mm0 := hide (Mm0.out.below D)
    replace Mm1 := hide (Mm1.out.below D)
    replace Ba := hide (Ba.out.below D)
    replace Bb := hide (Bb.out.below D)
    replace By := hide (By.out.below D)
    replace My := hide (My.out.below D)
    replace WW := hide (below_next WW.out D)
    replace C := hide (Below.refl (u6.alloc (.cells #[.int .i64 z.rows, .int .i64 z.cols, .slice za zn zk] 24)).heap.size (u6.alloc (.cells #[.int .i64 z.rows, .int .i64 z.cols, .slice za zn zk] 24)))
    clear D
    have Bz := hide (Box.new u6 [.int .i64 z.rows, .int .i64 z.cols, .slice za zn zk] 24 (B := u6.heap.size) (by simp))
    clear hm
    obtain ⟨W0, hW0⟩ : ∃ W0, W0 = (u6.alloc (.cells #[.int .i64 z.rows, .int .i64 z.cols, .slice za zn zk] 24)) := ⟨_, rfl⟩
    rw [← hW0] at Ba Bb By My Bz Mz Mm0 Mm1 WW
    have hy2 := By.out 2 _ rfl
    have hz2 := Bz.out 2 _ rfl
    rw [hW0] at hy2 hz2
    obtain ⟨y1, y2, ey, _, _, h4y⟩ := My.out.ints
    obtain ⟨z1, z2, ez, _, _, h4z⟩ := Mz.out.ints
    injection ey with ey1 ey2 ey3
    injection ez with ez1 ez2 ez3
    have hyn : n = yn := by rw [ey2]; exact HN.out.1.symm
    have hzn : n = zn := by rw [ez2]; exact HN.out.2.symm
    subst hyn hzn
    have H4 := hide (And.intro h4y h4z)
    have HS := hide (And.intro ey1 ez1)
    have hkk : (k != k) = false := by simp
    have hk0 : decide (k < 0) = false := by simp; exact f5
    clear h4y h4z ey1 ez1 ey2 ez2 ey3 ez3 C f5
    go_wp2
    rw [← hW0]
    rw [← hW0] at hy2 hz2
    clear hW0
    go_loopw [15] (fun a wr => ∃ (i q : Nat) (xi : Int), i ≤ n ∧ xi = (i : Int) ∧ a = .int .i64 xi ∧ wr = W0.drewN q) (fun a _ => n - (intOf a).toNat)
    case atStart => exact ⟨0, 0, 0, Nat.zero_le _, rfl, rfl, rfl⟩
    case round =>
      obtain ⟨i, q, xi, hi, hxi, rfl, rfl⟩ := hrel
      have HXI := hide hxi
      have hxi0 : 0 ≤ xi := by omega
      have hxi1 : xi ≤ 576 := by omega
      clear hxi
      by_cases hlt : xi < (n : Int)
      · have hin : i < n := by have := HXI.out; omega
        have hxn : xi.toNat = i := by have := HXI.out; omega
        obtain ⟨d, e1, e2, d1, d2⟩ := HF.out i hin
        obtain ⟨yb, yo, ry, hcy⟩ := H4.out.1.resolve_left (fun e => by rw [e] at e1; simp at e1)
        obtain ⟨zb, zo, rz, hcz⟩ := H4.out.2.resolve_left (fun e => by rw [e] at e2; simp at e2)
        have s1 := HS.out.1.trans ry
        have s2 := HS.out.2.trans rz
        clear ry rz HS H4
        subst s1 s2
        have c1 : W0.cell? ⟨yb, yo + xi.toNat, none⟩ = some (.int .i64 (-d)) := by rw [hxn]; exact hcy i _ e1
        have c2 : W0.cell? ⟨zb, zo + xi.toNat, none⟩ = some (.int .i64 d) := by rw [hxn]; exact hcz i _ e2
        have t1 : (-d != -d) = false := by simp
        clear hcy hcz e1 e2 hxn
        go_wp2
        go_quiet (fail)
        go_wp2
        exact ⟨⟨i + 1, _, _, by omega, by have := HXI.out; omega, rfl, rfl⟩, by have := HXI.out; simp [intOf]; omega⟩
      · go_wp2
        go_ret
        exact ⟨rfl, below_next WW.out (below_drewN _ _)⟩
  · rw [err_ne hE]
    clear hE
    go_wp2
    go_ret
    exact ⟨rfl, below_next WW.out C.out⟩
end Go.Proofs.Ytogmbihigjpmfad
