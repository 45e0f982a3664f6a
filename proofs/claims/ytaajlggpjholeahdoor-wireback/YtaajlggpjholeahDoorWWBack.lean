/- The walk of the law WireBack: what Encode of package wire gives is decoded by its Decode, whatever stands behind it; of a shorter beginning nothing is. Conditions: the library's variable errors.errorType is as its text lays it; the room that a slice that comes in may have. -/
import Derived.Test.YtaajlggpjholeahDoorWWDec
import Derived.Test.YtaajlggpjholeahDoorPick
namespace Go.Proofs.YtaajlggpjholeahDoor
open Go.RowKit
theorem wb_first : msgF 1 0 ⟨1, 1, [-3]⟩ = 0 ∧ msgB 1 0 ⟨1, 1, [-3]⟩ = [1, 0, 1, 1, 5, 8, 15] := ⟨by kernel_rfl, by kernel_rfl⟩
theorem msgB_len {k mi : Int} {b : Mx} (h : msgF k mi b = 0) : 2 ≤ (msgB k mi b).length ∧ (msgB k mi b).length ≤ 2630 := by
  obtain ⟨_, _, _, _, h5⟩ := msgF_in h
  obtain ⟨⟨r1, r2, r3, r4⟩, hl, _⟩ := fault_zero h5
  have hrc := rc_bd b.rows b.cols ⟨r1, r2, r3, r4⟩
  have h1 := wr_len (headN k mi b ++ cellN b)
  have h2 : (headN k mi b ++ cellN b).length ≤ 292 := by
    rw [List.length_append]
    unfold headN cellN
    rw [List.length_map]
    simp only [List.length_cons, List.length_nil]
    omega
  unfold msgB bodyB
  rw [List.length_append, sumsG_len]
  omega
set_option maxHeartbeats 32000000 in
set_option maxRecDepth 100000 in
theorem wback_walk (v mv : Value) (k mi : Int) (b : Mx) (more : List Int) (cut : Int) (w : World) (hv : IsMsg w v k mi b) (hm : IsBys w mv more) (hn : NilOk mv) (hml : more.length ≤ 140737488351232) (hc0 : -9223372036854775808 ≤ cut) (hc1 : cut ≤ 9223372036854775807) (hH : Handle w) :
    Calls Tryd.prog 5 #[v, mv, .int .i64 cut] w fun e w' => e = .returned (.bool true) ∧ Below w.heap.size w w' := by
  have HH := hide hH
  have HV := hide hv
  have HM := hide hm
  have HNO := hide hn
  have HML := hide hml
  obtain ⟨sa, sn, sc, rfl⟩ := hv.shape
  obtain ⟨pa, pc, rfl⟩ := hm.shape
  obtain ⟨pn, hpn⟩ : ∃ x, more.length = x := ⟨_, rfl⟩
  obtain ⟨r, hr⟩ : ∃ r, b.rows = r := ⟨_, rfl⟩
  obtain ⟨c, hc⟩ : ∃ c, b.cols = c := ⟨_, rfl⟩
  rw [hr, hc] at HV ⊢
  rw [hpn] at HM HNO ⊢
  obtain ⟨E, hE⟩ : ∃ E, msgF k mi b = E := ⟨_, rfl⟩
  have HE := hide hE
  obtain ⟨W0, hW0⟩ : ∃ x, x = w.alloc (.cells #[.int .i64 k, .int .i64 mi, .int .i64 r, .int .i64 c, .slice sa sn sc] 26) := ⟨_, rfl⟩
  have HB0 := hide (below_one w (.cells #[.int .i64 k, .int .i64 mi, .int .i64 r, .int .i64 c, .slice sa sn sc] 26))
  have HBX := hide (Blk5.new w (.int .i64 k) (.int .i64 mi) (.int .i64 r) (.int .i64 c) (.slice sa sn sc))
  rw [← hW0] at HB0 HBX
  have HW0 := hide hW0
  have HO1 := hide (below_one W0 (.cells #[.int .i64 (-3)] 3))
  have HX := hide (wenc_any (.agg #[.int .i64 1, .int .i64 0, .int .i64 1, .int .i64 1, .slice (some ⟨W0.heap.size, 0, none⟩) 1 1]) 1 0 ⟨1, 1, [-3]⟩ (W0.alloc (.cells #[.int .i64 (-3)] 3)) ⟨_, rfl, ⟨_, 1, rfl, Nat.le_refl _, by unfold maxLen; omega, .inr ⟨_, _, rfl, fun i x hx => by
    match i, hx with
    | 0, hx =>
      obtain rfl : (-3 : Int) = x := Option.some.inj hx
      have := one_cells W0 (-3) 0 (.int .i64 (-3)) rfl
      rw [Addr.add_lit] at this
      exact this⟩⟩⟩)
  unfold EncEnd encX at HX
  rw [wb_first.1, if_pos rfl, wb_first.2, err_eq rfl] at HX
  rw [show W0.heap.size = w.heap.size + 1 by rw [hW0, World.size_alloc]] at HX
  clear hv hm hn hH hpn hr hc hE hW0 hml
  go_enter Tryd.func5, Tryd.ntmps5
  go_wp2_with fail
  rw [← HW0.out]
  refine HX.out.mono ?_
  rintro e u1 ⟨s1, rfl, hi, _, hb⟩
  have C1 := hide (bel_on HB0.out (bel_on HO1.out hb))
  have HQ := hide (HBX.out.bel (bel_on HO1.out hb) HBX.out.lt)
  obtain ⟨q0, q1, q2, q3, q4⟩ := HQ.out.c
  obtain ⟨fa, fc, rfl, f2, f3, f5, f4⟩ := hi
  obtain ⟨fb, fo, rfl, fcell⟩ := f4.resolve_left (by simp)
  have d4 := fcell 4 5 rfl
  have f7 : 7 ≤ fc := by simpa using f2
  rw [show [(1 : Int), 0, 1, 1, 5, 8, 15].length = 7 from rfl]
  clear hb f5 f4 fcell f2 HX HO1
  have HX := hide (wenc_any _ k mi b u1 (HV.out.below C1.out))
  unfold EncEnd at HX
  rw [HE.out] at HX
  obtain ⟨EV, hEV⟩ : ∃ X, errV E = X := ⟨_, rfl⟩
  have HEV := hide hEV
  rw [hEV] at HX
  clear hEV
  go_wp2_with fail
  refine HX.out.mono ?_
  rintro e u2 ⟨s2, rfl, hi, hnl, hb⟩
  have C2 := hide (bel_on C1.out hb)
  have HQ2 := hide (HQ.out.bel hb HQ.out.lt)
  have HI := hide hi
  have HIN := hide hnl
  clear hi hnl hb HX q0 q1 q2 q3 q4 d4
  by_cases c0 : E = 0
  rotate_left 1
  · have hev := HEV.out
    rw [err_ne c0] at hev
    subst hev
    clear c0
    go_wp2
    go_ret
    exact ⟨rfl, C2.out⟩
  subst c0
  have hev := HEV.out
  rw [err_eq rfl] at hev
  subst hev
  obtain ⟨L, hL⟩ : ∃ x, msgB k mi b = x := ⟨_, rfl⟩
  have HL := hide hL
  have HXB := hide (show encX k mi b = L by unfold encX; rw [if_pos HE.out, hL])
  rw [HXB.out] at HI
  obtain ⟨ba, bc, rfl⟩ := HI.out.shape
  have hLl := msgB_len HE.out
  rw [hL] at hLl
  obtain ⟨n, hn⟩ : ∃ x, L.length = x := ⟨_, rfl⟩
  rw [hn] at HI HIN hLl ⊢
  obtain ⟨hl2, hl3⟩ := hLl
  have HN := hide hn
  have HBK := hide (show rdMsg (L ++ more) = some ((k, mi, b), L.length) by rw [← hL]; exact msg_back HE.out more)
  have HCT := hide (show ∀ c, c < n → rdMsg (L.take c) = none from fun c hc => by rw [← hL]; exact msg_cut HE.out (by rw [hL, hn]; exact hc))
  have HO0 := hide (OwnY.lit u2 [] (by simp) (by simp))
  have HU2 := hide (below_one u2 (.cells #[] 5))
  clear hL hn
  go_wp2_with (at_builtin; refine app_bys (w := u2.alloc (.cells #[] 5)) rfl _ _ rfl u2.heap.size _ (.slice ba n bc) [] L rfl HO0.out rfl (HI.out.below HU2.out) HIN.out ?h1 ?h2 ?_)
  case h1 => rw [HN.out]; simp; omega
  case h2 => exact HU2.out.size
  intro v1 w3 ho3 hb3
  have HO3 := hide (show OwnY w3 u2.heap.size v1 L from ho3)
  have HB3 := hide (hb3 u2 HU2.out (Nat.le_refl _))
  obtain ⟨xa, xc, hxe⟩ := ho3.shape
  rw [HN.out] at hxe
  subst hxe
  clear ho3 hb3
  go_wp2_with (at_builtin; refine app_bys (w := w3) rfl _ _ rfl u2.heap.size (.slice xa n xc) (.slice pa pn pc) L more rfl HO3.out rfl (HM.out.below (bel_on C2.out HB3.out)) HNO.out ?h1 ?h2 ?_)
  case h1 => rw [HN.out]; have := HML.out; omega
  case h2 => exact HB3.out.size
  intro v2 w4 ho4 hb4
  have HI4 := hide ho4.isBys
  have HB4 := hide (hb4 u2 HB3.out (Nat.le_refl _))
  obtain ⟨za, zc, hze⟩ := ho4.shape
  obtain ⟨zn, hzn⟩ : ∃ x, (L ++ more).length = x := ⟨_, rfl⟩
  rw [hzn] at hze
  subst hze
  clear ho4 hb4 hzn
  have C4 := hide (bel_on C2.out HB4.out)
  have HQ4 := hide (HQ2.out.bel HB4.out HQ2.out.lt)
  replace HI := hide (HI.out.below HB4.out)
  have HX := hide (wdec_any _ (L ++ more) w4 HI4.out)
  obtain ⟨J, hJ⟩ : ∃ J : Int, J = (n : Int) := ⟨_, rfl⟩
  have HJ := hide (show J = (L.length : Int) by rw [HN.out]; exact hJ)
  have nJ : (J != (n : Int)) = false := by simp [hJ]
  have HRC := hide (show b.rows = r ∧ b.cols = c by
    obtain ⟨s', h1, _⟩ := HV.out
    simp at h1
    exact ⟨h1.1.symm, h1.2.1.symm⟩)
  clear hJ
  go_wp2_with fail
  refine HX.out.mono ?_
  intro e u5 hd
  obtain ⟨mv, he, hb, hm⟩ := hd.yes HBK.out
  obtain ⟨ma, mn, mc, hmv⟩ := hm.shape
  rw [HRC.out.1, HRC.out.2] at hmv
  subst hmv
  rw [← HJ.out] at he
  subst he
  have HM5 := hide hm.boxed
  have HBD := hide (bel_on hb (below_one u5 (.cells #[.int .i64 k, .int .i64 mi, .int .i64 r, .int .i64 c, .slice ma mn mc] 26)))
  have C5 := hide (bel_on C4.out HBD.out)
  obtain ⟨q0, q1, q2, q3, q4⟩ := (HQ4.out.bel HBD.out HQ4.out.lt).c
  replace HI := hide (HI.out.below HBD.out)
  clear hd hb hm HX
  have HX := hide (messages_any _ _ k mi k mi b b _ HM5.out (HV.out.below C5.out))
  rw [sameG_self] at HX
  go_wp2_with fail
  refine HX.out.mono ?_
  rintro e u6 ⟨rfl, hb⟩
  have C6 := hide (bel_on C5.out hb)
  replace HI := hide (HI.out.below hb)
  clear hb HX q0 q1 q2 q3 q4
  have HX := hide (pick_any cut (n : Int) u6 hc0 hc1 (by omega) (by omega))
  go_wp2_with fail
  refine HX.out.mono ?_
  rintro e uu ⟨ck, rfl, hck, huu⟩
  obtain rfl := huu.symm
  clear huu HX
  obtain ⟨xc', hxc⟩ : ∃ x : Int, x = (ck : Int) := ⟨_, rfl⟩
  rw [← hxc]
  have HCK := hide (show ck < n by omega)
  obtain ⟨ga, gn, gc, hsl, hgi⟩ := by_h HI.out ck xc' hxc (by rw [HN.out]; omega)
  have HGI := hide hgi
  clear hck hgi hxc
  have HX := hide (wdec_any _ (L.take ck) u6 HGI.out)
  go_wp2_with fail
  refine HX.out.mono ?_
  intro e u7 hd
  obtain ⟨mv, rfl, hb, hm⟩ := hd.no (HCT.out ck HCK.out)
  obtain ⟨ma', mn', mc', rfl⟩ := hm.shape
  have C7 := hide (bel_on C6.out hb)
  clear hd hb hm HX
  have HX := hide (error_same (k := 7) (n := 7) rfl u7 (HH.out.below C7.out))
  rw [err_ne (by decide)] at HX
  go_wp2_with fail
  refine HX.out.mono ?_
  rintro e u8 ⟨rfl, hb⟩
  have C8 := hide (bel_on C7.out hb)
  clear hb HX
  go_wp2
  go_ret
  exact ⟨rfl, C8.out⟩
end Go.Proofs.YtaajlggpjholeahDoor
