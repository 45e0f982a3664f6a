/- The walk of the law CutBest: no cut is better. -/
import Derived.Test.YtlbcmebifmebgafCtL
namespace Go.Proofs.Ytlbcmebifmebgaf
open Go.RowKit
theorem ints_four (w : World) : IsInts (w.alloc (.cells #[.int .i64 4, .int .i64 1, .int .i64 1, .int .i64 6] 3)) (.slice (some ⟨w.heap.size, 0, none⟩) 4 4) [4, 1, 1, 6] :=
  ⟨_, _, rfl, Nat.le_refl _, by unfold maxLen; omega, .inr ⟨_, 0, rfl, fun i y hy => by
    match i, hy with
    | 0, hy => simp at hy; subst hy; simp
    | 1, hy => simp at hy; subst hy; simp
    | 2, hy => simp at hy; subst hy; simp
    | 3, hy => simp at hy; subst hy; simp⟩⟩
theorem ints_two (w : World) : IsInts (w.alloc (.cells #[.int .i64 3, .int .i64 4] 3)) (.slice (some ⟨w.heap.size, 0, none⟩) 2 2) [3, 4] :=
  ⟨_, _, rfl, Nat.le_refl _, by unfold maxLen; omega, .inr ⟨_, 0, rfl, fun i y hy => by
    match i, hy with
    | 0, hy => simp at hy; subst hy; simp
    | 1, hy => simp at hy; subst hy; simp⟩⟩
theorem sum_bd {f : Nat → Int} {k : Nat} (h0 : ∀ i, i < k → 0 ≤ f i) (h1 : ∀ i, i < k → f i ≤ 12000000) (hk : k ≤ 6) : 0 ≤ sumF f k ∧ sumF f k ≤ 72000000 := by
  have a1 := sumF_nonneg h0
  have a2 := sumF_le h1
  omega
set_option maxHeartbeats 32000000 in
set_option maxRecDepth 100000 in
theorem best_walk (v0 v2 : Value) (cs es : List Int) (r : Int) (w : World) (w0 : IsInts w v0 cs) (w2 : IsInts w v2 es) : Calls Try.prog 4 #[v0, .int .i64 r, v2] w fun e w' => e = .returned (.bool true) ∧ Below w.heap.size w w' := by
  have hl0 := w0.len
  have hl1 := w2.len
  unfold maxLen at hl0 hl1
  obtain ⟨a, cap, hve, g2, g3, g4⟩ := id w0
  obtain ⟨a', cap', hue, g2', g3', g4'⟩ := id w2
  subst hve hue
  have HV4 := hide g4
  obtain ⟨n, hn⟩ : ∃ n, cs.length = n := ⟨_, rfl⟩
  obtain ⟨k, hk⟩ : ∃ k, es.length = k := ⟨_, rfl⟩
  have HN := hide (And.intro hn hk)
  have HV := hide w0
  have HE := hide w2
  rw [hn] at HV hl0 g2 ⊢
  rw [hk] at HE hl1 g2' ⊢
  have C0 := hide (Below.refl w.heap.size w)
  have HB4 := hide (best_any _ [4, 1, 1, 6] 2 _ (ints_four w))
  rw [show bestE [4, 1, 1, 6] 2 = 0 from bestE_ok (by simp) (costsE_of (by intro c hc; simp at hc; omega)) (by simp), err_eq rfl] at HB4
  clear w0 w2 hn hk g4 g4'
  go_enter Try.func4, Try.ntmps4
  go_wp2_with fail
  refine HB4.out.mono ?_
  rintro e u1 ⟨s1, m1, rfl, ⟨zs, hi, hp⟩, hb⟩
  obtain ⟨hz, hm⟩ := hp.one best_four
  subst hz hm
  replace C0 := hide (bel_nx (bel_al C0.out) hb)
  have HI := hide hi
  have HX := hide (ints_ct _ _ [3, 4] _ (hi.below (below_one u1 (.cells #[.int .i64 3, .int .i64 4] 3))) (ints_two u1))
  obtain ⟨sa1, sn1, sk1, hse⟩ := hi.shape
  subst hse
  clear hi hp hb HB4
  go_wp2_with fail
  refine HX.out.mono ?_
  rintro e u2 ⟨rfl, hb⟩
  replace C0 := hide (bel_nx (bel_al C0.out) hb)
  clear hb HX HI
  have HX := hide (best_any _ cs r u2 (HV.out.below C0.out))
  go_wp2_with fail
  refine HX.out.mono ?_
  rintro e u3 ⟨s3, m, rfl, ⟨zs, hi, hp⟩, hb⟩
  replace C0 := hide (bel_nx C0.out hb)
  have HS := hide hi
  have HP := hide hp
  obtain ⟨sa3, sn3, sk3, hse⟩ := hi.shape
  subst hse
  clear hi hp hb HX
  by_cases hE : bestE cs r = 0
  rotate_left 1
  · rw [err_ne hE]
    clear hE
    go_wp2
    go_ret
    exact ⟨rfl, C0.out⟩
  obtain ⟨R, FA⟩ := best_facts HP.out hE
  have HFA := hide FA
  rw [hE, err_eq rfl]
  clear FA hE HP
  have HX := hide (cost_any _ _ cs zs u3 (HV.out.below C0.out) HS.out)
  rw [show costE cs (endsE zs (cs.length : Int)) = 0 by unfold costE; rw [if_pos HFA.out.cost]; exact HFA.out.ends, err_eq rfl] at HX
  rw [show costX cs zs = tab R (stg cs zs) by unfold costX costE; rw [if_pos HFA.out.cost, if_pos HFA.out.ends, HFA.out.len]] at HX
  go_wp2_with fail
  refine HX.out.mono ?_
  rintro e u4 ⟨s4, rfl, hi, hb⟩
  replace C0 := hide (bel_nx C0.out hb)
  obtain ⟨ca, ck, hse, q2, q3, q4⟩ := hi
  rw [tab_len] at hse q2
  subst hse
  have HQ4 := hide q4
  have HC4 := hide (fun (h : cs = []) => h)
  have hRr : ((R : Int) != r) = false := by rw [HFA.out.rr]; simp
  have hR6 : R ≤ 6 := HFA.out.six
  have hr1 : 1 ≤ r := by have := HFA.out.rr; have := HFA.out.one; omega
  have hr6 : r ≤ 6 := by have := HFA.out.rr; omega
  have hm0 := HFA.out.m0
  have hm1 := HFA.out.m1
  clear hb HX HS q4 HC4
  go_wp2
  go_loop [14, 15, 16] (fun av tv iv => ∃ (j : Nat) (xi xa xt : Int), j ≤ R ∧ xi = (j : Int) ∧ iv = .int .i64 xi ∧ av = .int .i64 xa ∧ xa = sumF (stg cs zs) j ∧ tv = .int .i64 xt ∧ xt = topF (stg cs zs) j) (fun _ _ iv => R - (intOf iv).toNat)
  case atStart => exact ⟨0, 0, 0, 0, Nat.zero_le _, rfl, rfl, rfl, rfl, rfl, rfl⟩
  case round =>
    obtain ⟨j, xi, xa, xt, hj, hxi, rfl, rfl, hxa, rfl, hxt⟩ := hrel
    have HXI := hide hxi
    have HXA := hide hxa
    have HXT := hide hxt
    have hb0 : 0 ≤ xi := by omega
    have hb1 : xi ≤ 6 := by omega
    have hab := sum_bd (f := stg cs zs) (k := j) (fun i hi => HFA.out.lo i (by omega)) (fun i hi => by have := HFA.out.hi i (by omega); omega) (by omega)
    rw [← hxa] at hab
    obtain ⟨ha0, ha1⟩ := hab
    clear hxi hxa hxt
    by_cases hlt : xi < (R : Int)
    · have hjR : j < R := by have := HXI.out; omega
      have hx := tab_at (f := stg cs zs) hjR
      obtain ⟨x, hxv⟩ : ∃ x, stg cs zs j = x := ⟨_, rfl⟩
      rw [hxv] at hx
      obtain ⟨b, off, ha, hcl⟩ := HQ4.out.resolve_left (fun e => by rw [e] at hx; simp at hx)
      subst ha
      have cx : u4.cell? ⟨b, off + xi.toNat, none⟩ = some (.int .i64 x) := by rw [show xi.toNat = j by have := HXI.out; omega]; exact hcl j x hx
      have hx0 : 0 ≤ x := by rw [← hxv]; exact HFA.out.lo j hjR
      have hx1 : x ≤ 12000000 := by rw [← hxv]; have := HFA.out.hi j hjR; omega
      have HSU := hide (show xa + x = sumF (stg cs zs) (j + 1) by unfold sumF; rw [← HXA.out, hxv])
      have HTO := hide (show max xt x = topF (stg cs zs) (j + 1) by unfold topF; rw [← HXT.out, hxv])
      clear hx hxv hcl
      by_cases hgt : xt < x
      · go_wp2
        go_round
        case rel => exact ⟨j + 1, _, _, _, by omega, by have := HXI.out; omega, rfl, rfl, HSU.out, rfl, by rw [← HTO.out]; omega⟩
        case measure => have := HXI.out; simp [intOf]; omega
      · go_wp2
        go_round
        case rel => exact ⟨j + 1, _, _, _, by omega, by have := HXI.out; omega, rfl, rfl, HSU.out, rfl, by rw [← HTO.out]; omega⟩
        case measure => have := HXI.out; simp [intOf]; omega
    · obtain rfl : j = R := by have := HXI.out; omega
      have htm : (xt != m) = false := by rw [HXT.out, HFA.out.top]; simp
      obtain ⟨P, hP⟩ : ∃ P, m * r = P := ⟨_, rfl⟩
      have hPA : ¬ P < xa := by rw [← hP, HXA.out]; have := HFA.out.all; omega
      have hP1 : P ≤ 72000000 := by rw [← hP]; have := Int.mul_le_mul hm1 hr6 (by omega) (by omega); omega
      have hP0 : 0 ≤ P := by rw [← hP]; exact Int.mul_nonneg hm0 (by omega)
      have hPw : IntKind.i64.wrap (m * r) = P := by rw [hP, IntKind.wrap_i64]; omega
      have HEA := hide HFA.out.each
      clear hP
      go_wp2
      go_loop [17] (fun iv => ∃ (j : Nat) (xi : Int), j ≤ n ∧ xi = (j : Int) ∧ iv = .int .i64 xi) (fun iv => n - (intOf iv).toNat)
      case atStart => exact ⟨0, 0, Nat.zero_le _, rfl, rfl⟩
      case round =>
        obtain ⟨j2, xj, hj2, hxj, rfl⟩ := hrel
        have HXJ := hide hxj
        have hc0 : 0 ≤ xj := by omega
        have hc1 : xj ≤ 12 := by have := HFA.out.n; have := HN.out.1; omega
        clear hxj
        by_cases hl2 : xj < (n : Int)
        · obtain ⟨x, hx⟩ := some_at (cs := cs) (p := j2) (by have := HN.out.1; have := HXJ.out; omega)
          obtain ⟨b, off, ha, hcl⟩ := HV4.out.resolve_left (fun e => by rw [e] at hx; simp at hx)
          subst ha
          have cx : u4.cell? ⟨b, off + xj.toNat, none⟩ = some (.int .i64 x) := by rw [show xj.toNat = j2 by have := HXJ.out; omega]; exact cell_below C0.out (hcl j2 x hx)
          have hxm : ¬ m < x := by have := HEA.out x (List.mem_of_getElem? hx); omega
          clear hx hcl
          go_wp2
          go_round
          case rel => exact ⟨j2 + 1, _, by have := HXJ.out; omega, by have := HXJ.out; omega, rfl⟩
          case measure => have := HXJ.out; simp [intOf]; omega
        · have HX := hide (cost_any _ _ cs es u4 (HV.out.below C0.out) (HE.out.below C0.out))
          obtain ⟨D, hD⟩ : ∃ D, costE cs (endsE es (cs.length : Int)) = D := ⟨_, rfl⟩
          rw [hD] at HX
          have HD := hide hD
          clear hD
          go_wp2_with fail
          refine HX.out.mono ?_
          rintro e u5 ⟨s5, rfl, hi, hb⟩
          replace C0 := hide (bel_nx C0.out hb)
          have HI5 := hide hi
          clear hb HX
          by_cases hD0 : D = 0
          · subst hD0
            rw [err_eq rfl]
            by_cases hkr : (k : Int) = r
            · have hkn : ((k : Int) != r) = false := by simp [hkr]
              have HKR := hide (show es.length = j by have := HN.out.2; have := HFA.out.rr; omega)
              have HEN := hide (show endsE es (cs.length : Int) = 0 by have := HD.out; unfold costE at this; rw [if_pos HFA.out.cost] at this; exact this)
              have HBE := hide (HFA.out.best es HEN.out HKR.out)
              rw [show costX cs es = tab j (stg cs es) by unfold costX; rw [HD.out, if_pos rfl, HKR.out]] at HI5
              obtain ⟨da, dk, hse, p2, p3, p4⟩ := HI5.out
              rw [tab_len] at hse p2
              subst hse
              have HP4 := hide p4
              clear hkr p4 HI5 hi
              go_wp2
              go_loop [19, 20] (fun tv iv => ∃ (i : Nat) (xi xt : Int), i ≤ j ∧ xi = (i : Int) ∧ iv = .int .i64 xi ∧ tv = .int .i64 xt ∧ xt = topF (stg cs es) i) (fun _ iv => j - (intOf iv).toNat)
              case atStart => exact ⟨0, 0, 0, Nat.zero_le _, rfl, rfl, rfl, rfl⟩
              case round =>
                obtain ⟨i, yi, yt, hi1, hyi, rfl, rfl, hyt⟩ := hrel
                have HYI := hide hyi
                have HYT := hide hyt
                have hd0 : 0 ≤ yi := by omega
                have hd1 : yi ≤ 6 := by omega
                clear hyi hyt
                by_cases hl3 : yi < (j : Int)
                · have hij : i < j := by have := HYI.out; omega
                  have hx := tab_at (f := stg cs es) hij
                  obtain ⟨x, hxv⟩ : ∃ x, stg cs es i = x := ⟨_, rfl⟩
                  rw [hxv] at hx
                  obtain ⟨b, off, ha, hcl⟩ := HP4.out.resolve_left (fun e => by rw [e] at hx; simp at hx)
                  subst ha
                  have cx : u5.cell? ⟨b, off + yi.toNat, none⟩ = some (.int .i64 x) := by rw [show yi.toNat = i by have := HYI.out; omega]; exact hcl i x hx
                  have HTO := hide (show max yt x = topF (stg cs es) (i + 1) by unfold topF; rw [← HYT.out, hxv])
                  clear hx hxv hcl
                  by_cases hgt : yt < x
                  · go_wp2
                    go_round
                    case rel => exact ⟨i + 1, _, _, by omega, by have := HYI.out; omega, rfl, rfl, by rw [← HTO.out]; omega⟩
                    case measure => have := HYI.out; simp [intOf]; omega
                  · go_wp2
                    go_round
                    case rel => exact ⟨i + 1, _, _, by omega, by have := HYI.out; omega, rfl, rfl, by rw [← HTO.out]; omega⟩
                    case measure => have := HYI.out; simp [intOf]; omega
                · obtain rfl : i = j := by have := HYI.out; omega
                  have hge : m ≤ yt := by rw [HYT.out]; exact HBE.out
                  go_wp2
                  go_ret
                  exact ⟨rfl, C0.out⟩
            · have hkn : ((k : Int) != r) = true := by simpa using hkr
              obtain ⟨da, dn, dk, hse⟩ := hi.shape
              subst hse
              clear hi hkr
              go_wp2
              go_ret
              exact ⟨rfl, C0.out⟩
          · rw [err_ne hD0]
            obtain ⟨da, dn, dk, hse⟩ := hi.shape
            subst hse
            clear hi
            go_wp2
            go_ret
            exact ⟨rfl, C0.out⟩
end Go.Proofs.Ytlbcmebifmebgaf
