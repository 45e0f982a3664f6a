/- What checkStage of package plan comes to. -/
import Derived.Test.YtgdggaieekakhagDoorPnP
import Derived.Deep.RegionHeld3
import Derived.Deep.CutRange
namespace Go.Proofs.YtgdggaieekakhagDoor
open Go.RowKit
set_option maxHeartbeats 16000000 in
set_option maxRecDepth 100000 in
theorem stage_any (s m : Int) (v : Value) (l : List (Int × Int)) (b : Nat) (L : List (Int × Int × Int)) (w : World) (hv : IsActs w v l) (hd : Deeds w b L) (hs : 0 ≤ s ∧ s ≤ 50) (hm : 1 ≤ m ∧ m ≤ 12) (hL : ∀ d ∈ L, d.1 ≠ s) :
    Calls Tryd.prog 34 #[.int .i64 s, v, .int .i64 m, .map (some b)] w fun e w' => e = .returned (errV (actsE l m)) ∧ (actsE l m = 0 → Deeds w' b (L ++ deedsOf s l)) ∧ w.grownBy w' (some b) := by
  have hlen := hv.len
  unfold maxLen at hlen
  obtain ⟨M, hM⟩ : ∃ M : Nat, m = (M : Int) := ⟨m.toNat, by omega⟩
  obtain ⟨a, cap, rfl, h2, h3, h4⟩ := hv
  obtain ⟨n, hn⟩ : ∃ n, l.length = n := ⟨_, rfl⟩
  have HN := hide hn
  have H4 := hide h4
  have HD := hide hd
  have HL := hide hL
  have HS := hide hs
  have HM := hide hM
  have hm1 : 1 ≤ m := hm.1
  have hm2 : m ≤ 12 := hm.2
  rw [hn] at h2 hlen ⊢
  clear hn h4 hd hL hs hm hM
  go_enter Tryd.func34, Tryd.ntmps34
  go_wp2
  go_loopw [17] (fun i wr => ∃ (k : Nat) (xi : Int), k ≤ n ∧ xi = (k : Int) ∧ i = .int .i64 xi ∧ Below w.heap.size w wr ∧ ∀ j x, j < k → l[j]? = some x → okA m x) (fun i _ => n - (intOf i).toNat)
  case atStart => exact ⟨0, 0, Nat.zero_le _, rfl, rfl, Below.refl _ _, fun j x hj _ => by omega⟩
  case round =>
    obtain ⟨k, xi, hk, hxi, rfl, hb, he⟩ := hrel
    have HB := hide hb
    have HE := hide he
    have HXI := hide hxi
    have hx0 : 0 ≤ xi := by omega
    have hx1 : xi ≤ 9223372036854775807 := by omega
    clear hb he hxi
    by_cases hlt : xi < (n : Int)
    · obtain ⟨x, hx⟩ := act_at (l := l) (i := k) (by have := HN.out; have := HXI.out; omega)
      obtain ⟨b2, off, ha, hcl⟩ := H4.out.resolve_left (fun e => by rw [e] at hx; simp at hx)
      subst ha
      obtain ⟨d1, d2⟩ := hcl k x hx
      rw [show k = xi.toNat by have := HXI.out; omega] at d1 d2
      obtain ⟨ak, am⟩ := x
      dsimp only at d1 d2
      replace d1 := cell_bel HB.out d1
      replace d2 := cell_bel HB.out d2
      have HX := hide hx
      have HBA := hide (below_go HB.out (below_one wr (.cells #[.int .i64 ak, .int .i64 am] 56)))
      have HC := hide (isact_any ak am m (wr.alloc (.cells #[.int .i64 ak, .int .i64 am] 56)))
      clear hcl hx
      by_cases hok : okAB m (ak, am) = true
      · rw [hok] at HC
        have HU := hide (show ∀ j x, j < k + 1 → l[j]? = some x → okA m x by
          intro j x hj hx
          rcases Nat.lt_or_ge j k with h | h
          · exact HE.out j x h hx
          · rw [show j = k by omega, HX.out] at hx
            rw [← Option.some.inj hx]; exact okAB_iff.1 hok)
        clear hok
        go_wp2_with (go_at_call 42; refine HC.out.mono ?_; rintro e w1 ⟨rfl, hb1⟩)
        have HB1 := hide (below_go HBA.out hb1)
        clear hb1
        go_wp2
        go_roundw
        case rel => exact ⟨k + 1, _, by have := HXI.out; omega, by have := HXI.out; omega, rfl, HB1.out, HU.out⟩
        case measure => have := HXI.out; simp [intOf]; omega
      · have HA := hide (actsE_one (m := m) HX.out (fun e => hok (okAB_iff.2 e)))
        rw [Bool.not_eq_true] at hok
        rw [hok] at HC
        clear hok
        go_wp2_with (go_at_call 42; refine HC.out.mono ?_; rintro e w1 ⟨rfl, hb1⟩)
        have HB1 := hide (below_go HBA.out hb1)
        clear hb1
        go_wp2
        go_ret
        exact ⟨ret_err (err_of HA.out (by decide)), fun e => absurd (HA.out.trans e) (by decide), grow_of HB1.out _⟩
    · have HALL := hide (all_okA (l := l) (m := m) (fun i x hi hx => HE.out i x (by have := HN.out; have := HXI.out; omega) hx))
      have HG0 := hide (show w.grownBy wr (some b) from grow_of HB.out _)
      have HD0 := hide (show Deeds wr b (L ++ deedsOf s (l.take 0)) by rw [List.take_zero]; simpa [deedsOf] using HD.out.below HB.out)
      go_wp2
      go_loopw [29] (fun i wq => ∃ (k : Nat) (xi : Int), k ≤ n ∧ xi = (k : Int) ∧ i = .int .i64 xi ∧ w.grownBy wq (some b) ∧ Deeds wq b (L ++ deedsOf s (l.take k))) (fun i _ => n - (intOf i).toNat)
      case atStart => exact ⟨0, 0, Nat.zero_le _, rfl, rfl, HG0.out, HD0.out⟩
      case round =>
        obtain ⟨k2, xj, hk2, hxj, rfl, hg, hdd⟩ := hrel
        have HG := hide hg
        have HDD := hide hdd
        have HXJ := hide hxj
        have hy0 : 0 ≤ xj := by omega
        have hy1 : xj ≤ 9223372036854775807 := by omega
        clear hg hdd hxj
        by_cases hlt : xj < (n : Int)
        · obtain ⟨x, hx⟩ := act_at (l := l) (i := k2) (by have := HN.out; have := HXJ.out; omega)
          obtain ⟨b2, off, ha, hcl⟩ := H4.out.resolve_left (fun e => by rw [e] at hx; simp at hx)
          subst ha
          obtain ⟨d1, d2⟩ := hcl k2 x hx
          have hokx := HALL.out x (List.mem_of_getElem? hx)
          rw [show k2 = xj.toNat by have := HXJ.out; omega] at d1 d2
          obtain ⟨ak, am⟩ := x
          dsimp only at d1 d2
          replace d1 := cell_grow HD.out HG.out d1
          replace d2 := cell_grow HD.out HG.out d2
          have HX := hide hx
          have HOK := hide (show okD (s, ak, am) by
            obtain ⟨q1, q2, q3, q4⟩ := hokx
            obtain ⟨r1, r2⟩ := HS.out
            dsimp only at q1 q2 q3 q4
            exact ⟨r1, by show s ≤ 100; omega, by show 0 ≤ ak; omega, by show ak ≤ 100; omega, q3, by show am ≤ 100; omega⟩)
          clear hcl hx hokx
          have HBA := hide (below_go (below_one wr (.cells #[.int .i64 ak, .int .i64 am] 56)) (below_one (wr.alloc (.cells #[.int .i64 ak, .int .i64 am] 56)) (.cells #[.int .i64 s, .int .i64 ak, .int .i64 am] 99)))
          have HH := hide (has_any b s ak am _ ((wr.alloc (.cells #[.int .i64 ak, .int .i64 am] 56)).alloc (.cells #[.int .i64 s, .int .i64 ak, .int .i64 am] 99)) (HDD.out.below HBA.out) HOK.out)
          by_cases hin : (s, ak, am) ∈ L ++ deedsOf s (l.take k2)
          · have HA := hide (actsE_two HALL.out (not_apart HX.out ((mem_deeds HL.out).1 hin)))
            rw [show decide ((s, ak, am) ∈ L ++ deedsOf s (l.take k2)) = true by simpa using hin] at HH
            clear hin
            go_wp2_with (go_at_call 43; refine HH.out.mono ?_; rintro e w1 ⟨rfl, hb1⟩)
            have HB1 := hide (below_go HBA.out hb1)
            clear hb1
            go_wp2
            go_ret
            exact ⟨ret_err (err_of HA.out (by decide)), fun e => absurd (HA.out.trans e) (by decide), HG.out.trans (grow_of HB1.out _)⟩
          · have HNI := hide hin
            rw [show decide ((s, ak, am) ∈ L ++ deedsOf s (l.take k2)) = false by simpa using hin] at HH
            clear hin
            go_wp2_with (first | (go_at_call 43; refine HH.out.mono ?_; rintro e w1 ⟨rfl, hb1⟩; obtain ⟨z0, z1, z2⟩ := pn_new3 (wr.alloc (.cells #[.int .i64 ak, .int .i64 am] 56)) (.int .i64 s) (.int .i64 ak) (.int .i64 am) 99 hb1 (B := wr.heap.size + 1) (by simp); have HB1 := hide (below_go HBA.out hb1); clear hb1) | (go_at_call 44; refine (dadd_any b s ak am _ _ (HDD.out.below HB1.out) HOK.out HNI.out).mono ?_; rintro e w2 ⟨rfl, hd2, hg2⟩))
            have HD2 := hide (show Deeds w2 b (L ++ deedsOf s (l.take (k2 + 1))) by rw [deeds_snoc HX.out]; exact hd2)
            have HG2 := hide (HG.out.trans ((grow_of HB1.out (some b)).trans hg2))
            clear hd2 hg2
            go_wp2
            go_roundw
            case rel => exact ⟨k2 + 1, _, by have := HXJ.out; omega, by have := HXJ.out; omega, rfl, HG2.out, HD2.out⟩
            case measure => have := HXJ.out; simp [intOf]; omega
        · have HDE := hide (show Deeds wr b (L ++ deedsOf s l) by have := HDD.out; rw [List.take_of_length_le (by have := HN.out; have := HXJ.out; omega)] at this; exact this)
          have HAP := hide (deeds_apart HDE.out.nodup)
          by_cases hlm : (n : Int) < 2 * m
          · have HA := hide (actsE_less HALL.out HAP.out (by rw [HN.out]; exact hlm))
            go_wp2
            go_ret
            exact ⟨ret_err (err_of HA.out (by decide)), fun e => absurd (HA.out.trans e) (by decide), HG.out⟩
          · have HLM := hide (show ¬ (l.length : Int) < 2 * (M : Int) by rw [HN.out, ← HM.out]; exact hlm)
            obtain ⟨WD, hWD⟩ : ∃ x, x = wr := ⟨_, rfl⟩
            subst hWD
            go_wp2
            go_loopw [51] (fun i wq => ∃ (k : Nat) (xi : Int), k ≤ M ∧ xi = (k : Int) ∧ i = .int .i64 xi ∧ Below WD.heap.size WD wq ∧ ∀ p : Nat, p < k → ¬ posD (s, 2, (p : Int)) (L ++ deedsOf s l) < posD (s, 1, (p : Int)) (L ++ deedsOf s l)) (fun i _ => M - (intOf i).toNat)
            case atStart => exact ⟨0, 0, Nat.zero_le _, rfl, rfl, Below.refl _ _, fun p hp => by omega⟩
            case round =>
              obtain ⟨p, xp, hp, hxp, rfl, hb3, he3⟩ := hrel
              have HB3 := hide hb3
              have HE3 := hide he3
              have HXP := hide hxp
              have hz0 : 0 ≤ xp := by omega
              have hz1 : xp ≤ 9223372036854775807 := by have := HM.out; omega
              clear hb3 he3 hxp
              by_cases hlt3 : xp < m
              · obtain ⟨vb, hvb⟩ : ∃ x, posD (s, 2, (p : Int)) (L ++ deedsOf s l) = x := ⟨_, rfl⟩
                obtain ⟨vf, hvf⟩ : ∃ x, posD (s, 1, (p : Int)) (L ++ deedsOf s l) = x := ⟨_, rfl⟩
                have HLK := hide (show ∀ W', Below wr.heap.size wr W' → (Instr.lookup 75 (.map (some b)) (.agg #[.int .i64 s, .int .i64 2, .int .i64 xp]) false).run Tryd.prog W' = .ok (.int .i64 vb) W' ∧ (Instr.lookup 75 (.map (some b)) (.agg #[.int .i64 s, .int .i64 1, .int .i64 xp]) false).run Tryd.prog W' = .ok (.int .i64 vf) W' by
                  intro W' hW
                  have hD := HDE.out.below (below_go HB3.out hW)
                  obtain ⟨r1, r2⟩ := HS.out
                  have hx := HXP.out
                  have q2 := hD.look (d := (s, 2, (p : Int))) ⟨r1, by show s ≤ 100; omega, by show (0 : Int) ≤ 2; decide, by show (2 : Int) ≤ 100; decide, by show 0 ≤ (p : Int); omega, by show (p : Int) ≤ 100; omega⟩ false
                  have q1 := hD.look (d := (s, 1, (p : Int))) ⟨r1, by show s ≤ 100; omega, by show (0 : Int) ≤ 1; decide, by show (1 : Int) ≤ 100; decide, by show 0 ≤ (p : Int); omega, by show (p : Int) ≤ 100; omega⟩ false
                  rw [hvb] at q2
                  rw [hvf] at q1
                  unfold keyD at q1 q2
                  dsimp only at q1 q2
                  rw [← hx] at q1 q2
                  exact ⟨by simpa using q2, by simpa using q1⟩)
                have HV := hide (And.intro hvb hvf)
                clear hvb hvf
                go_wp2
                go_cut [66] from 54 to 66 (fun c wx => c = .bool (decide (vb < vf)) ∧ Below wr.heap.size wr wx)
                case first =>
                  obtain ⟨lm1, lm2⟩ := HLK.out wr (Below.refl _ _)
                  go_region_held3 (fun W' => (Instr.lookup 75 (.map (some b)) (.agg #[.int .i64 s, .int .i64 2, .int .i64 xp]) false).run Tryd.prog W' = .ok (.int .i64 vb) W' ∧ (Instr.lookup 75 (.map (some b)) (.agg #[.int .i64 s, .int .i64 1, .int .i64 xp]) false).run Tryd.prog W' = .ok (.int .i64 vf) W')
                    ((refine HLK.out _ ?_; repeat' (first | with_reducible exact Below.refl _ _ | with_reducible refine pn_drew ?_ | with_reducible refine below_go ?_ hbB | with_reducible refine below_go ?_ hbF)))
                    (first | (go_at_call 45; refine (bwd_any _ _).mono ?_; rintro e wB ⟨rfl, hbB⟩) | (go_at_call 46; refine (fwd_any _ _).mono ?_; rintro e wF ⟨rfl, hbF⟩))
                  all_goals go_wp2
                  all_goals go_meet
                  all_goals
                    refine ⟨rfl, ?_⟩
                    repeat' (first | with_reducible exact Below.refl _ _ | with_reducible refine pn_drew ?_ | with_reducible refine below_go ?_ hbB | with_reducible refine below_go ?_ hbF)
                case rest =>
                  obtain ⟨rfl, hbc⟩ := hcut
                  have HBC := hide (below_go HB3.out hbc)
                  clear hbc
                  by_cases hvv : vb < vf
                  · have HA := hide (actsE_back HALL.out HAP.out (by have := HLM.out; have := HM.out; omega) (back_first (s := s) (L := L) (m := M) (p := p) (by rw [← HM.out]; exact HALL.out) HDE.out.nodup (by have := HLM.out; omega) (by have := HXP.out; have := HM.out; omega) (by rw [HV.out.1, HV.out.2]; exact hvv)))
                    go_wp2
                    go_ret
                    exact ⟨ret_err (err_of HA.out (by decide)), fun e => absurd (HA.out.trans e) (by decide), HG.out.trans (grow_of HBC.out _)⟩
                  · have HU := hide (show ∀ q : Nat, q < p + 1 → ¬ posD (s, 2, (q : Int)) (L ++ deedsOf s l) < posD (s, 1, (q : Int)) (L ++ deedsOf s l) by
                      intro q hq
                      rcases Nat.lt_or_ge q p with h | h
                      · have := HE3.out q h; omega
                      · rw [show q = p by omega, HV.out.1, HV.out.2]; exact hvv)
                    go_wp2
                    go_roundw
                    case rel => exact ⟨p + 1, _, by have := HXP.out; have := HM.out; omega, by have := HXP.out; omega, rfl, HBC.out, HU.out⟩
                    case measure => have := HXP.out; have := HM.out; simp [intOf]; omega
              · have HA := hide (actsE_ok HALL.out HAP.out (by have := HLM.out; have := HM.out; omega) (all_ahead (s := s) (L := L) (m := M) (by rw [← HM.out]; exact HALL.out) HDE.out.nodup (fun q hq => by have := HE3.out q (by have := HXP.out; have := HM.out; omega); omega)))
                go_wp2
                go_ret
                exact ⟨ret_err (err_no HA.out), fun _ => HDE.out.below HB3.out, HG.out.trans (grow_of HB3.out _)⟩
end Go.Proofs.YtgdggaieekakhagDoor
