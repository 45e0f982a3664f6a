/- The walk of the law PeakTells: Peaks and Held of package peak answer how much each stage of any plan keeps at once. Condition: the library's variable errors.errorType is as its text lays it. -/
import Derived.Test.YtgdggaieekakhagDoorPkH
import Derived.Test.YtgdggaieekakhagDoorPkK
import Derived.Test.YtgdggaieekakhagDoorErr
import Derived.Deep.CutBlock
import Derived.Deep.CutRange
namespace Go.Proofs.YtgdggaieekakhagDoor
open Go.RowKit
/-- What the law has found wrong behind so many sizes. -/
def fkS (zs : List Int) (m : Int) (k : Nat) : Int := if (zs.length : Int) ≠ m then 2 else if ∀ x ∈ zs.take k, 0 ≤ x ∧ x ≤ 1000000 then 0 else 1
theorem fk_len {zs : List Int} {m : Int} (h : (zs.length : Int) ≠ m) (k : Nat) : fkS zs m k = 2 := by unfold fkS; rw [if_pos h]
theorem fk_zero {zs : List Int} {m : Int} (h : (zs.length : Int) = m) : fkS zs m 0 = 0 := by
  unfold fkS
  rw [if_neg (fun e => e h), if_pos (fun x hx => by rw [List.take_zero] at hx; cases hx)]
theorem fk_all (zs : List Int) (m : Int) : fkS zs m zs.length = szF zs m := by unfold fkS szF; rw [List.take_length]
theorem fk_stop {zs : List Int} {m : Int} {k : Nat} (h : fkS zs m k ≠ 0) : fkS zs m k = szF zs m := by
  unfold fkS at h ⊢
  unfold szF
  by_cases c : (zs.length : Int) ≠ m
  · rw [if_pos c, if_pos c]
  · rw [if_neg c] at h ⊢
    rw [if_neg c]
    by_cases d : ∀ x ∈ zs.take k, 0 ≤ x ∧ x ≤ 1000000
    · rw [if_pos d] at h; exact absurd rfl h
    · rw [if_neg d, if_neg (fun e => d (fun x hx => e x (List.mem_of_mem_take hx)))]
theorem fk_ok {zs : List Int} {m : Int} {k : Nat} {z : Int} (h : fkS zs m k = 0) (hz : zs[k]? = some z) (h1 : 0 ≤ z) (h2 : z ≤ 1000000) : fkS zs m (k + 1) = 0 := by
  unfold fkS at h ⊢
  by_cases c : (zs.length : Int) ≠ m
  · rw [if_pos c] at h; cases h
  · rw [if_neg c] at h ⊢
    by_cases d : ∀ x ∈ zs.take k, 0 ≤ x ∧ x ≤ 1000000
    · rw [if_pos]
      rw [List.take_add_one, hz]
      intro x hx
      rcases List.mem_append.1 hx with q | q
      · exact d x q
      · rw [List.mem_singleton.1 q]; exact ⟨h1, h2⟩
    · rw [if_neg d] at h; cases h
theorem fk_bad {zs : List Int} {m : Int} {k : Nat} {z : Int} (h : fkS zs m k = 0) (hz : zs[k]? = some z) (h1 : ¬ (0 ≤ z ∧ z ≤ 1000000)) : fkS zs m (k + 1) = 1 := by
  unfold fkS at h ⊢
  by_cases c : (zs.length : Int) ≠ m
  · rw [if_pos c] at h; cases h
  · rw [if_neg c, if_neg]
    intro e
    refine h1 (e z ?_)
    rw [List.take_add_one, hz]
    exact List.mem_append.2 (.inr (List.mem_singleton.2 rfl))
theorem pkX_next (zs : List Int) (l : List (Int × Int)) (k : Nat) : pkX zs l (k + 1) = if pkX zs l k < runX zs (l.take (k + 1)) then runX zs (l.take (k + 1)) else pkX zs l k := rfl
theorem pkN_at {zs : List Int} {p : List (List (Int × Int))} {s : Nat} {l : List (Int × Int)} (h : p[s]? = some l) : (pkN zs p p.length)[s]? = some (pkX zs l l.length) := by
  unfold pkN
  rw [List.take_length, List.getElem?_map, h]; rfl
theorem rep_suc (n : Nat) (x : Int) : List.replicate (n + 1) x = List.replicate n x ++ [x] := by rw [List.replicate_succ']
set_option maxHeartbeats 32000000 in
set_option maxRecDepth 100000 in
theorem pktells_walk (v sv : Value) (p : List (List (Int × Int))) (zs : List Int) (M : Int) (w : World) (hv : IsPlan w v p) (hs : IsInts w sv zs) (hH : Handle w) : Calls Tryd.prog 4 #[v, .int .i64 M, sv] w fun e w' => e = .returned (.bool true) ∧ Below w.heap.size w w' := by
  have HH := hide hH
  have HV := hide hv
  have HS := hide hs
  have hlen := hs.len
  unfold maxLen at hlen
  have C0 := hide (Below.refl w.heap.size w)
  obtain ⟨E, hE⟩ : ∃ E, planE p M = E := ⟨_, rfl⟩
  obtain ⟨G, hG⟩ : ∃ G, hldE p M zs = G := ⟨_, rfl⟩
  have HE := hide hE
  have HG := hide hG
  obtain ⟨a, cap, rfl, g2, g3, g4⟩ := hv
  obtain ⟨a1, cap1, rfl, k2, k3, k4⟩ := hs
  obtain ⟨n, hn⟩ : ∃ n, p.length = n := ⟨_, rfl⟩
  obtain ⟨n1, hn1⟩ : ∃ n, zs.length = n := ⟨_, rfl⟩
  have HN := hide hn
  have HN1 := hide hn1
  have H4 := hide g4
  have HZ4 := hide k4
  rw [hn] at g2 HV ⊢
  rw [hn1] at k2 HS hlen ⊢
  by_cases c : E = 0
  rotate_left 1
  · have HC := hide c
    have HGE := hide (show hldE p M zs = E by unfold hldE; rw [hE, if_neg c])
    have nE : (E == 0) = false := by simpa using c
    have nE2 : (E != 0) = true := by simpa using c
    clear c hE hG hn hn1 g4 k4 hH
    go_enter Tryd.func4, Tryd.ntmps4
    have HX := hide (rplan_any _ p M w HV.out)
    rw [HE.out] at HX
    go_wp2_with fail
    refine HX.out.mono ?_
    rintro e u1 ⟨rfl, hb⟩
    replace C0 := hide (below_go C0.out hb)
    clear hb HX
    have HX := hide (peaks_any _ p M u1 (HV.out.below C0.out))
    rw [HE.out] at HX
    unfold pkL at HX
    rw [if_neg HC.out] at HX
    go_wp2_with fail
    refine HX.out.mono ?_
    rintro e u2 ⟨s1, rfl, hi, hb⟩
    obtain ⟨sa, sc, rfl, _⟩ := hi
    replace C0 := hide (below_go C0.out hb)
    clear hb HX
    have HX := hide (error_same (k := E) (n := E) rfl u2 (HH.out.below C0.out))
    go_wp2_with fail
    refine HX.out.mono ?_
    rintro e u3 ⟨rfl, hb⟩
    replace C0 := hide (below_go C0.out hb)
    clear hb HX
    have HX := hide (held_any _ _ p M zs u3 (HV.out.below C0.out) (HS.out.below C0.out))
    rw [HGE.out] at HX
    unfold pkL at HX
    rw [if_neg HC.out] at HX
    go_wp2_with fail
    refine HX.out.mono ?_
    rintro e u4 ⟨s2, rfl, hi, hb⟩
    obtain ⟨ta, tc, rfl, _⟩ := hi
    replace C0 := hide (below_go C0.out hb)
    clear hb HX
    have HX := hide (error_same (k := E) (n := E) rfl u4 (HH.out.below C0.out))
    obtain ⟨V, hV⟩ : ∃ V, errV E = V := ⟨_, rfl⟩
    rw [hV] at HX ⊢
    clear hV
    go_wp2
    go_loopw [12, 13] (fun fv iv wr => fv = .int .i64 E ∧ iv = .int .i64 0 ∧ wr = u4) (fun _ _ _ => 0)
    case atStart => exact ⟨rfl, rfl, rfl⟩
    case round =>
      obtain ⟨rfl, rfl, hwr⟩ := hrel
      subst hwr
      by_cases q : 0 < n1
      · have q2 : (0 : Int) < (n1 : Int) := by omega
        go_wp2_with fail
        refine HX.out.mono ?_
        rintro e u5 ⟨rfl, hb⟩
        replace C0 := hide (below_go C0.out hb)
        clear hb HX
        go_wp2
        go_ret
        exact ⟨rfl, C0.out⟩
      · obtain rfl : n1 = 0 := by omega
        go_wp2_with fail
        refine HX.out.mono ?_
        rintro e u5 ⟨rfl, hb⟩
        replace C0 := hide (below_go C0.out hb)
        clear hb HX
        go_wp2
        go_ret
        exact ⟨rfl, C0.out⟩
  subst c
  have HGS := hide (show szF zs M = G by rw [← hG]; unfold hldE; rw [hE, if_pos rfl])
  obtain ⟨q1, q2, _⟩ := planE_in hE
  unfold rangeP at q1
  rw [hn] at q1
  have HST := hide (stagesE_in q2)
  obtain ⟨mn, hmn⟩ : ∃ x : Nat, M = (x : Int) := ⟨M.toNat, by omega⟩
  have HMN := hide hmn
  have HTN := hide (show M.toNat = mn by omega)
  have hM1 : 1 ≤ M := by omega
  have hM12 : M ≤ 12 := by omega
  have hn6 : n ≤ 6 := by omega
  have hn0 : 1 ≤ n := by omega
  have hm12 : mn ≤ 12 := by omega
  obtain ⟨pb, po, ha, hcl⟩ := g4.resolve_left (fun e => by rw [e] at hn; simp at hn; omega)
  subst ha
  have HCL := hide hcl
  obtain ⟨e0, he0, hz0, hz1, hz2⟩ := info_parts infoInt
  have HEI := hide (And.intro he0 (And.intro hz0 (And.intro hz1 hz2)))
  have HST2 := hide (show ∀ k l, p[k]? = some l → (∀ x ∈ l, okA (mn : Int) x) ∧ apart l ∧ 2 * (mn : Int) ≤ (l.length : Int) ∧ ahead l ∧ l.length ≤ 24 from fun k l hl => by
    have h := actsE_in (HST.out k l hl)
    rw [hmn] at h
    exact ⟨h.1, h.2.1, Int.not_lt.1 h.2.2.1, h.2.2.2, by have := acts_len h.1 h.2.1; omega⟩)
  clear hE hG hn hn1 g4 k4 hH q1 q2 hmn H4 hcl he0 hz0 hz1 hz2
  go_enter Tryd.func4, Tryd.ntmps4
  have HX := hide (rplan_any _ p M w HV.out)
  rw [HE.out] at HX
  go_wp2_with fail
  refine HX.out.mono ?_
  rintro e u1 ⟨rfl, hb⟩
  replace C0 := hide (below_go C0.out hb)
  clear hb HX
  have HX := hide (peaks_any _ p M u1 (HV.out.below C0.out))
  rw [HE.out, HTN.out, err_eq rfl] at HX
  unfold pkL at HX
  rw [if_pos rfl, HN.out] at HX
  go_wp2_with fail
  refine HX.out.mono ?_
  rintro e u2 ⟨s1, rfl, hi, hb⟩
  have HI1 := hide hi
  replace C0 := hide (below_go C0.out hb)
  clear hb HX hi
  have HX := hide (error_same (k := 0) (n := 0) rfl u2 (HH.out.below C0.out))
  rw [err_eq rfl] at HX
  go_wp2_with fail
  refine HX.out.mono ?_
  rintro e u3 ⟨rfl, hb⟩
  replace C0 := hide (below_go C0.out hb)
  replace HI1 := hide (HI1.out.below hb)
  clear hb HX
  have HX := hide (held_any _ _ p M zs u3 (HV.out.below C0.out) (HS.out.below C0.out))
  rw [HG.out] at HX
  obtain ⟨X2, hX2⟩ : ∃ X, pkL G zs p = X := ⟨_, rfl⟩
  have HX2 := hide hX2
  obtain ⟨EV, hEV⟩ : ∃ X, errV G = X := ⟨_, rfl⟩
  have HEV := hide hEV
  rw [hX2, hEV] at HX
  clear hX2 hEV
  go_wp2_with fail
  refine HX.out.mono ?_
  rintro e u4 ⟨s2, rfl, hi, hb⟩
  have HI2 := hide hi
  replace C0 := hide (below_go C0.out hb)
  replace HI1 := hide (HI1.out.below hb)
  clear hb HX hi
  obtain ⟨F0, hF0⟩ : ∃ F, fkS zs M 0 = F := ⟨_, rfl⟩
  have HF0 := hide hF0
  clear hF0
  go_upto_if 50 with fail
  go_cut [12] from 43 to 178 (fun fv wx => fv = .int .i64 F0 ∧ u4 = wx)
  case first =>
    by_cases c2 : (n1 : Int) = M
    · have HZ := hide (show 0 = F0 by rw [← HF0.out, fk_zero (by rw [HN1.out]; exact c2)])
      have nM : ((n1 : Int) != M) = false := by simpa using c2
      clear c2
      go_wp2
      go_meet
      exact ⟨by rw [← HZ.out], by first | rfl | trivial⟩
    · have HZ := hide (show 2 = F0 by rw [← HF0.out, fk_len (by rw [HN1.out]; exact c2)])
      have nM : ((n1 : Int) != M) = true := by simpa using c2
      clear c2
      go_wp2
      go_meet
      exact ⟨by rw [← HZ.out], by first | rfl | trivial⟩
  case rest =>
    obtain ⟨rfl, hwc⟩ := hcut
    subst hwc
    obtain ⟨U4, hU4⟩ : ∃ x, x = u4 := ⟨_, rfl⟩
    subst hU4
    go_upto_block 0 with fail
    go_cut [12, 13] from 43 to 178 (fun fv iv wx => fv = .int .i64 G ∧ U4 = wx)
    case first =>
      go_wp2_with fail
      go_loopw [12, 13] (fun fv iv wr => ∃ (k : Nat) (xi f : Int), k ≤ n1 ∧ xi = (k : Int) ∧ iv = .int .i64 xi ∧ fv = .int .i64 f ∧ f = fkS zs M k ∧ wr = U4) (fun _ iv _ => n1 - (intOf iv).toNat)
      case atStart => exact ⟨0, 0, F0, Nat.zero_le _, rfl, rfl, rfl, HF0.out.symm, rfl⟩
      case round =>
        obtain ⟨k, xi, f, hk, hxi, rfl, rfl, hf, hwr⟩ := hrel
        subst hwr
        have HXI := hide hxi
        have HF := hide hf
        have hx0 : 0 ≤ xi := by omega
        have hx1 : xi ≤ 9223372036854775807 := by omega
        clear hxi hf
        by_cases hlt : xi < (n1 : Int)
        · by_cases hf0 : f = 0
          · subst hf0
            obtain ⟨z, hz⟩ : ∃ z, zs[k]? = some z := ⟨_, List.getElem?_eq_getElem (by have := HN1.out; have := HXI.out; omega)⟩
            obtain ⟨b, off, ha, hc⟩ := HZ4.out.resolve_left (fun e => by rw [e] at hz; simp at hz)
            subst ha
            have d0 := cell_bel C0.out (hc k z hz)
            rw [show k = xi.toNat by have := HXI.out; omega] at d0
            have HZK := hide hz
            clear hc hz
            by_cases q1 : z < 0
            · have HA := hide (fk_bad HF.out.symm HZK.out (by omega))
              go_wp2
              go_roundw
              case rel => exact ⟨k + 1, _, _, by have := HXI.out; omega, by have := HXI.out; omega, rfl, rfl, HA.out.symm, by first | rfl | trivial⟩
              case measure => have := HXI.out; simp [intOf]; omega
            · by_cases q2 : z > 1000000
              · have HA := hide (fk_bad HF.out.symm HZK.out (by omega))
                go_wp2
                go_roundw
                case rel => exact ⟨k + 1, _, _, by have := HXI.out; omega, by have := HXI.out; omega, rfl, rfl, HA.out.symm, by first | rfl | trivial⟩
                case measure => have := HXI.out; simp [intOf]; omega
              · have HA := hide (fk_ok HF.out.symm HZK.out (by omega) (by omega))
                go_wp2
                go_roundw
                case rel => exact ⟨k + 1, _, _, by have := HXI.out; omega, by have := HXI.out; omega, rfl, rfl, HA.out.symm, by first | rfl | trivial⟩
                case measure => have := HXI.out; simp [intOf]; omega
          · have HA := hide (show f = G by rw [← HGS.out, ← fk_stop (k := k) (by rw [← HF.out]; exact hf0)]; exact HF.out)
            have nf : (f == 0) = false := by simpa using hf0
            clear hf0
            go_wp2
            go_meet
            exact ⟨by rw [HA.out], by first | rfl | trivial⟩
        · have HA := hide (show f = G by rw [← HGS.out, ← fk_all, HN1.out, ← show k = n1 by have := HXI.out; omega]; exact HF.out)
          go_wp2
          go_meet
          exact ⟨by rw [HA.out], by first | rfl | trivial⟩
    case rest =>
      obtain ⟨rfl, hwc⟩ := hcut
      subst hwc
      obtain ⟨U5, hU5⟩ : ∃ x, x = U4 := ⟨_, rfl⟩
      subst hU5
      have HX := hide (error_same (k := G) (n := G) rfl U5 (HH.out.below C0.out))
      rw [HEV.out] at HX
      obtain ⟨ya, yk, hye, y2, y3, y4⟩ := HI1.out
      rw [pkN_len _ _ (by rw [HN.out]; exact Nat.le_refl _)] at hye y2
      subst hye
      have HY4 := hide y4
      clear y4
      by_cases c : G = 0
      · subst c
        obtain ⟨ta, tk, hte, t2, t3, t4⟩ := HI2.out
        rw [← HX2.out] at hte t2 t4
        unfold pkL at hte t2 t4
        rw [if_pos rfl, HN.out, pkN_len _ _ (by rw [HN.out]; exact Nat.le_refl _)] at hte t2
        rw [if_pos rfl, HN.out] at t4
        subst hte
        have HT4 := hide t4
        have HSZ := hide (szF_in HGS.out)
        clear t4
        go_wp2_with fail
        refine HX.out.mono ?_
        rintro e U6 ⟨rfl, hb⟩
        replace C0 := hide (below_go C0.out hb)
        have HBU := hide hb
        clear hb HX HI1 HI2
        go_wp2
        go_loopw [14, 15] (fun ov iv wr => ∃ (k : Nat) (xi : Int), k ≤ mn ∧ xi = (k : Int) ∧ iv = .int .i64 xi ∧ OwnZ wr U6.heap.size ov (List.replicate k 1) ∧ Below U6.heap.size U6 wr) (fun _ iv _ => mn - (intOf iv).toNat)
        case atStart => exact ⟨0, 0, Nat.zero_le _, rfl, rfl, OwnZ.nil _ _, Below.refl _ _⟩
        case round =>
          obtain ⟨k, xi, hk, hxi, rfl, hro, hbw⟩ := hrel
          have HRO := hide hro
          have HBW := hide hbw
          have HXI := hide hxi
          have hx0 : 0 ≤ xi := by omega
          have hx1 : xi ≤ 12 := by omega
          obtain ⟨oa, ok, hoe⟩ := hro.shape
          rw [List.length_replicate] at hoe
          subst hoe
          clear hro hbw hxi
          by_cases hlt : xi < M
          · go_wp2_with (at_builtin; refine wpList_append_own _ rfl _ _ 23 rfl U6.heap.size 3 e0 (.int .i64 0) 1 8 Tryd.underlying23 HEI.out.1 HEI.out.2.1 HEI.out.2.2.1 HEI.out.2.2.2 rfl (by decide) (.slice oa k ok) _ _ rfl (HRO.out.alloc _) ⟨_, 0, none⟩ 1 1 [.int .i64 1] rfl rfl (one_cells _ _) (one_one _) ?c3 ?c4 ?c5 ?_)
            case c3 => rw [List.length_replicate]; unfold maxLen; omega
            case c4 => rw [List.length_replicate]; omega
            case c5 => rw [World.size_alloc]; have h1 := HBW.out.size; omega
            intro v' w4 hown' hg _
            have HO2 := hide (show OwnZ w4 U6.heap.size v' (List.replicate (k + 1) 1) by rw [rep_suc]; refine OwnZ.step ?_; rw [List.length_replicate, List.map_replicate]; exact hown')
            have HB4 := hide (show Below U6.heap.size U6 w4 from (below_go HBW.out (below_one _ _)).grown hg (by rw [World.size_alloc]; have h1 := HBW.out.size; omega) (fun q hq => (World.ownsRow.lt HRO.out q hq).1))
            clear hown' hg
            go_wp2
            go_roundw
            case rel => exact ⟨k + 1, _, by have := HXI.out; have := HMN.out; omega, by have := HXI.out; omega, rfl, HO2.out, HB4.out⟩
            case measure => have := HXI.out; have := HMN.out; simp [intOf]; omega
          · obtain rfl : k = mn := by have := HXI.out; have := HMN.out; omega
            have HIO := hide HRO.out.isInts
            replace C0 := hide (below_go C0.out HBW.out)
            have HBV := hide (below_go HBU.out HBW.out)
            obtain ⟨U7, hU7⟩ : ∃ x, x = wr := ⟨_, rfl⟩
            subst hU7
            clear hx0 hx1
            go_wp2
            go_loopw [16, 17, 18, 19, 20] (fun sv _ _ _ _ wr => ∃ (s : Nat) (xs : Int), s ≤ n ∧ xs = (s : Int) ∧ sv = .int .i64 xs ∧ Below U7.heap.size U7 wr) (fun sv _ _ _ _ _ => n - (intOf sv).toNat)
            case atStart => exact ⟨0, 0, Nat.zero_le _, rfl, rfl, Below.refl _ _⟩
            case round =>
              obtain ⟨s, xs, hs, hxs, rfl, hbs⟩ := hrel
              have HXS := hide hxs
              have HBS := hide hbs
              have hs0 : 0 ≤ xs := by omega
              have hs6 : xs ≤ 6 := by omega
              clear hxs hbs
              by_cases hlt2 : xs < (n : Int)
              · obtain ⟨row, hrow⟩ := stage_at (p := p) (i := s) (by have := HN.out; have := HXS.out; omega)
                obtain ⟨rv, hsv, hia⟩ := HCL.out s row hrow
                have HOKR := hide (HST2.out s row hrow)
                have HIA := hide hia
                obtain ⟨ra, rc, hre, _, _, _⟩ := hia
                have HCE := hide (fun (W : World) (hb : Below w.heap.size w W) => cell_bel hb hsv)
                obtain ⟨ln, hln⟩ : ∃ x, row.length = x := ⟨_, rfl⟩
                have hl24 : ln ≤ 24 := by rw [← hln]; exact HOKR.out.2.2.2.2
                rw [hln] at hre
                subst hre
                rw [show s = xs.toNat by have := HXS.out; omega] at HCE
                have HLN := hide hln
                have hA1 := pkN_at (zs := List.replicate k 1) hrow
                rw [HN.out, hln] at hA1
                obtain ⟨b3, o3, ha3, hc3⟩ := HY4.out.resolve_left (fun e => by rw [e] at hA1; simp at hA1)
                have HD3 := hide (hc3 s _ hA1)
                rw [show s = xs.toNat by have := HXS.out; omega] at HD3
                subst ha3
                have hA2 := pkN_at (zs := zs) hrow
                rw [HN.out, hln] at hA2
                obtain ⟨b5, o5, ha5, hc5⟩ := HT4.out.resolve_left (fun e => by rw [e] at hA2; simp at hA2)
                have HD5 := hide (hc5 s _ hA2)
                rw [show s = xs.toNat by have := HXS.out; omega] at HD5
                subst ha5
                clear hc5 hA2
                have hce := HCE.out wr (below_go C0.out HBS.out)
                have HW1 := hide HBS.out
                obtain ⟨U8, hU8⟩ : ∃ x, x = wr := ⟨_, rfl⟩
                subst hU8
                clear hsv hc3 hA1 hln hrow
                go_wp2
                go_loopw [17, 18, 19, 20] (fun xv yv iv _ wr => ∃ (j : Nat) (xj x y : Int), j ≤ ln ∧ xj = (j : Int) ∧ iv = .int .i64 xj ∧ xv = .int .i64 x ∧ yv = .int .i64 y ∧ x = pkX (List.replicate k 1) row j ∧ y = pkX zs row j ∧ Below U7.heap.size U7 wr) (fun _ _ iv _ _ => ln - (intOf iv).toNat)
                case atStart => exact ⟨0, 0, 0, 0, Nat.zero_le _, rfl, rfl, rfl, rfl, rfl, rfl, HW1.out⟩
                case round =>
                  obtain ⟨j, xj, x, y, hj, hxj, rfl, rfl, rfl, hx, hy, hbw2⟩ := hrel
                  have HXJ := hide hxj
                  have HXX := hide hx
                  have HYY := hide hy
                  have HB2 := hide hbw2
                  have hj0 : 0 ≤ xj := by omega
                  have hj1 : xj ≤ 24 := by omega
                  have HBC := hide (below_go C0.out HB2.out)
                  have hce2 := HCE.out wr HBC.out
                  clear hxj hx hy hbw2 hce
                  by_cases hlt3 : xj < (ln : Int)
                  · have hjl : j < row.length := by have := HXJ.out; have := HLN.out; omega
                    have HK1 := hide (fun (W : World) (hb : Below w.heap.size w W) (hb7 : Below U7.heap.size U7 W) => kept_any (.slice ra ln rc) (.slice oa k ok) row (List.replicate k 1) k j xj W (HIA.out.below hb) (HIO.out.below hb7) HXJ.out hjl HOKR.out.2.2.2.2 HOKR.out.1 List.length_replicate (fun x hx => by rw [(List.mem_replicate.1 hx).2]; omega))
                    rw [kp_run HOKR.out.1 HOKR.out.2.1 (Int.not_lt.2 HOKR.out.2.2.1) HOKR.out.2.2.2.1 (List.replicate k 1) (j + 1) hjl] at HK1
                    obtain ⟨N1, hN1⟩ : ∃ x, runX (List.replicate k 1) (row.take (j + 1)) = x := ⟨_, rfl⟩
                    have HP1 := hide (show pkX (List.replicate k 1) row (j + 1) = if x < N1 then N1 else x by rw [pkX_next, hN1, ← HXX.out])
                    rw [hN1] at HK1
                    have HK2 := hide (fun (W : World) (hb : Below w.heap.size w W) => kept_any (.slice ra ln rc) (.slice a1 n1 cap1) row zs k j xj W (HIA.out.below hb) (HS.out.below hb) HXJ.out hjl HOKR.out.2.2.2.2 HOKR.out.1 (by have h1 := HSZ.out.1; have h2 := HMN.out; omega) HSZ.out.2)
                    rw [kp_run HOKR.out.1 HOKR.out.2.1 (Int.not_lt.2 HOKR.out.2.2.1) HOKR.out.2.2.2.1 zs (j + 1) hjl] at HK2
                    obtain ⟨N2, hN2⟩ : ∃ x, runX zs (row.take (j + 1)) = x := ⟨_, rfl⟩
                    have HP2 := hide (show pkX zs row (j + 1) = if y < N2 then N2 else y by rw [pkX_next, hN2, ← HYY.out])
                    rw [hN2] at HK2
                    clear hN2
                    clear hN1 hjl
                    by_cases q1 : x < N1
                    · by_cases q2 : y < N2
                      · have HV1 := hide (show N1 = pkX (List.replicate k 1) row (j + 1) by rw [HP1.out, if_pos q1])
                        have HV2 := hide (show N2 = pkX zs row (j + 1) by rw [HP2.out, if_pos q2])
                        go_wp2_with fail
                        refine (HK1.out wr HBC.out HB2.out).mono ?_
                        rintro e W1 ⟨rfl, hb1⟩
                        have HC1 := hide (below_go HBC.out hb1)
                        have HC7 := hide (below_go HB2.out hb1)
                        have hce3 := HCE.out W1 HC1.out
                        clear hb1 hce2
                        go_wp2_with fail
                        refine (HK2.out W1 HC1.out).mono ?_
                        rintro e W2 ⟨rfl, hb2⟩
                        have HC8 := hide (below_go HC7.out hb2)
                        clear hb2 hce3
                        go_wp2
                        go_roundw
                        case rel => exact ⟨j + 1, _, _, _, by have := HXJ.out; omega, by have := HXJ.out; omega, rfl, rfl, rfl, HV1.out, HV2.out, HC8.out⟩
                        case measure => have := HXJ.out; simp [intOf]; omega
                      · have HV1 := hide (show N1 = pkX (List.replicate k 1) row (j + 1) by rw [HP1.out, if_pos q1])
                        have HV2 := hide (show y = pkX zs row (j + 1) by rw [HP2.out, if_neg q2])
                        go_wp2_with fail
                        refine (HK1.out wr HBC.out HB2.out).mono ?_
                        rintro e W1 ⟨rfl, hb1⟩
                        have HC1 := hide (below_go HBC.out hb1)
                        have HC7 := hide (below_go HB2.out hb1)
                        have hce3 := HCE.out W1 HC1.out
                        clear hb1 hce2
                        go_wp2_with fail
                        refine (HK2.out W1 HC1.out).mono ?_
                        rintro e W2 ⟨rfl, hb2⟩
                        have HC8 := hide (below_go HC7.out hb2)
                        clear hb2 hce3
                        go_wp2
                        go_roundw
                        case rel => exact ⟨j + 1, _, _, _, by have := HXJ.out; omega, by have := HXJ.out; omega, rfl, rfl, rfl, HV1.out, HV2.out, HC8.out⟩
                        case measure => have := HXJ.out; simp [intOf]; omega
                    · by_cases q2 : y < N2
                      · have HV1 := hide (show x = pkX (List.replicate k 1) row (j + 1) by rw [HP1.out, if_neg q1])
                        have HV2 := hide (show N2 = pkX zs row (j + 1) by rw [HP2.out, if_pos q2])
                        go_wp2_with fail
                        refine (HK1.out wr HBC.out HB2.out).mono ?_
                        rintro e W1 ⟨rfl, hb1⟩
                        have HC1 := hide (below_go HBC.out hb1)
                        have HC7 := hide (below_go HB2.out hb1)
                        have hce3 := HCE.out W1 HC1.out
                        clear hb1 hce2
                        go_wp2_with fail
                        refine (HK2.out W1 HC1.out).mono ?_
                        rintro e W2 ⟨rfl, hb2⟩
                        have HC8 := hide (below_go HC7.out hb2)
                        clear hb2 hce3
                        go_wp2
                        go_roundw
                        case rel => exact ⟨j + 1, _, _, _, by have := HXJ.out; omega, by have := HXJ.out; omega, rfl, rfl, rfl, HV1.out, HV2.out, HC8.out⟩
                        case measure => have := HXJ.out; simp [intOf]; omega
                      · have HV1 := hide (show x = pkX (List.replicate k 1) row (j + 1) by rw [HP1.out, if_neg q1])
                        have HV2 := hide (show y = pkX zs row (j + 1) by rw [HP2.out, if_neg q2])
                        go_wp2_with fail
                        refine (HK1.out wr HBC.out HB2.out).mono ?_
                        rintro e W1 ⟨rfl, hb1⟩
                        have HC1 := hide (below_go HBC.out hb1)
                        have HC7 := hide (below_go HB2.out hb1)
                        have hce3 := HCE.out W1 HC1.out
                        clear hb1 hce2
                        go_wp2_with fail
                        refine (HK2.out W1 HC1.out).mono ?_
                        rintro e W2 ⟨rfl, hb2⟩
                        have HC8 := hide (below_go HC7.out hb2)
                        clear hb2 hce3
                        go_wp2
                        go_roundw
                        case rel => exact ⟨j + 1, _, _, _, by have := HXJ.out; omega, by have := HXJ.out; omega, rfl, rfl, rfl, HV1.out, HV2.out, HC8.out⟩
                        case measure => have := HXJ.out; simp [intOf]; omega
                  · have hjn : j = ln := by have := HXJ.out; omega
                    have d3 := cell_bel (below_go HBV.out HB2.out) HD3.out
                    rw [← hjn, ← HXX.out] at d3
                    have d5 := cell_bel (below_go HBV.out HB2.out) HD5.out
                    rw [← hjn, ← HYY.out] at d5
                    clear hjn
                    go_wp2
                    go_roundw
                    case rel => exact ⟨s + 1, _, by have := HXS.out; omega, by have := HXS.out; omega, rfl, HB2.out⟩
                    case measure => have := HXS.out; simp [intOf]; omega
              · go_wp2
                go_ret
                exact ⟨rfl, below_go C0.out HBS.out⟩
      · have hX0 : X2 = [] := by rw [← HX2.out]; unfold pkL; rw [if_neg c]
        subst hX0
        obtain ⟨ta, tk, hte, t2, t3, t4⟩ := HI2.out
        subst hte
        have nG : (G == 0) = false := by simpa using c
        have nG2 : (G != 0) = true := by simpa using c
        clear t4 c
        go_wp2_with fail
        refine HX.out.mono ?_
        rintro e U6 ⟨rfl, hb⟩
        replace C0 := hide (below_go C0.out hb)
        have HBU := hide hb
        clear hb HX HI1 HI2
        go_wp2
        go_loopw [14, 15] (fun ov iv wr => ∃ (k : Nat) (xi : Int), k ≤ mn ∧ xi = (k : Int) ∧ iv = .int .i64 xi ∧ OwnZ wr U6.heap.size ov (List.replicate k 1) ∧ Below U6.heap.size U6 wr) (fun _ iv _ => mn - (intOf iv).toNat)
        case atStart => exact ⟨0, 0, Nat.zero_le _, rfl, rfl, OwnZ.nil _ _, Below.refl _ _⟩
        case round =>
          obtain ⟨k, xi, hk, hxi, rfl, hro, hbw⟩ := hrel
          have HRO := hide hro
          have HBW := hide hbw
          have HXI := hide hxi
          have hx0 : 0 ≤ xi := by omega
          have hx1 : xi ≤ 12 := by omega
          obtain ⟨oa, ok, hoe⟩ := hro.shape
          rw [List.length_replicate] at hoe
          subst hoe
          clear hro hbw hxi
          by_cases hlt : xi < M
          · go_wp2_with (at_builtin; refine wpList_append_own _ rfl _ _ 23 rfl U6.heap.size 3 e0 (.int .i64 0) 1 8 Tryd.underlying23 HEI.out.1 HEI.out.2.1 HEI.out.2.2.1 HEI.out.2.2.2 rfl (by decide) (.slice oa k ok) _ _ rfl (HRO.out.alloc _) ⟨_, 0, none⟩ 1 1 [.int .i64 1] rfl rfl (one_cells _ _) (one_one _) ?c3 ?c4 ?c5 ?_)
            case c3 => rw [List.length_replicate]; unfold maxLen; omega
            case c4 => rw [List.length_replicate]; omega
            case c5 => rw [World.size_alloc]; have h1 := HBW.out.size; omega
            intro v' w4 hown' hg _
            have HO2 := hide (show OwnZ w4 U6.heap.size v' (List.replicate (k + 1) 1) by rw [rep_suc]; refine OwnZ.step ?_; rw [List.length_replicate, List.map_replicate]; exact hown')
            have HB4 := hide (show Below U6.heap.size U6 w4 from (below_go HBW.out (below_one _ _)).grown hg (by rw [World.size_alloc]; have h1 := HBW.out.size; omega) (fun q hq => (World.ownsRow.lt HRO.out q hq).1))
            clear hown' hg
            go_wp2
            go_roundw
            case rel => exact ⟨k + 1, _, by have := HXI.out; have := HMN.out; omega, by have := HXI.out; omega, rfl, HO2.out, HB4.out⟩
            case measure => have := HXI.out; have := HMN.out; simp [intOf]; omega
          · obtain rfl : k = mn := by have := HXI.out; have := HMN.out; omega
            have HIO := hide HRO.out.isInts
            replace C0 := hide (below_go C0.out HBW.out)
            have HBV := hide (below_go HBU.out HBW.out)
            obtain ⟨U7, hU7⟩ : ∃ x, x = wr := ⟨_, rfl⟩
            subst hU7
            clear hx0 hx1
            go_wp2
            go_loopw [16, 17, 18, 19, 20] (fun sv _ _ _ _ wr => ∃ (s : Nat) (xs : Int), s ≤ n ∧ xs = (s : Int) ∧ sv = .int .i64 xs ∧ Below U7.heap.size U7 wr) (fun sv _ _ _ _ _ => n - (intOf sv).toNat)
            case atStart => exact ⟨0, 0, Nat.zero_le _, rfl, rfl, Below.refl _ _⟩
            case round =>
              obtain ⟨s, xs, hs, hxs, rfl, hbs⟩ := hrel
              have HXS := hide hxs
              have HBS := hide hbs
              have hs0 : 0 ≤ xs := by omega
              have hs6 : xs ≤ 6 := by omega
              clear hxs hbs
              by_cases hlt2 : xs < (n : Int)
              · obtain ⟨row, hrow⟩ := stage_at (p := p) (i := s) (by have := HN.out; have := HXS.out; omega)
                obtain ⟨rv, hsv, hia⟩ := HCL.out s row hrow
                have HOKR := hide (HST2.out s row hrow)
                have HIA := hide hia
                obtain ⟨ra, rc, hre, _, _, _⟩ := hia
                have HCE := hide (fun (W : World) (hb : Below w.heap.size w W) => cell_bel hb hsv)
                obtain ⟨ln, hln⟩ : ∃ x, row.length = x := ⟨_, rfl⟩
                have hl24 : ln ≤ 24 := by rw [← hln]; exact HOKR.out.2.2.2.2
                rw [hln] at hre
                subst hre
                rw [show s = xs.toNat by have := HXS.out; omega] at HCE
                have HLN := hide hln
                have hA1 := pkN_at (zs := List.replicate k 1) hrow
                rw [HN.out, hln] at hA1
                obtain ⟨b3, o3, ha3, hc3⟩ := HY4.out.resolve_left (fun e => by rw [e] at hA1; simp at hA1)
                have HD3 := hide (hc3 s _ hA1)
                rw [show s = xs.toNat by have := HXS.out; omega] at HD3
                subst ha3
                have hce := HCE.out wr (below_go C0.out HBS.out)
                have HW1 := hide HBS.out
                obtain ⟨U8, hU8⟩ : ∃ x, x = wr := ⟨_, rfl⟩
                subst hU8
                clear hsv hc3 hA1 hln hrow
                go_wp2
                go_loopw [17, 18, 19, 20] (fun xv yv iv _ wr => ∃ (j : Nat) (xj x y : Int), j ≤ ln ∧ xj = (j : Int) ∧ iv = .int .i64 xj ∧ xv = .int .i64 x ∧ yv = .int .i64 y ∧ x = pkX (List.replicate k 1) row j ∧ y = 0 ∧ Below U7.heap.size U7 wr) (fun _ _ iv _ _ => ln - (intOf iv).toNat)
                case atStart => exact ⟨0, 0, 0, 0, Nat.zero_le _, rfl, rfl, rfl, rfl, rfl, rfl, HW1.out⟩
                case round =>
                  obtain ⟨j, xj, x, y, hj, hxj, rfl, rfl, rfl, hx, hy, hbw2⟩ := hrel
                  have HXJ := hide hxj
                  have HXX := hide hx
                  have HYY := hide hy
                  have HB2 := hide hbw2
                  have hj0 : 0 ≤ xj := by omega
                  have hj1 : xj ≤ 24 := by omega
                  have HBC := hide (below_go C0.out HB2.out)
                  have hce2 := HCE.out wr HBC.out
                  clear hxj hx hy hbw2 hce
                  by_cases hlt3 : xj < (ln : Int)
                  · have hjl : j < row.length := by have := HXJ.out; have := HLN.out; omega
                    have HK1 := hide (fun (W : World) (hb : Below w.heap.size w W) (hb7 : Below U7.heap.size U7 W) => kept_any (.slice ra ln rc) (.slice oa k ok) row (List.replicate k 1) k j xj W (HIA.out.below hb) (HIO.out.below hb7) HXJ.out hjl HOKR.out.2.2.2.2 HOKR.out.1 List.length_replicate (fun x hx => by rw [(List.mem_replicate.1 hx).2]; omega))
                    rw [kp_run HOKR.out.1 HOKR.out.2.1 (Int.not_lt.2 HOKR.out.2.2.1) HOKR.out.2.2.2.1 (List.replicate k 1) (j + 1) hjl] at HK1
                    obtain ⟨N1, hN1⟩ : ∃ x, runX (List.replicate k 1) (row.take (j + 1)) = x := ⟨_, rfl⟩
                    have HP1 := hide (show pkX (List.replicate k 1) row (j + 1) = if x < N1 then N1 else x by rw [pkX_next, hN1, ← HXX.out])
                    rw [hN1] at HK1
                    clear hN1 hjl
                    by_cases q1 : x < N1
                    · have HV1 := hide (show N1 = pkX (List.replicate k 1) row (j + 1) by rw [HP1.out, if_pos q1])
                      go_wp2_with fail
                      refine (HK1.out wr HBC.out HB2.out).mono ?_
                      rintro e W1 ⟨rfl, hb1⟩
                      have HC1 := hide (below_go HBC.out hb1)
                      have HC7 := hide (below_go HB2.out hb1)
                      have hce3 := HCE.out W1 HC1.out
                      clear hb1 hce2
                      go_wp2
                      go_roundw
                      case rel => exact ⟨j + 1, _, _, _, by have := HXJ.out; omega, by have := HXJ.out; omega, rfl, rfl, rfl, HV1.out, HYY.out, HC7.out⟩
                      case measure => have := HXJ.out; simp [intOf]; omega
                    · have HV1 := hide (show x = pkX (List.replicate k 1) row (j + 1) by rw [HP1.out, if_neg q1])
                      go_wp2_with fail
                      refine (HK1.out wr HBC.out HB2.out).mono ?_
                      rintro e W1 ⟨rfl, hb1⟩
                      have HC1 := hide (below_go HBC.out hb1)
                      have HC7 := hide (below_go HB2.out hb1)
                      have hce3 := HCE.out W1 HC1.out
                      clear hb1 hce2
                      go_wp2
                      go_roundw
                      case rel => exact ⟨j + 1, _, _, _, by have := HXJ.out; omega, by have := HXJ.out; omega, rfl, rfl, rfl, HV1.out, HYY.out, HC7.out⟩
                      case measure => have := HXJ.out; simp [intOf]; omega
                  · have hjn : j = ln := by have := HXJ.out; omega
                    have d3 := cell_bel (below_go HBV.out HB2.out) HD3.out
                    rw [← hjn, ← HXX.out] at d3
                    clear hjn
                    go_wp2
                    go_roundw
                    case rel => exact ⟨s + 1, _, by have := HXS.out; omega, by have := HXS.out; omega, rfl, HB2.out⟩
                    case measure => have := HXS.out; simp [intOf]; omega
              · go_wp2
                go_ret
                exact ⟨rfl, below_go C0.out HBS.out⟩
end Go.Proofs.YtgdggaieekakhagDoor
