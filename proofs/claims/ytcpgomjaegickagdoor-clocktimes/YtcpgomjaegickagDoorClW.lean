/- What waitsFor and check of package clock come to. -/
import Derived.Test.YtcpgomjaegickagDoorClK
import Derived.Test.YtcpgomjaegickagDoorPnC
import Derived.Deep.CutRange
namespace Go.Proofs.YtcpgomjaegickagDoor
open Go.RowKit
set_option maxHeartbeats 8000000 in
set_option maxRecDepth 100000 in
theorem waits_any (v : Value) (p : List (List (Int × Int))) (w : World) (hv : IsPlan w v p) (s i : Nat) (xs xi ak am : Int) (hxs : xs = (s : Int)) (hxi : xi = (i : Int)) (hs : s < p.length) (hn6 : p.length ≤ 6) (ha : (stA p s)[i]? = some (ak, am)) (hk : 1 ≤ ak ∧ ak ≤ 2) (hl24 : (stA p s).length ≤ 24) :
    Calls Tryd.prog 13 #[v, .int .i64 xs, .int .i64 xi] w fun e w' => ∃ u, e = .returned u ∧ IsKeys w' u (keysC p s i (ak, am)) ∧ Below w.heap.size w w' := by
  have hlen := hv.len
  unfold maxLen at hlen
  obtain ⟨a, cap, rfl, g2, g3, g4⟩ := hv
  obtain ⟨n, hn⟩ : ∃ n, p.length = n := ⟨_, rfl⟩
  obtain ⟨b, off, rfl, hcl⟩ := g4.resolve_left (fun e => by rw [e] at hs; simp at hs)
  have HP := hide (fun (W : World) (hb : Below w.heap.size w W) => plan_cell hcl W hb (s := s) hs)
  obtain ⟨la, lc, hce, hac⟩ := HP.out w (Below.refl _ _)
  obtain ⟨ln, hln⟩ : ∃ x, (stA p s).length = x := ⟨_, rfl⟩
  rw [hln] at hce hac hl24
  rw [show s = xs.toNat by omega] at hce
  obtain ⟨ra, rc, hre, r2, r3, r4⟩ := id hac
  have hra := (Value.slice.inj hre).1
  subst hra
  obtain ⟨b3, off3, ha3, hcl3⟩ := r4.resolve_left (fun e => by rw [e] at ha; simp at ha)
  subst ha3
  have hil : i < ln := by rw [← hln]; exact (List.getElem?_eq_some_iff.1 ha).1
  have HD := hide (show ∀ W, Below w.heap.size w W → W.cell? ⟨b3, off3 + xi.toNat * 2, none⟩ = some (.int .i64 ak) ∧ W.cell? ⟨b3, off3 + xi.toNat * 2 + 1, none⟩ = some (.int .i64 am) from fun W hb => by
    rw [show xi.toNat = i by omega]
    exact ⟨cell_bel hb (hcl3 i _ ha).1, cell_bel hb (hcl3 i _ ha).2⟩)
  obtain ⟨ks, hks⟩ : ∃ ks, ks = (if i = 0 then ([] : List (Int × Int × Int)) else [((s : Int), ((stA p s)[i - 1]?).getD (0, 0))]) := ⟨_, rfl⟩
  have HKS := hide (show keysC p s i (ak, am) = ks ++ (match depK (ak, am) s p.length with | none => [] | some k => [((k : Int), (ak, am))]) by rw [hks]; rfl)
  have HK0 := hide (show i = 0 → ks = [] from fun e => by rw [hks, if_pos e])
  have HKL := hide (show ks.length ≤ 1 by rw [hks]; split <;> simp)
  have HK1 := hide (show 0 < xi → ∃ pk pm, w.cell? ⟨b3, off3 + (xi.toNat - 1) * 2, none⟩ = some (.int .i64 pk) ∧ w.cell? ⟨b3, off3 + (xi.toNat - 1) * 2 + 1, none⟩ = some (.int .i64 pm) ∧ ks = [] ++ [(xs, pk, pm)] from fun h => by
    have hlt : i - 1 < (stA p s).length := by omega
    obtain ⟨c1, c2⟩ := hcl3 (i - 1) (stA p s)[i - 1] (List.getElem?_eq_getElem hlt)
    refine ⟨_, _, by rw [show xi.toNat - 1 = i - 1 by omega]; exact c1, by rw [show xi.toNat - 1 = i - 1 by omega]; exact c2, ?_⟩
    rw [hks, if_neg (by omega), List.getElem?_eq_getElem hlt, hxs]
    rfl)
  have HX := hide (And.intro hxs hxi)
  have HN := hide (And.intro hs hn)
  have hx0 : 0 ≤ xi := by omega
  have hx1 : xi < (ln : Int) := by omega
  have hs0 : 0 ≤ xs := by omega
  have hs1 : xs < (n : Int) := by omega
  have hni : (n : Int) ≤ 6 := by omega
  rw [hn] at g2 hlen ⊢
  clear g4 hcl hac hre r4 hcl3 hks ha hxs hxi hs hn hn6 hln hil
  go_enter Tryd.func13, Tryd.ntmps13
  go_upto_if 14 with fail
  go_cut [7] from 9 to 68 (fun kv wx => OwnK wx w.heap.size kv ks ∧ Below w.heap.size w wx)
  case first =>
    by_cases h0 : 0 < xi
    · obtain ⟨pk, pm, c1, c2, hks⟩ := HK1.out h0
      have HKE := hide hks
      have HK := hide (ckey_any xs pk pm w)
      clear hks
      go_wp2_with (first | (go_at_call 15; refine HK.out.mono ?_; rintro e w1 ⟨rfl, hb1⟩; have HB1 := hide hb1; clear hb1) | (at_builtin; refine app_key (w := w1) rfl _ _ rfl w.heap.size _ [] xs pk pm rfl (OwnK.nil _ _) rfl ?h1 ?h2 ?_))
      case h1 => simp
      case h2 => exact HB1.out.size
      intro v' w2 hown hgr
      have HR := hide (show OwnK w2 w.heap.size v' ks ∧ Below w.heap.size w w2 from ⟨by rw [HKE.out]; exact hown, hgr w HB1.out (Nat.le_refl _)⟩)
      clear hown hgr
      go_wp2
      go_meet
      exact HR.out
    · have HR := hide (show OwnK w w.heap.size (.slice none 0 0) ks ∧ Below w.heap.size w w from ⟨by rw [HK0.out (by have := HX.out; omega)]; exact OwnK.nil _ _, Below.refl _ _⟩)
      go_wp2
      go_meet
      exact HR.out
  case rest =>
    obtain ⟨ho, hb⟩ := hcut
    have HO := hide ho
    have HB := hide hb
    obtain ⟨d1, d2⟩ := HD.out wc hb
    obtain ⟨oa, ok, hoe⟩ := ho.shape
    obtain ⟨kn, hkn⟩ : ∃ x, ks.length = x := ⟨_, rfl⟩
    rw [hkn] at hoe
    subst hoe
    have hk1 : kn ≤ 1 := by rw [← hkn]; exact HKL.out
    clear ho hb hkn hce
    have hak : ak = 1 ∨ ak = 2 := by omega
    have go : ∀ (k : Nat) (xk : Int), xk = (k : Int) → depK (ak, am) s p.length = some k → keysC p s i (ak, am) = ks ++ [(xk, ak, am)] := fun k xk e hd => by rw [HKS.out, hd, e]
    have no : depK (ak, am) s p.length = none → keysC p s i (ak, am) = ks := fun hd => by rw [HKS.out, hd]; simp
    rcases hak with rfl | rfl
    · by_cases c : 0 < xs
      · have HE := hide (go (s - 1) (xs - 1) (by have := HX.out; omega) (by unfold depK; rw [if_neg (show ¬ (1 : Int) = 2 by decide), if_neg (by have := HX.out; omega)]))
        have hq1 : IntKind.i64.wrap (xs - 1) = xs - 1 := wrap_in (by omega) (by omega)
        have HK := hide (ckey_any (xs - 1) 1 am wc)
        clear go no
        go_wp2_with (first | (go_at_call 15; refine HK.out.mono ?_; rintro e w1 ⟨rfl, hb1⟩; have HB1 := hide hb1; clear hb1) | (at_builtin; refine app_key (w := w1) rfl _ _ rfl w.heap.size (.slice oa kn ok) ks (xs - 1) 1 am rfl (HO.out.below HB1.out) rfl ?h1 ?h2 ?_))
        case h1 => have := HKL.out; omega
        case h2 => exact Nat.le_trans HB.out.size HB1.out.size
        intro v' w2 hown hgr
        have HR := hide (show OwnK w2 w.heap.size v' (keysC p s i (1, am)) ∧ Below w.heap.size w w2 from ⟨by rw [HE.out]; exact hown, hgr w (below_go HB.out HB1.out) (Nat.le_refl _)⟩)
        obtain ⟨e1, e2⟩ := HD.out w2 HR.out.2
        clear hown hgr
        go_wp2
        exact bodyPost_ret (v := v') (by simp [results, Tryd.results13, go_sem]) rfl ⟨_, rfl, HR.out.1.isKeys, HR.out.2⟩
      · have HE := hide (no (by unfold depK; rw [if_neg (show ¬ (1 : Int) = 2 by decide), if_pos (by have := HX.out; omega)]))
        have HR := hide (show OwnK wc w.heap.size (.slice oa kn ok) (keysC p s i (1, am)) ∧ Below w.heap.size w wc from ⟨by rw [HE.out]; exact HO.out, HB.out⟩)
        clear go no
        go_wp2
        exact bodyPost_ret (v := .slice oa kn ok) (by simp [results, Tryd.results13, go_sem]) rfl ⟨_, rfl, HR.out.1.isKeys, HR.out.2⟩
    · have hq0 : IntKind.i64.wrap ((n : Int) - 1) = (n : Int) - 1 := wrap_in (by omega) (by omega)
      by_cases c : xs < (n : Int) - 1
      · have HE := hide (go (s + 1) (xs + 1) (by have := HX.out; omega) (by unfold depK; rw [if_pos rfl, if_pos (by have := HX.out; have := HN.out; omega)]))
        have hq1 : IntKind.i64.wrap (xs + 1) = xs + 1 := wrap_in (by omega) (by omega)
        have HK := hide (ckey_any (xs + 1) 2 am wc)
        clear go no
        go_wp2_with (first | (go_at_call 15; refine HK.out.mono ?_; rintro e w1 ⟨rfl, hb1⟩; have HB1 := hide hb1; clear hb1) | (at_builtin; refine app_key (w := w1) rfl _ _ rfl w.heap.size (.slice oa kn ok) ks (xs + 1) 2 am rfl (HO.out.below HB1.out) rfl ?h1 ?h2 ?_))
        case h1 => have := HKL.out; omega
        case h2 => exact Nat.le_trans HB.out.size HB1.out.size
        intro v' w2 hown hgr
        have HR := hide (show OwnK w2 w.heap.size v' (keysC p s i (2, am)) ∧ Below w.heap.size w w2 from ⟨by rw [HE.out]; exact hown, hgr w (below_go HB.out HB1.out) (Nat.le_refl _)⟩)
        clear hown hgr
        go_wp2
        exact bodyPost_ret (v := v') (by simp [results, Tryd.results13, go_sem]) rfl ⟨_, rfl, HR.out.1.isKeys, HR.out.2⟩
      · have HE := hide (no (by unfold depK; rw [if_pos rfl, if_neg (by have := HX.out; have := HN.out; omega)]))
        have HR := hide (show OwnK wc w.heap.size (.slice oa kn ok) (keysC p s i (2, am)) ∧ Below w.heap.size w wc from ⟨by rw [HE.out]; exact HO.out, HB.out⟩)
        clear go no
        go_wp2
        exact bodyPost_ret (v := .slice oa kn ok) (by simp [results, Tryd.results13, go_sem]) rfl ⟨_, rfl, HR.out.1.isKeys, HR.out.2⟩
theorem okC_iff {x : Int} : okC x = true ↔ 1 ≤ x ∧ x ≤ 1000000 := by simp [okC]
set_option maxHeartbeats 16000000 in
set_option maxRecDepth 100000 in
theorem ccheck_any (v v1 v2 : Value) (p : List (List (Int × Int))) (th bk : List Int) (m : Int) (w : World) (hv : IsPlan w v p) (hi1 : IsInts w v1 th) (hi2 : IsInts w v2 bk) : Calls Tryd.prog 11 #[v, .int .i64 m, v1, v2] w fun e w' => e = .returned (errV (timE p m th bk)) ∧ Below w.heap.size w w' := by
  have HF := hide (pcheck_any v p m w hv)
  have hlen := hv.len
  have hlen1 := hi1.len
  have hlen2 := hi2.len
  unfold maxLen at hlen hlen1 hlen2
  obtain ⟨a, cap, rfl, g2, g3, g4⟩ := hv
  obtain ⟨a1, cap1, rfl, k2, k3, k4⟩ := hi1
  obtain ⟨a2, cap2, rfl, j2, j3, j4⟩ := hi2
  obtain ⟨n, hn⟩ : ∃ n, p.length = n := ⟨_, rfl⟩
  obtain ⟨n1, hn1⟩ : ∃ n, th.length = n := ⟨_, rfl⟩
  obtain ⟨n2, hn2⟩ : ∃ n, bk.length = n := ⟨_, rfl⟩
  obtain ⟨E, hE⟩ : ∃ E, planE p m = E := ⟨_, rfl⟩
  have HE := hide hE
  have HN := hide (And.intro hn (And.intro hn1 hn2))
  have H1 := hide k4
  have H2 := hide j4
  rw [hn] at g2 hlen HF ⊢
  rw [hn1] at k2 hlen1 ⊢
  rw [hn2] at j2 hlen2 ⊢
  rw [hE] at HF
  clear g4 k4 j4 hn hn1 hn2 hE
  by_cases c1 : E = 0
  rotate_left 1
  · have HA := hide (show E = timE p m th bk by rw [← HE.out]; exact timE_plan (by rw [HE.out]; exact c1))
    have HC1 := hide c1
    rw [err_ne c1] at HF
    clear c1
    go_enter Tryd.func11, Tryd.ntmps11
    go_wp2_with (go_at_call 19; refine HF.out.mono ?_; rintro e w1 ⟨rfl, hb1⟩)
    go_ret
    exact ⟨ret_err (err_of HA.out HC1.out), hb1⟩
  subst c1
  rw [err_eq rfl] at HF
  by_cases c2 : n1 = n
  rotate_left 1
  · have HA := hide (show 2 = timE p m th bk from timE_len HE.out (fun e => c2 (by rw [← HN.out.2.1, ← HN.out.1]; exact e.1)))
    have nE : ((n1 : Int) != (n : Int)) = true := by simp; omega
    clear c2
    go_enter Tryd.func11, Tryd.ntmps11
    go_wp2_with (go_at_call 19; refine HF.out.mono ?_; rintro e w1 ⟨rfl, hb1⟩)
    go_ret
    exact ⟨ret_err (err_of HA.out (by decide)), hb1⟩
  by_cases c3 : n2 = n
  rotate_left 1
  · have HA := hide (show 2 = timE p m th bk from timE_len HE.out (fun e => c3 (by rw [← HN.out.2.2, ← HN.out.1]; exact e.2)))
    have nE : ((n2 : Int) != (n : Int)) = true := by simp; omega
    subst c2
    clear c3
    go_enter Tryd.func11, Tryd.ntmps11
    go_wp2_with (go_at_call 19; refine HF.out.mono ?_; rintro e w1 ⟨rfl, hb1⟩)
    go_ret
    exact ⟨ret_err (err_of HA.out (by decide)), hb1⟩
  subst c2 c3
  have HLE := hide (show th.length = p.length ∧ bk.length = p.length from ⟨by rw [HN.out.2.1, HN.out.1], by rw [HN.out.2.2, HN.out.1]⟩)
  go_enter Tryd.func11, Tryd.ntmps11
  go_wp2_with (go_at_call 19; refine HF.out.mono ?_; rintro e w1 ⟨rfl, hb1⟩)
  have HB1 := hide hb1
  clear hb1
  go_loopw [10, 32] (fun _ iv wr => ∃ (k : Nat) (xi : Int), k ≤ n2 ∧ xi = (k : Int) ∧ iv = .int .i64 xi ∧ wr = w1 ∧ ∀ j x, j < k → (th[j]? = some x ∨ bk[j]? = some x) → 1 ≤ x ∧ x ≤ 1000000) (fun _ iv _ => n2 - (intOf iv).toNat)
  case atStart => exact ⟨0, 0, Nat.zero_le _, rfl, rfl, rfl, fun j x hj _ => by omega⟩
  case round =>
    obtain ⟨k, xi, hk, hxi, rfl, hw, he⟩ := hrel
    subst hw
    have HE2 := hide he
    have HXI := hide hxi
    have hx0 : 0 ≤ xi := by omega
    have hx1 : xi ≤ 9223372036854775807 := by omega
    clear he hxi
    by_cases hlt : xi < (n2 : Int)
    · have hk1 : k < th.length := by have := HN.out.2.1; have := HXI.out; omega
      have hk2 : k < bk.length := by have := HN.out.2.2; have := HXI.out; omega
      obtain ⟨t1, ht1⟩ : ∃ x, th[k]? = some x := ⟨_, List.getElem?_eq_getElem hk1⟩
      obtain ⟨t2, ht2⟩ : ∃ x, bk[k]? = some x := ⟨_, List.getElem?_eq_getElem hk2⟩
      obtain ⟨b1, o1, ha1, hc1⟩ := H1.out.resolve_left (fun e => by rw [e] at ht1; simp at ht1)
      obtain ⟨b2, o2, ha2, hc2⟩ := H2.out.resolve_left (fun e => by rw [e] at ht2; simp at ht2)
      subst ha1 ha2
      have d1 := cell_bel HB1.out (hc1 k t1 ht1)
      have d2 := cell_bel HB1.out (hc2 k t2 ht2)
      rw [show k = xi.toNat by have := HXI.out; omega] at d1 d2
      have HT := hide (And.intro ht1 ht2)
      have HM1 := hide (maytake_any t1 wr)
      have HM2 := hide (maytake_any t2 wr)
      clear hk1 hk2 ht1 ht2 hc1 hc2
      cases q1 : okC t1 with
      | false =>
        have HA := hide (show 1 = timE p m th bk from timE_bad HE.out HLE.out (.inl (List.mem_of_getElem? HT.out.1)) (fun h => by rw [okC_iff.2 h] at q1; cases q1))
        rw [q1] at HM1
        clear q1
        go_wp2_with (go_at_call 20; refine HM1.out.mono ?_; rintro e w2 ⟨rfl, rfl⟩)
        go_ret
        exact ⟨ret_err (err_of HA.out (by decide)), HB1.out⟩
      | true =>
        have HQ1 := hide (okC_iff.1 q1)
        rw [q1] at HM1
        clear q1
        cases q2 : okC t2 with
        | false =>
          have HA := hide (show 1 = timE p m th bk from timE_bad HE.out HLE.out (.inr (List.mem_of_getElem? HT.out.2)) (fun h => by rw [okC_iff.2 h] at q2; cases q2))
          rw [q2] at HM2
          clear q2
          go_wp2_with (go_at_call 20; first | (refine HM1.out.mono ?_; rintro e w2 ⟨rfl, rfl⟩; clear HM1) | (refine HM2.out.mono ?_; rintro e w2 ⟨rfl, rfl⟩))
          go_ret
          exact ⟨ret_err (err_of HA.out (by decide)), HB1.out⟩
        | true =>
          have HQ2 := hide (okC_iff.1 q2)
          rw [q2] at HM2
          clear q2
          have HU := hide (show ∀ j x, j < k + 1 → (th[j]? = some x ∨ bk[j]? = some x) → 1 ≤ x ∧ x ≤ 1000000 by
            intro j x hj hx
            rcases Nat.lt_or_ge j k with h | h
            · exact HE2.out j x h hx
            · rw [show j = k by omega, HT.out.1, HT.out.2] at hx
              rcases hx with q | q
              · have := Option.some.inj q; have := HQ1.out; omega
              · have := Option.some.inj q; have := HQ2.out; omega)
          go_wp2_with (go_at_call 20; first | (refine HM1.out.mono ?_; rintro e w2 ⟨rfl, rfl⟩; clear HM1) | (refine HM2.out.mono ?_; rintro e w2 ⟨rfl, rfl⟩))
          go_roundw
          case rel => exact ⟨k + 1, _, by have := HXI.out; omega, by have := HXI.out; omega, rfl, by first | rfl | trivial, HU.out⟩
          case measure => have := HXI.out; simp [intOf]; omega
    · have key : ∀ (l : List Int), l.length = n2 → (∀ (j : Nat) x, l[j]? = some x → th[j]? = some x ∨ bk[j]? = some x) → ∀ x ∈ l, 1 ≤ x ∧ x ≤ 1000000 := fun l hl hs x hx => by
        obtain ⟨i, hi, rfl⟩ := List.getElem_of_mem hx
        exact HE2.out i _ (by have := HXI.out; omega) (hs i _ (List.getElem?_eq_getElem hi))
      have HA := hide (show 0 = timE p m th bk from timE_ok HE.out HLE.out (key th HN.out.2.1 (fun j x h => .inl h)) (key bk HN.out.2.2 (fun j x h => .inr h)))
      clear key
      go_wp2
      go_ret
      exact ⟨ret_err (err_no HA.out), HB1.out⟩
end Go.Proofs.YtcpgomjaegickagDoor
