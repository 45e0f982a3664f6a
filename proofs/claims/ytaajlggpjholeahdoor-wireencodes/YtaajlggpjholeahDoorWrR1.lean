/- What Octets, SumsOf, Seven and SevenAt of the document's answer come to. -/
import Derived.Test.YtaajlggpjholeahDoorWrM
import Derived.BigQuiet
import Derived.Deep.RegionHeld3
namespace Go.Proofs.YtaajlggpjholeahDoor
open Go.RowKit
def sameB (a b : List Int) : Bool := decide (a = b)
set_option maxHeartbeats 8000000 in
set_option maxRecDepth 100000 in
theorem rsums_any (v : Value) (l : List Int) (w : World) (hv : IsBys w v l) (hl : l.length ≤ 100000) : Calls Tryd.prog 28 #[v] w fun e w' => ∃ s, e = .returned s ∧ OwnY w' w.heap.size s (sumsG 0 0 l) ∧ Below w.heap.size w w' := by
  obtain ⟨a, cap, rfl, h2, h3, h5, h4⟩ := hv
  obtain ⟨n, hn⟩ : ∃ n, l.length = n := ⟨_, rfl⟩
  have H4 := hide h4
  have H5 := hide h5
  have HN := hide hn
  rw [hn] at h2 hl ⊢
  clear h4 h5 hn
  go_enter Tryd.func28, Tryd.ntmps28
  go_wp2
  go_loopw [3, 4, 5] (fun xv yv iv wr => ∃ (k : Nat) (xi x y : Int), k ≤ n ∧ xi = (k : Int) ∧ iv = .int .i64 xi ∧ xv = .int .i64 x ∧ yv = .int .i64 y ∧ w = wr ∧ 0 ≤ x ∧ x ≤ 256 * xi ∧ 0 ≤ y ∧ y ≤ 256 * xi ∧ sumsG 0 0 l = sumsG x y (l.drop k)) (fun _ _ iv _ => n - (intOf iv).toNat)
  case atStart => exact ⟨0, 0, 0, 0, Nat.zero_le _, rfl, rfl, rfl, rfl, rfl, by omega, by omega, by omega, by omega, by rw [List.drop_zero]⟩
  case round =>
    obtain ⟨k, xi, x, y, hk, hxi, rfl, rfl, rfl, hw, hx0, hx1, hy0, hy1, hs⟩ := hrel
    subst hw
    have HXI := hide hxi
    have HS := hide hs
    have hi0 : 0 ≤ xi := by omega
    have hi1 : xi ≤ 100000 := by omega
    clear hxi hs
    by_cases hlt : xi < (n : Int)
    · have hkl : k < l.length := by have := HN.out; have := HXI.out; omega
      obtain ⟨d, hd⟩ : ∃ d, l[k]? = some d := ⟨_, List.getElem?_eq_getElem hkl⟩
      obtain ⟨d0, d1⟩ := H5.out d (List.mem_of_getElem? hd)
      obtain ⟨b1, o1, ha1, hc1⟩ := H4.out.resolve_left (fun e => by rw [e] at hd; simp at hd)
      subst ha1
      have c1 := hc1 k d hd
      rw [show k = xi.toNat by have := HXI.out; omega] at c1
      have HD := hide (show l.drop k = d :: l.drop (k + 1) by
        obtain ⟨hi, e⟩ := List.getElem?_eq_some_iff.1 hd
        rw [List.drop_eq_getElem_cons hi, e])
      have HR := hide (show sumsG 0 0 l = sumsG (x + d) (y + (x + d) % 255) (l.drop (k + 1)) by rw [HS.out, HD.out, sumsG])
      clear hc1 hd hkl
      go_wp2
      go_roundw
      case rel => exact ⟨k + 1, _, _, _, by have := HXI.out; omega, by have := HXI.out; omega, rfl, rfl, rfl, by first | rfl | trivial, by omega, by omega, by omega, by omega, HR.out⟩
      case measure => have := HXI.out; simp [intOf]; omega
    · have HE := hide (show sumsG 0 0 l = [x % 255, y % 255] by
        rw [HS.out, List.drop_of_length_le (by have := HN.out; have := HXI.out; omega)]
        rfl)
      have HO := hide (OwnY.lit w [x % 255, y % 255] (by simp) (fun z hz => by simp at hz; omega))
      go_wp2
      exact bodyPost_ret (v := .slice (some ⟨w.heap.size, 0, none⟩) 2 2) (by simp [results, Tryd.results28, go_sem]) rfl ⟨_, rfl, by rw [HE.out]; exact HO.out, below_one _ _⟩
theorem OwnY.nilOk {w : World} {base : Nat} {v : Value} {l : List Int} (h : OwnY w base v l) : NilOk v := by
  obtain ⟨⟨_, h2⟩, _⟩ := h
  rcases h2 with ⟨rfl, _⟩ | ⟨g, cap, cur, rfl, _⟩
  · intro n k e
    injection e with e1 e2 e3
    exact ⟨e2.symm, e3.symm⟩
  · intro n k e
    injection e with e1
    cases e1
set_option maxHeartbeats 8000000 in
set_option maxRecDepth 100000 in
theorem rseven_any : ∀ (k n : Nat) (x : Int) (w : World), x = (n : Int) → n < 128 ^ k → 0 < k → k ≤ 9 → Calls Tryd.prog 27 #[.int .i64 x] w fun e w' => ∃ s, e = .returned s ∧ OwnY w' w.heap.size s (sevF k n) ∧ Below w.heap.size w w'
  | 0, n, x, w, _, _, h, _ => absurd h (Nat.lt_irrefl 0)
  | k + 1, n, x, w, hx, hn, _, hk => by
    have hbig : n < 9223372036854775808 := Nat.lt_of_lt_of_le hn (Nat.le_trans (Nat.pow_le_pow_right (by omega) hk) (by decide))
    have hx0 : 0 ≤ x := by omega
    have hx1 : x ≤ 9223372036854775807 := by omega
    by_cases c : x < 128
    · have HE := hide (show sevF (k + 1) n = [x] by unfold sevF; rw [if_pos (by omega), hx])
      have HO := hide (OwnY.lit w [x] (by simp) (fun z hz => by simp at hz; omega))
      clear hx hn hbig
      go_enter Tryd.func27, Tryd.ntmps27
      go_wp2
      exact bodyPost_ret (v := .slice (some ⟨w.heap.size, 0, none⟩) 1 1) (by simp [results, Tryd.results27, go_sem]) rfl ⟨_, rfl, by rw [HE.out]; exact HO.out, below_one _ _⟩
    · have h1 := div_pow hn
      have hk0 : 0 < k := by
        rcases Nat.eq_zero_or_pos k with e | e
        · rw [e] at h1; simp at h1; omega
        · exact e
      have HC := hide (rseven_any k (n / 128) (x / 128) w (by omega) h1 hk0 (by omega))
      obtain ⟨Z, hZ⟩ : ∃ Z, sevF k (n / 128) = Z := ⟨_, rfl⟩
      have HZL := hide (show Z.length ≤ 9 by rw [← hZ]; have := sevF_len k (n / 128); omega)
      have HE := hide (show sevF (k + 1) n = [128 + x % 128] ++ Z by
        unfold sevF
        rw [if_neg (by omega), hZ, show ((128 + n % 128 : Nat) : Int) = 128 + x % 128 by omega]
        rfl)
      rw [hZ] at HC
      obtain ⟨d, hd⟩ : ∃ d, 128 + x % 128 = d := ⟨_, rfl⟩
      have hwd : IntKind.u8.wrap (128 + x % 128) = d := by rw [hd, IntKind.wrap_u8]; omega
      have hd0 : 0 ≤ d ∧ d < 256 := by omega
      rw [hd] at HE
      have HD0 := hide hd0
      clear hx hn hbig h1 hZ hd hd0
      go_enter Tryd.func27, Tryd.ntmps27
      go_wp2_with fail
      refine HC.out.mono ?_
      rintro e w1 ⟨s, rfl, ho, hb⟩
      have HB := hide hb
      have HO1 := hide ho
      have HL := hide (OwnY.lit w1 [d] (by simp) (fun z hz => by have := HD0.out; simp at hz; omega))
      obtain ⟨sa, sk, hse⟩ := ho.shape
      obtain ⟨zn, hzn⟩ : ∃ x, Z.length = x := ⟨_, rfl⟩
      rw [hzn] at hse
      subst hse
      have HZN := hide hzn
      clear hb ho HC hzn
      go_wp2_with (at_builtin; refine app_bys rfl _ _ rfl w1.heap.size (.slice (some ⟨w1.heap.size, 0, none⟩) 1 1) (.slice sa zn sk) [d] Z rfl HL.out rfl (HO1.out.isBys.below (below_one _ _)) HO1.out.nilOk ?h1 ?h2 ?_)
      case h1 => have := HZL.out; simp; omega
      case h2 => rw [World.size_alloc]; omega
      intro v' w2 hown hgr
      have HR := hide (show OwnY w2 w.heap.size v' (sevF (k + 1) n) ∧ Below w.heap.size w w2 from ⟨by rw [HE.out]; exact hown.base HB.out.size, bel_on HB.out (hgr w1 (below_one _ _) (Nat.le_refl _))⟩)
      clear hown hgr
      go_wp2
      exact bodyPost_ret (v := v') (by simp [results, Tryd.results27, go_sem]) rfl ⟨_, rfl, HR.out.1, HR.out.2⟩
theorem sameB_no {a b : List Int} (h : a ≠ b) : false = sameB a b := by unfold sameB; rw [eq_comm, decide_eq_false_iff_not]; exact h
theorem sameB_yes {a b : List Int} (h : a = b) : true = sameB a b := by unfold sameB; rw [eq_comm, decide_eq_true_iff]; exact h
set_option maxHeartbeats 8000000 in
set_option maxRecDepth 100000 in
theorem octets_any (v u : Value) (p q : List Int) (w : World) (hv : IsBys w v p) (hu : IsBys w u q) : Calls Tryd.prog 11 #[v, u] w fun e w' => e = .returned (.bool (sameB p q)) ∧ Below w.heap.size w w' := by
  have hlen := hv.len
  have hlen' := hu.len
  unfold maxLen at hlen hlen'
  obtain ⟨a, cap, rfl, h2, h3, h5, h4⟩ := hv
  obtain ⟨a', cap', rfl, h2', h3', h5', h4'⟩ := hu
  obtain ⟨n, hn⟩ : ∃ n, p.length = n := ⟨_, rfl⟩
  obtain ⟨n', hn'⟩ : ∃ n, q.length = n := ⟨_, rfl⟩
  have HN := hide (And.intro hn hn')
  have H4 := hide h4
  have H4' := hide h4'
  rw [hn] at h2 hlen ⊢
  rw [hn'] at h2' hlen' ⊢
  clear hn hn' h4 h4' h5 h5'
  by_cases c1 : n = n'
  rotate_left 1
  · have HA := hide (sameB_no (a := p) (b := q) (fun e => c1 (by rw [← HN.out.1, ← HN.out.2, e])))
    have nb : ((n : Int) != (n' : Int)) = true := by simp; omega
    clear c1
    go_enter Tryd.func11, Tryd.ntmps11
    go_wp2
    go_ret
    exact ⟨ret_bool HA.out, Below.refl _ _⟩
  · subst c1
    go_enter Tryd.func11, Tryd.ntmps11
    go_wp2
    go_loopw [5] (fun iv wr => ∃ (k nd : Nat) (xi : Int), k ≤ n ∧ xi = (k : Int) ∧ iv = .int .i64 xi ∧ wr = w.drewN nd ∧ ∀ j x y, j < k → p[j]? = some x → q[j]? = some y → x = y) (fun iv _ => n - (intOf iv).toNat)
    case atStart => exact ⟨0, 0, 0, Nat.zero_le _, rfl, rfl, rfl, fun j x y hj => by omega⟩
    case round =>
      obtain ⟨k, nd, xi, hk, hxi, rfl, hw, he⟩ := hrel
      subst hw
      have HE := hide he
      have HXI := hide hxi
      have hx0 : 0 ≤ xi := by omega
      have hx1 : xi ≤ 9223372036854775807 := by omega
      clear he hxi
      by_cases hlt : xi < (n : Int)
      · obtain ⟨x, hx⟩ : ∃ x, p[k]? = some x := ⟨_, List.getElem?_eq_getElem (by have := HN.out.1; have := HXI.out; omega)⟩
        obtain ⟨y, hy⟩ : ∃ x, q[k]? = some x := ⟨_, List.getElem?_eq_getElem (by have := HN.out.2; have := HXI.out; omega)⟩
        obtain ⟨b1, o1, ha1, hc1⟩ := H4.out.resolve_left (fun e => by rw [e] at hx; simp at hx)
        obtain ⟨b2, o2, ha2, hc2⟩ := H4'.out.resolve_left (fun e => by rw [e] at hy; simp at hy)
        subst ha1 ha2
        have d1 := hc1 k x hx
        have d2 := hc2 k y hy
        rw [show k = xi.toNat by have := HXI.out; omega] at d1 d2
        have HXY := hide (And.intro hx hy)
        clear hc1 hc2 hx hy
        by_cases e1 : x = y
        · have HU := hide (show ∀ j x y, j < k + 1 → p[j]? = some x → q[j]? = some y → x = y from fun j x' y' hj hx' hy' => by
            rcases Nat.lt_or_ge j k with h | h
            · exact HE.out j x' y' h hx' hy'
            · rw [show j = k by omega] at hx' hy'
              rw [HXY.out.1] at hx'
              rw [HXY.out.2] at hy'
              rw [← Option.some.inj hx', ← Option.some.inj hy', e1])
          subst e1
          go_wp2
          go_quiet (fail)
          go_wp2
          go_roundw
          case rel => exact ⟨k + 1, _, _, by have := HXI.out; omega, by have := HXI.out; omega, rfl, rfl, HU.out⟩
          case measure => have := HXI.out; simp [intOf]; omega
        · have HA := hide (sameB_no (a := p) (b := q) (fun e => e1 (by have h1 := HXY.out.1; have h2 := HXY.out.2; rw [e, h2] at h1; exact (Option.some.inj h1).symm)))
          have n1 : (x != y) = true := by simpa using e1
          clear e1
          go_wp2
          go_quiet (fail)
          go_wp2
          go_ret
          exact ⟨ret_bool HA.out, bel_on (below_drewN _ _) (below_drewN _ _)⟩
      · have HA := hide (sameB_yes (a := p) (b := q) (by
          apply List.ext_getElem?
          intro i
          rcases Nat.lt_or_ge i n with h | h
          · obtain ⟨x, h1⟩ : ∃ x, p[i]? = some x := ⟨_, List.getElem?_eq_getElem (by have := HN.out.1; omega)⟩
            obtain ⟨y, h2⟩ : ∃ x, q[i]? = some x := ⟨_, List.getElem?_eq_getElem (by have := HN.out.2; omega)⟩
            rw [h1, h2, HE.out i _ _ (by have := HXI.out; omega) h1 h2]
          · rw [List.getElem?_eq_none (by have := HN.out.1; omega), List.getElem?_eq_none (by have := HN.out.2; omega)]))
        go_wp2
        go_ret
        exact ⟨ret_bool HA.out, below_drewN _ _⟩
end Go.Proofs.YtaajlggpjholeahDoor
