/- What ActsFault and where of the document's answer come to. -/
import Derived.Test.YtgdggaieekakhagDoorPlB
import Derived.Test.YtgdggaieekakhagDoorRows
import Derived.Deep.RegionHeld3
namespace Go.Proofs.YtgdggaieekakhagDoor
open Go.RowKit
set_option maxHeartbeats 8000000 in
set_option maxRecDepth 100000 in
theorem where_any (v : Value) (l : List (Int × Int)) (kd mi : Int) (w : World) (hv : IsActs w v l) : Calls Tryd.prog 22 #[v, .int .i64 kd, .int .i64 mi] w fun e w' => e = .returned (.int .i64 (whr (kd, mi) l)) ∧ w' = w := by
  have hlen := hv.len
  unfold maxLen at hlen
  obtain ⟨a, cap, rfl, h2, h3, h4⟩ := hv
  obtain ⟨n, hn⟩ : ∃ n, l.length = n := ⟨_, rfl⟩
  rw [hn] at h2 hlen ⊢
  have HN := hide hn
  have H4 := hide h4
  clear hn h4
  go_enter Tryd.func22, Tryd.ntmps22
  go_wp2
  go_loop [7] (fun i => ∃ (k : Nat), k ≤ n ∧ i = .int .i64 k ∧ ∀ j x, j < k → l[j]? = some x → x ≠ (kd, mi)) (fun i => n - (intOf i).toNat)
  case atStart => exact ⟨0, Nat.zero_le _, rfl, fun j x hj _ => by omega⟩
  case round =>
    obtain ⟨k, hk, rfl, he⟩ := hrel
    have HE := hide he
    clear he
    by_cases hlt : k < n
    · obtain ⟨x, hx⟩ := act_at (l := l) (i := k) (by have := HN.out; omega)
      obtain ⟨b, off, rfl, hcl⟩ := H4.out.resolve_left (fun e => by rw [e] at hx; simp at hx)
      obtain ⟨c1, c2⟩ := hcl k x hx
      obtain ⟨xk, xm⟩ := x
      have HX := hide hx
      have hlt' : (k : Int) < (n : Int) := by omega
      dsimp only at c1 c2
      clear hcl hx
      by_cases e1 : xk = kd
      · have n1 : (xk == kd) = true := by simp [e1]
        by_cases e2 : xm = mi
        · have n2 : (xm == mi) = true := by simp [e2]
          have HW := hide (show (k : Int) = whr (kd, mi) l from (whr_at (by rw [← e1, ← e2]; exact HX.out) HE.out).symm)
          clear e1 e2
          go_wp2
          go_ret
          exact ⟨ret_int HW.out, rfl⟩
        · have n2 : (xm == mi) = false := by simpa using e2
          have HU := hide (show ∀ j x, j < k + 1 → l[j]? = some x → x ≠ (kd, mi) by
            intro j y hj hy
            rcases Nat.lt_or_ge j k with h | h
            · exact HE.out j y h hy
            · have e : y = (xk, xm) := Option.some.inj (by rw [← hy, show j = k by omega, HX.out])
              rw [e]; exact fun q => e2 (Prod.mk.inj q).2)
          clear e1 e2
          go_wp2
          go_round
          case rel => exact ⟨k + 1, by omega, by go_num, HU.out⟩
          case measure => simp [intOf]; omega
      · have n1 : (xk == kd) = false := by simpa using e1
        have HU := hide (show ∀ j x, j < k + 1 → l[j]? = some x → x ≠ (kd, mi) by
          intro j y hj hy
          rcases Nat.lt_or_ge j k with h | h
          · exact HE.out j y h hy
          · have e : y = (xk, xm) := Option.some.inj (by rw [← hy, show j = k by omega, HX.out])
            rw [e]; exact fun q => e1 (Prod.mk.inj q).1)
        clear e1
        go_wp2
        go_round
        case rel => exact ⟨k + 1, by omega, by go_num, HU.out⟩
        case measure => simp [intOf]; omega
    · have HW := hide (show (-1 : Int) = whr (kd, mi) l from (whr_none (fun j x hj hx => HE.out j x (by have := HN.out; omega) hx)).symm)
      go_wp2
      go_ret
      exact ⟨ret_int HW.out, rfl⟩
theorem bel_d2 (w : World) (q n : Nat) : Below w.heap.size w ((w.drewN q).drewN n) := ⟨rfl, rfl, rfl, Nat.le_refl _, fun _ _ => rfl⟩
theorem okA_no {m kx mx : Int} (h : kx < 1 ∨ 2 < kx ∨ mx < 0 ∨ m ≤ mx) : ¬ okA m (kx, mx) := by
  rintro ⟨h1, h2, h3, h4⟩
  dsimp only at h1 h2 h3 h4
  omega
set_option maxHeartbeats 16000000 in
set_option maxRecDepth 100000 in
theorem racts_any (v : Value) (l : List (Int × Int)) (m : Int) (w : World) (hv : IsActs w v l) (hm1 : 1 ≤ m) (hm2 : m ≤ 12) : Calls Tryd.prog 23 #[v, .int .i64 m] w fun e w' => e = .returned (.int .i64 (actsE l m)) ∧ Below w.heap.size w w' := by
  have hlen := hv.len
  unfold maxLen at hlen
  obtain ⟨a, cap, rfl, h2, h3, h4⟩ := hv
  obtain ⟨n, hn⟩ : ∃ n, l.length = n := ⟨_, rfl⟩
  rw [hn] at h2 hlen ⊢
  have HN := hide hn
  have H4 := hide h4
  clear hn h4
  go_enter Tryd.func23, Tryd.ntmps23
  go_wp2
  go_loop [5] (fun i => ∃ (k : Nat), k ≤ n ∧ i = .int .i64 k ∧ ∀ j x, j < k → l[j]? = some x → okA m x) (fun i => n - (intOf i).toNat)
  case atStart => exact ⟨0, Nat.zero_le _, rfl, fun j x hj _ => by omega⟩
  case round =>
    obtain ⟨k, hk, rfl, he⟩ := hrel
    have HE := hide he
    clear he
    by_cases hlt : k < n
    · obtain ⟨x, hx⟩ := act_at (l := l) (i := k) (by have := HN.out; omega)
      obtain ⟨b, off, rfl, hcl⟩ := H4.out.resolve_left (fun e => by rw [e] at hx; simp at hx)
      obtain ⟨c1, c2⟩ := hcl k x hx
      obtain ⟨xk, xm⟩ := x
      have HX := hide hx
      have hlt' : (k : Int) < (n : Int) := by omega
      dsimp only at c1 c2
      clear hcl hx
      by_cases e1 : xk < 1
      · have HA := hide (actsE_one HX.out (okA_no (m := m) (.inl e1)))
        go_wp2
        go_ret
        exact ⟨ret_int HA.out, Below.refl _ _⟩
      by_cases e2 : 2 < xk
      · have HA := hide (actsE_one HX.out (okA_no (m := m) (.inr (.inl e2))))
        go_wp2
        go_ret
        exact ⟨ret_int HA.out, Below.refl _ _⟩
      by_cases e3 : xm < 0
      · have HA := hide (actsE_one HX.out (okA_no (m := m) (.inr (.inr (.inl e3)))))
        go_wp2
        go_ret
        exact ⟨ret_int HA.out, Below.refl _ _⟩
      by_cases e4 : m ≤ xm
      · have HA := hide (actsE_one HX.out (okA_no (m := m) (.inr (.inr (.inr e4)))))
        go_wp2
        go_ret
        exact ⟨ret_int HA.out, Below.refl _ _⟩
      have HU := hide (show ∀ j x, j < k + 1 → l[j]? = some x → okA m x by
        intro j y hj hy
        rcases Nat.lt_or_ge j k with h | h
        · exact HE.out j y h hy
        · have e : y = (xk, xm) := Option.some.inj (by rw [← hy, show j = k by omega, HX.out])
          rw [e]; exact ⟨by show 1 ≤ xk; omega, by show xk ≤ 2; omega, by show 0 ≤ xm; omega, by show xm < m; omega⟩)
      go_wp2
      go_round
      case rel => exact ⟨k + 1, by omega, by go_num, HU.out⟩
      case measure => simp [intOf]; omega
    · have HOK := hide (all_okA (l := l) (m := m) (fun j x hj hx => HE.out j x (by have := HN.out; omega) hx))
      clear HE
      go_wp2
      go_loopw [6] (fun i wr => ∃ (k q : Nat) (xi : Int), k ≤ n ∧ xi = (k : Int) ∧ i = .int .i64 xi ∧ wr = w.drewN q ∧ ∀ (i j : Nat) x y, i < k → j < i → l[i]? = some x → l[j]? = some y → x ≠ y) (fun i _ => n - (intOf i).toNat)
      case atStart => exact ⟨0, 0, 0, Nat.zero_le _, rfl, rfl, rfl, fun i j x y hi _ => by omega⟩
      case round =>
        obtain ⟨i, q, xi, hi, hxi, rfl, rfl, he⟩ := hrel
        have HE := hide he
        have HXI := hide hxi
        have hx0 : 0 ≤ xi := by omega
        have hx1 : xi ≤ 9223372036854775807 := by omega
        clear he hxi
        by_cases hlt2 : xi < (n : Int)
        · obtain ⟨x, hx⟩ := act_at (l := l) (i := i) (by have := HN.out; have := HXI.out; omega)
          obtain ⟨b, off, rfl, hcl⟩ := H4.out.resolve_left (fun e => by rw [e] at hx; simp at hx)
          have hcx := hcl i x hx
          rw [show i = xi.toNat by have := HXI.out; omega] at hcx
          obtain ⟨c1, c2⟩ := hcx
          obtain ⟨xk, xm⟩ := x
          dsimp only at c1 c2
          have HX := hide hx
          have HCL := hide hcl
          clear hx hcl
          go_wp2
          go_loopw [7] (fun i2 wr => ∃ (k q2 : Nat) (xj : Int), k ≤ i ∧ xj = (k : Int) ∧ i2 = .int .i64 xj ∧ wr = w.drewN q2 ∧ ∀ (j : Nat) y, j < k → l[j]? = some y → (xk, xm) ≠ y) (fun i2 _ => i - (intOf i2).toNat)
          case atStart => exact ⟨0, q, 0, Nat.zero_le _, rfl, rfl, rfl, fun j y hj _ => by omega⟩
          case round =>
            obtain ⟨k2, q2, xj, hk2, hxj, rfl, rfl, he2⟩ := hrel
            have HE2 := hide he2
            have HXJ := hide hxj
            have hy0 : 0 ≤ xj := by omega
            clear he2 hxj
            by_cases hlt3 : xj < xi
            · obtain ⟨y, hy⟩ := act_at (l := l) (i := k2) (by have := HN.out; have := HXI.out; have := HXJ.out; omega)
              have hcy := HCL.out k2 y hy
              rw [show k2 = xj.toNat by have := HXJ.out; omega] at hcy
              obtain ⟨d1, d2⟩ := hcy
              obtain ⟨yk, ym⟩ := y
              dsimp only at d1 d2
              have HY := hide hy
              have hjn : xj < (n : Int) := by omega
              clear hy
              have HNX := hide (fun (h : (xk, xm) ≠ (yk, ym)) => show ∀ (j : Nat) y, j < k2 + 1 → l[j]? = some y → (xk, xm) ≠ y by
                intro j z hj hz
                rcases Nat.lt_or_ge j k2 with h' | h'
                · exact HE2.out j z h' hz
                · have e : z = (yk, ym) := Option.some.inj (by rw [← hz, show j = k2 by omega, HY.out])
                  rw [e]; exact h)
              by_cases e1 : xk = yk
              · by_cases e2 : xm = ym
                · have HA := hide (actsE_two (m := m) HOK.out (fun h => h i k2 (xk, xm) (yk, ym) (by have := HXI.out; have := HXJ.out; omega) HX.out HY.out (by rw [e1, e2])))
                  go_wp2
                  go_quiet (fail)
                  go_wp2
                  go_ret
                  exact ⟨ret_int HA.out, bel_d2 _ _ _⟩
                · have HU := hide (HNX.out (fun e => e2 (Prod.mk.inj e).2))
                  have n2 : (xm == ym) = false := by simpa using e2
                  clear e2
                  go_wp2
                  go_quiet (fail)
                  go_wp2
                  go_roundw
                  case rel => exact ⟨k2 + 1, _, _, by have := HXI.out; have := HXJ.out; omega, by have := HXJ.out; omega, rfl, rfl, HU.out⟩
                  case measure => have := HXI.out; have := HXJ.out; simp [intOf]; omega
              · have HU := hide (HNX.out (fun e => e1 (Prod.mk.inj e).1))
                have n1 : (xk == yk) = false := by simpa using e1
                clear e1
                go_wp2
                go_quiet (fail)
                go_wp2
                go_roundw
                case rel => exact ⟨k2 + 1, _, _, by have := HXI.out; have := HXJ.out; omega, by have := HXJ.out; omega, rfl, rfl, HU.out⟩
                case measure => have := HXI.out; have := HXJ.out; simp [intOf]; omega
            · have HU := hide (show ∀ (i' j : Nat) x y, i' < i + 1 → j < i' → l[i']? = some x → l[j]? = some y → x ≠ y by
                intro i' j x y hi' hj hx hy
                rcases Nat.lt_or_ge i' i with h | h
                · exact HE.out i' j x y h hj hx hy
                · have e : x = (xk, xm) := Option.some.inj (by rw [← hx, show i' = i by omega, HX.out])
                  rw [e]; exact HE2.out j y (by have := HXI.out; have := HXJ.out; omega) hy)
              go_wp2
              go_roundw
              case rel => exact ⟨i + 1, _, _, by have := HXI.out; omega, by have := HXI.out; omega, rfl, rfl, HU.out⟩
              case measure => have := HXI.out; simp [intOf]; omega
        · have HAP := hide (show apart l from fun i' k' x y hk hx hy => HE.out i' k' x y (by have := HN.out; have := HXI.out; have := (List.getElem?_eq_some_iff.1 hx).1; omega) hk hx hy)
          by_cases hlm : (n : Int) < 2 * m
          · have HA := hide (actsE_less HOK.out HAP.out (by rw [HN.out]; exact hlm))
            go_wp2
            go_ret
            exact ⟨ret_int HA.out, below_drewN _ _⟩
          have HLM := hide (show 2 * m ≤ (l.length : Int) by rw [HN.out]; omega)
          go_wp2
          go_loopw [8] (fun i wr => ∃ (k q : Nat) (xi : Int), k ≤ n ∧ xi = (k : Int) ∧ i = .int .i64 xi ∧ wr = w.drewN q ∧ ∀ (i j : Nat) x y, i < k → j < i → l[i]? = some x → l[j]? = some y → ¬ (x.2 = y.2 ∧ y.1 = 2)) (fun i _ => n - (intOf i).toNat)
          case atStart => exact ⟨0, q, 0, Nat.zero_le _, rfl, rfl, rfl, fun i j x y hi _ => by omega⟩
          case round =>
            obtain ⟨i3, q3, x3, hi3, hxi3, rfl, rfl, he3⟩ := hrel
            have HE3 := hide he3
            have HX3 := hide hxi3
            have hz0 : 0 ≤ x3 := by omega
            have hz1 : x3 ≤ 9223372036854775807 := by omega
            clear he3 hxi3
            by_cases hlt4 : x3 < (n : Int)
            · obtain ⟨x, hx⟩ := act_at (l := l) (i := i3) (by have := HN.out; have := HX3.out; omega)
              obtain ⟨b, off, rfl, hcl⟩ := H4.out.resolve_left (fun e => by rw [e] at hx; simp at hx)
              have hcx := hcl i3 x hx
              rw [show i3 = x3.toNat by have := HX3.out; omega] at hcx
              obtain ⟨c1, c2⟩ := hcx
              obtain ⟨xk, xm⟩ := x
              dsimp only at c1 c2
              have HX := hide hx
              have HCL := hide hcl
              clear hx hcl
              go_wp2
              go_loopw [9] (fun i2 wr => ∃ (k q2 : Nat) (xj : Int), k ≤ i3 ∧ xj = (k : Int) ∧ i2 = .int .i64 xj ∧ wr = w.drewN q2 ∧ ∀ (j : Nat) y, j < k → l[j]? = some y → ¬ (xm = y.2 ∧ y.1 = 2)) (fun i2 _ => i3 - (intOf i2).toNat)
              case atStart => exact ⟨0, q3, 0, Nat.zero_le _, rfl, rfl, rfl, fun j y hj _ => by omega⟩
              case round =>
                obtain ⟨k2, q2, xj, hk2, hxj, rfl, rfl, he2⟩ := hrel
                have HE2 := hide he2
                have HXJ := hide hxj
                have hy0 : 0 ≤ xj := by omega
                clear he2 hxj
                by_cases hlt3 : xj < x3
                · obtain ⟨y, hy⟩ := act_at (l := l) (i := k2) (by have := HN.out; have := HX3.out; have := HXJ.out; omega)
                  have hcy := HCL.out k2 y hy
                  rw [show k2 = xj.toNat by have := HXJ.out; omega] at hcy
                  obtain ⟨d1, d2⟩ := hcy
                  obtain ⟨yk, ym⟩ := y
                  dsimp only at d1 d2
                  have HY := hide hy
                  have hjn : xj < (n : Int) := by omega
                  clear hy
                  have HNX := hide (fun (h : ¬ (xm = ym ∧ yk = 2)) => show ∀ (j : Nat) y, j < k2 + 1 → l[j]? = some y → ¬ (xm = y.2 ∧ y.1 = 2) by
                    intro j z hj hz
                    rcases Nat.lt_or_ge j k2 with h' | h'
                    · exact HE2.out j z h' hz
                    · have e : z = (yk, ym) := Option.some.inj (by rw [← hz, show j = k2 by omega, HY.out])
                      rw [e]; exact h)
                  by_cases e1 : xm = ym
                  · have n1 : (xm == ym) = true := by simp [e1]
                    by_cases e2 : yk = 2
                    · have HA := hide (actsE_back HOK.out HAP.out (Int.not_lt.2 HLM.out) (fun h => h i3 k2 (xk, xm) (yk, ym) (by have := HX3.out; have := HXJ.out; omega) HX.out HY.out ⟨e1, e2⟩))
                      have n2 : (yk == 2) = true := by simp [e2]
                      clear e1 e2
                      go_wp2
                      go_quiet (fail)
                      go_wp2
                      go_ret
                      exact ⟨ret_int HA.out, bel_d2 _ _ _⟩
                    · have HU := hide (HNX.out (fun e => e2 e.2))
                      have n2 : (yk == 2) = false := by simpa using e2
                      clear e1 e2
                      go_wp2
                      go_quiet (fail)
                      go_wp2
                      go_roundw
                      case rel => exact ⟨k2 + 1, _, _, by have := HX3.out; have := HXJ.out; omega, by have := HXJ.out; omega, rfl, rfl, HU.out⟩
                      case measure => have := HX3.out; have := HXJ.out; simp [intOf]; omega
                  · have HU := hide (HNX.out (fun e => e1 e.1))
                    have n1 : (xm == ym) = false := by simpa using e1
                    clear e1
                    go_wp2
                    go_quiet (fail)
                    go_wp2
                    go_roundw
                    case rel => exact ⟨k2 + 1, _, _, by have := HX3.out; have := HXJ.out; omega, by have := HXJ.out; omega, rfl, rfl, HU.out⟩
                    case measure => have := HX3.out; have := HXJ.out; simp [intOf]; omega
                · have HU := hide (show ∀ (i' j : Nat) x y, i' < i3 + 1 → j < i' → l[i']? = some x → l[j]? = some y → ¬ (x.2 = y.2 ∧ y.1 = 2) by
                    intro i' j x y hi' hj hx hy
                    rcases Nat.lt_or_ge i' i3 with h | h
                    · exact HE3.out i' j x y h hj hx hy
                    · have e : x = (xk, xm) := Option.some.inj (by rw [← hx, show i' = i3 by omega, HX.out])
                      rw [e]; exact HE2.out j y (by have := HX3.out; have := HXJ.out; omega) hy)
                  go_wp2
                  go_roundw
                  case rel => exact ⟨i3 + 1, _, _, by have := HX3.out; omega, by have := HX3.out; omega, rfl, rfl, HU.out⟩
                  case measure => have := HX3.out; simp [intOf]; omega
            · have HA := hide (actsE_ok HOK.out HAP.out (Int.not_lt.2 HLM.out) (fun i' k' x y hk hx hy => HE3.out i' k' x y (by have := HN.out; have := HX3.out; have := (List.getElem?_eq_some_iff.1 hx).1; omega) hk hx hy))
              go_wp2
              go_ret
              exact ⟨ret_int HA.out, below_drewN _ _⟩
end Go.Proofs.YtgdggaieekakhagDoor
