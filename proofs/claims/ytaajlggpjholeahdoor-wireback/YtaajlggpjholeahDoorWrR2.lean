/- What SevenAt of the document's answer comes to: a number is read at some place. -/
import Derived.Test.YtaajlggpjholeahDoorWrR1
import Derived.Test.YtaajlggpjholeahDoorWrQ
namespace Go.Proofs.YtaajlggpjholeahDoor
open Go.RowKit
def endAt (l : List Int) : Option (Int × List Int) → Int × Int
  | none => (0, -1)
  | some (x, t) => (x, (l.length : Int) - (t.length : Int))
theorem pow27 (k : Nat) : (2 : Int) ^ (7 * k) = 128 ^ k := by
  rw [show (128 : Int) = 2 ^ 7 by decide, Int.pow_mul]
theorem pow_le128 {k : Nat} (h : k ≤ 8) : (128 : Int) ^ (k + 1) ≤ 9223372036854775808 := by
  have : k = 0 ∨ k = 1 ∨ k = 2 ∨ k = 3 ∨ k = 4 ∨ k = 5 ∨ k = 6 ∨ k = 7 ∨ k = 8 := by omega
  rcases this with rfl | rfl | rfl | rfl | rfl | rfl | rfl | rfl | rfl <;> decide
theorem rdB_nil (j : Nat) (f : Bool) (P acc : Int) : rdB j f P acc [] = none := by cases j <;> rfl
set_option maxHeartbeats 8000000 in
set_option maxRecDepth 100000 in
theorem rsevenat_any (v : Value) (l : List Int) (at_ : Nat) (xa : Int) (w : World) (hv : IsBys w v l) (hxa : xa = (at_ : Int)) (hat : at_ ≤ l.length) (h3 : at_ ≤ 100000) : Calls Tryd.prog 31 #[v, .int .i64 xa] w fun e w' => e = .returned (.tuple #[.int .i64 (endAt l (rd1 (l.drop at_))).1, .int .i64 (endAt l (rd1 (l.drop at_))).2]) ∧ w' = w := by
  have hlen := hv.len
  unfold maxLen at hlen
  obtain ⟨a, cap, rfl, h2, hcap, h5, h4⟩ := hv
  obtain ⟨n, hn⟩ : ∃ n, l.length = n := ⟨_, rfl⟩
  obtain ⟨E, hE⟩ : ∃ E, rd1 (l.drop at_) = E := ⟨_, rfl⟩
  have HE := hide hE
  have H4 := hide h4
  have H5 := hide h5
  have HN := hide hn
  have HXA := hide hxa
  have hx0 : 0 ≤ xa := by omega
  have hx1 : xa ≤ 100000 := by omega
  rw [hE]
  obtain ⟨R1, hR1⟩ : ∃ R, (endAt l E).1 = R := ⟨_, rfl⟩
  obtain ⟨R2, hR2⟩ : ∃ R, (endAt l E).2 = R := ⟨_, rfl⟩
  rw [hR1, hR2]
  have HR := hide (And.intro hR1 hR2)
  have HNO := hide (show E = none → (0 : Int) = R1 ∧ (-1 : Int) = R2 from fun e => by rw [← hR1, ← hR2, e]; exact ⟨rfl, rfl⟩)
  rw [hn] at h2 hlen hat ⊢
  clear h4 h5 hn hxa hE hR1 hR2 h3
  go_enter Tryd.func31, Tryd.ntmps31
  go_wp2
  go_loopw [6, 7, 8] (fun xv iv _ wr => ∃ (k : Nat) (xi x : Int), k ≤ 9 ∧ xi = (k : Int) ∧ iv = .int .i64 xi ∧ xv = .int .i64 x ∧ w = wr ∧ 0 ≤ x ∧ x < 128 ^ k ∧ at_ + k ≤ n ∧ E = rdB (9 - k) (k == 0) (128 ^ k) x (l.drop (at_ + k))) (fun _ iv _ _ => 9 - (intOf iv).toNat)
  case atStart => exact ⟨0, 0, 0, Nat.zero_le _, rfl, rfl, rfl, rfl, by omega, by simp, by omega, by rw [← HE.out]; rfl⟩
  case round =>
    obtain ⟨k, xi, x, hk, hxi, rfl, rfl, hw, hxx0, hxx1, hkn, hs⟩ := hrel
    subst hw
    have HXI := hide hxi
    have HS := hide hs
    have HX1 := hide hxx1
    have HKN := hide hkn
    have hi0 : 0 ≤ xi := by omega
    have hi9 : xi ≤ 9 := by omega
    clear hxi hs hxx1 hkn
    by_cases hlt : xi < 9
    · by_cases c1 : (n : Int) ≤ xa + xi
      · have HV := hide (HNO.out (by rw [HS.out, List.drop_of_length_le (by have := HN.out; have := HXI.out; have := HXA.out; omega), rdB_nil]))
        go_wp2
        exact bodyPost_ret (v := .tuple #[.int .i64 0, .int .i64 (-1)]) (by simp [results, Tryd.results31, go_sem]) rfl ⟨by rw [← HV.out.1, ← HV.out.2], rfl⟩
      · have hkl : at_ + k < l.length := by have := HN.out; have := HXI.out; have := HXA.out; omega
        obtain ⟨d, hd⟩ : ∃ d, l[at_ + k]? = some d := ⟨_, List.getElem?_eq_getElem hkl⟩
        obtain ⟨d0, d1⟩ := H5.out d (List.mem_of_getElem? hd)
        obtain ⟨b1, o1, ha1, hc1⟩ := H4.out.resolve_left (fun e => by rw [e] at hd; simp at hd)
        subst ha1
        have c3 := hc1 (at_ + k) d hd
        rw [show at_ + k = (xa + xi).toNat by have := HXI.out; have := HXA.out; omega] at c3
        have HD := hide (show l.drop (at_ + k) = d :: l.drop (at_ + (k + 1)) by
          obtain ⟨hi, e⟩ := List.getElem?_eq_some_iff.1 hd
          rw [List.drop_eq_getElem_cons hi, e, Nat.add_assoc])
        have hk8 : k ≤ 8 := by have := HXI.out; omega
        have hP := pow_pos128 k
        have hP8 := pow_le128 hk8
        rw [Int.pow_succ] at hP8
        obtain ⟨P, hPe⟩ : ∃ P, (128 : Int) ^ k = P := ⟨_, rfl⟩
        have hxP := HX1.out
        rw [hPe] at hP hP8 hxP
        obtain ⟨S, hS⟩ : ∃ S, d % 128 * P = S := ⟨_, rfl⟩
        have hS0 : 0 ≤ S := by rw [← hS]; exact Int.mul_nonneg (by omega) (by omega)
        have hS1 : S ≤ 127 * P := by rw [← hS]; exact Int.mul_le_mul_of_nonneg_right (by omega) (by omega)
        have hpw : (2 : Int) ^ (7 * xi).toNat = P := by rw [show (7 * xi).toNat = 7 * k by have := HXI.out; omega, pow27, hPe]
        have hsh : IntKind.i64.wrap (d % 128 * 2 ^ (7 * xi).toNat) = S := by rw [hpw, hS, IntKind.wrap_i64]; omega
        obtain ⟨Y, hY⟩ : ∃ Y, x + S = Y := ⟨_, rfl⟩
        have had : IntKind.i64.wrap (x + S) = Y := by rw [hY, IntKind.wrap_i64]; omega
        have HST := hide (show E = if d < 128 then (if d = 0 ∧ (k == 0) = false then none else some (Y, l.drop (at_ + (k + 1)))) else rdB (9 - (k + 1)) false (128 ^ (k + 1)) Y (l.drop (at_ + (k + 1))) by
          rw [HS.out, HD.out, show 9 - k = (9 - (k + 1)) + 1 by omega, rdB, hPe, hS, hY, Int.pow_succ, hPe])
        have HYB := hide (show 0 ≤ Y ∧ Y < 128 ^ (k + 1) by rw [Int.pow_succ, hPe]; omega)
        clear hc1 hd hkl hPe hxP hS hpw hY hP hP8 hS0 hS1
        by_cases e1 : d < 128
        · by_cases e2 : d = 0
          · by_cases e3 : 0 < xi
            · have HV := hide (HNO.out (by rw [HST.out, if_pos e1, if_pos ⟨e2, by have := HXI.out; simp; omega⟩]))
              have n0 : (d == 0) = true := by simp [e2]
              clear e2
              go_wp2
              exact bodyPost_ret (v := .tuple #[.int .i64 0, .int .i64 (-1)]) (by simp [results, Tryd.results31, go_sem]) rfl ⟨by rw [← HV.out.1, ← HV.out.2], rfl⟩
            · have hk0 : k = 0 := by have := HXI.out; omega
              have HV := hide (show Y = R1 ∧ xa + xi + 1 = R2 by
                have h1 := HST.out
                rw [if_pos e1, if_neg (by rintro ⟨_, h⟩; rw [hk0] at h; cases h)] at h1
                have h2 := HR.out
                rw [h1] at h2
                unfold endAt at h2
                dsimp only at h2
                rw [List.length_drop] at h2
                have := HN.out; have := HXI.out; have := HXA.out; have := HKN.out
                omega)
              have n0 : (d == 0) = true := by simp [e2]
              clear e2
              go_wp2
              exact bodyPost_ret (v := .tuple #[.int .i64 Y, .int .i64 (xa + xi + 1)]) (by simp [results, Tryd.results31, go_sem]) rfl ⟨by rw [← HV.out.1, ← HV.out.2], rfl⟩
          · have HV := hide (show Y = R1 ∧ xa + xi + 1 = R2 by
              have h1 := HST.out
              rw [if_pos e1, if_neg (fun h => e2 h.1)] at h1
              have h2 := HR.out
              rw [h1] at h2
              unfold endAt at h2
              dsimp only at h2
              rw [List.length_drop] at h2
              have := HN.out; have := HXI.out; have := HXA.out; have := HKN.out
              omega)
            have n0 : (d == 0) = false := by simpa using e2
            clear e2
            go_wp2
            exact bodyPost_ret (v := .tuple #[.int .i64 Y, .int .i64 (xa + xi + 1)]) (by simp [results, Tryd.results31, go_sem]) rfl ⟨by rw [← HV.out.1, ← HV.out.2], rfl⟩
        · have HU := hide (show E = rdB (9 - (k + 1)) (k + 1 == 0) (128 ^ (k + 1)) Y (l.drop (at_ + (k + 1))) by rw [HST.out, if_neg e1]; rfl)
          go_wp2
          go_roundw
          case rel => exact ⟨k + 1, _, _, by omega, by have := HXI.out; omega, rfl, rfl, by first | rfl | trivial, HYB.out.1, HYB.out.2, by have := HXI.out; have := HXA.out; omega, HU.out⟩
          case measure => have := HXI.out; simp [intOf]; omega
    · have HV := hide (HNO.out (by rw [HS.out, show 9 - k = 0 by have := HXI.out; omega]; rfl))
      go_wp2
      exact bodyPost_ret (v := .tuple #[.int .i64 0, .int .i64 (-1)]) (by simp [results, Tryd.results31, go_sem]) rfl ⟨by rw [← HV.out.1, ← HV.out.2], rfl⟩
end Go.Proofs.YtaajlggpjholeahDoor
