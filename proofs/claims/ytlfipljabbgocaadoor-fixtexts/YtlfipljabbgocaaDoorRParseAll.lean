/- What Parse of the document's answer comes to at every number's text: the number. -/
import Derived.Test.YtlfipljabbgocaaDoorRParseD
import Derived.Test.YtlfipljabbgocaaDoorParseAll
namespace Go.Proofs.YtlfipljabbgocaaDoor
open Go.RowKit
theorem seg_at (pre mid post : List UInt8) (k : Nat) (hk : k < mid.length) : ∃ h : pre.length + k < (⟨(pre ++ (mid ++ post)).toArray⟩ : ByteArray).size, (⟨(pre ++ (mid ++ post)).toArray⟩ : ByteArray)[pre.length + k] = mid[k] := by
  have hs : (⟨(pre ++ (mid ++ post)).toArray⟩ : ByteArray).size = pre.length + (mid.length + post.length) := by simp [ByteArray.size]
  refine ⟨by omega, ?_⟩
  show (pre ++ (mid ++ post)).toArray[pre.length + k]'(by simp; omega) = mid[k]
  simp [List.getElem_append_left hk]
theorem take_dv (D : List UInt8) (k : Nat) (hk : k < D.length) : dv (D.take (k + 1)) = dv (D.take k) * 10 + (D[k].toNat - 48) := by
  rw [List.take_succ_eq_append_getElem hk, dv_snoc]
theorem take_dig (D : List UInt8) (h : dig D = true) (k : Nat) : dig (D.take k) = true := by
  unfold dig at *; rw [List.all_eq_true] at *; exact fun x hx => h x (List.mem_of_mem_take hx)
theorem seg_dig (pre mid post : List UInt8) (hd : dig mid = true) (k : Nat) (hk : k < mid.length) : ∃ h : pre.length + k < (⟨(pre ++ (mid ++ post)).toArray⟩ : ByteArray).size, 48 ≤ ((⟨(pre ++ (mid ++ post)).toArray⟩ : ByteArray)[pre.length + k]).toNat ∧ ((⟨(pre ++ (mid ++ post)).toArray⟩ : ByteArray)[pre.length + k]).toNat ≤ 57 ∧ dv (mid.take (k + 1)) = dv (mid.take k) * 10 + (((⟨(pre ++ (mid ++ post)).toArray⟩ : ByteArray)[pre.length + k]).toNat - 48) := by
  obtain ⟨h, e⟩ := seg_at pre mid post k hk
  refine ⟨h, ?_⟩
  rw [e]
  have := dig_mem hd (List.getElem_mem hk)
  exact ⟨this.1, this.2, take_dv mid k hk⟩
theorem dv_take_lt (D : List UInt8) (hd : dig D = true) (n : Nat) (hn : D.length ≤ n) (k : Nat) (hk : k ≤ D.length) : dv (D.take k) < 10 ^ n :=
  Nat.lt_of_lt_of_le (dv_lt _ _ rfl (take_dig D hd k)) (Nat.pow_le_pow_right (by omega) (by simp; omega))
theorem bpd_T : ∀ r, r < 256 → dv ((bpd 8 r).take (bpd 8 r).length) * 10 ^ (8 - (bpd 8 r).length) < 100000000 ∧ dv ((bpd 8 r).take (bpd 8 r).length) * 10 ^ (8 - (bpd 8 r).length) / 390625 = r := by decide +kernel
theorem seg_l {l pre mid post : List UInt8} (hl : l = pre ++ (mid ++ post)) {a : Nat} (ha : a = pre.length) (hd : dig mid = true) (k : Nat) (hk : k < mid.length) : ∃ h : a + k < (⟨l.toArray⟩ : ByteArray).size, 48 ≤ ((⟨l.toArray⟩ : ByteArray)[a + k]).toNat ∧ ((⟨l.toArray⟩ : ByteArray)[a + k]).toNat ≤ 57 ∧ dv (mid.take (k + 1)) = dv (mid.take k) * 10 + (((⟨l.toArray⟩ : ByteArray)[a + k]).toNat - 48) := by
  subst hl; subst ha; exact seg_dig pre mid post hd k hk
theorem dot_l {l pre post : List UInt8} (hl : l = pre ++ (46 :: post)) {a : Nat} (ha : a = pre.length) : ∃ h : a < (⟨l.toArray⟩ : ByteArray).size, ((⟨l.toArray⟩ : ByteArray)[a]).toNat = 46 := by
  subst hl; subst ha
  obtain ⟨h, q⟩ := seg_at pre [46] post 0 (by simp)
  exact ⟨h, congrArg UInt8.toNat q⟩
theorem first_l {l mid post : List UInt8} (hl : l = mid ++ post) (hd : dig mid = true) (hm : 0 < mid.length) (h : 0 < (⟨l.toArray⟩ : ByteArray).size) : ((((⟨l.toArray⟩ : ByteArray)[0]).toNat : Int) == 45) = false := by
  subst hl
  obtain ⟨h', q, _⟩ := seg_dig [] mid post hd 0 hm
  refine beq_eq_false_iff_ne.2 (fun e => ?_)
  have q' : 48 ≤ ((⟨(mid ++ post).toArray⟩ : ByteArray)[0]).toNat := q
  omega
theorem size_l (l : List UInt8) : (⟨l.toArray⟩ : ByteArray).size = l.length := by simp [ByteArray.size]
theorem text_back (y : Int) (h0 : -2147483647 ≤ y) (h1 : y ≤ 2147483647) (l : List UInt8) (hl : tx y = l) : (tx (cl y) == (⟨l.toArray⟩ : ByteArray).toList) = true := by
  rw [cl_in y h0 h1, hl]; simp
theorem rparse_yes (y : Int) (w : World) (h0 : -2147483647 ≤ y) (h1 : y ≤ 2147483647) :
    Calls Tryd.prog 10 #[.string ⟨(tx y).toArray⟩] w fun e w' => e = .returned (.tuple #[.int .i64 y, .bool true]) ∧ w' = w := by
  obtain ⟨n, hn⟩ : ∃ n : Nat, n = y.natAbs := ⟨_, rfl⟩
  obtain ⟨g1, g2⟩ := dec_dig (n / 256)
  have g3 := decDigits_le 6 (n / 256) (by omega)
  have g4 := dec_ne (n / 256)
  obtain ⟨D, hD⟩ : ∃ D, Lib.decDigits (n / 256) = D := ⟨_, rfl⟩
  rw [hD] at g1 g2 g3 g4
  have g5 : 0 < D.length := List.length_pos_iff.2 g4
  have gd : ∀ k, k ≤ D.length → dv (D.take k) < 10000000 := dv_take_lt _ g1 7 g3
  have gL : dv (D.take D.length) = n / 256 := by rw [List.take_length, g2]
  obtain ⟨l, hl⟩ : ∃ l, tx y = l := ⟨_, rfl⟩
  have hc := text_back y h0 h1 _ hl
  have hs := size_l l
  rw [hl]
  by_cases hr : n % 256 = 0
  · have hb : bp (n % 256) = [] := bp_nil hr
    by_cases hy : y < 0
    · have e : l = [45] ++ (D ++ []) := by rw [← hl]; unfold tx; rw [if_pos hy, ← hn, hb, hD]; simp
      have hlen : l.length = 1 + D.length := by rw [e]; simp; omega
      have hf : ∀ h : 0 < (⟨l.toArray⟩ : ByteArray).size, ((((⟨l.toArray⟩ : ByteArray)[0]).toNat : Int) == 45) = true := by subst e; intro h; rfl
      exact ry_neg _ w 1 D.length (fun k => dv (D.take k)) y (by omega) (by omega) (hf _) rfl (seg_l e rfl g1) rfl gd (by omega) (by show y = _; rw [gL]; omega) hc
    · have e : l = [] ++ (D ++ []) := by rw [← hl]; unfold tx; rw [if_neg hy, ← hn, hb, hD]; simp
      have hlen : l.length = D.length := by rw [e]; simp
      exact ry_pos _ w 0 D.length (fun k => dv (D.take k)) y (by omega) (by omega) (first_l (mid := D) e g1 g5 _) rfl (seg_l e rfl g1) rfl gd (by omega) (by show y = _; rw [gL]; omega) hc
  · obtain ⟨e1, e2, e3⟩ := bpd_facts (n % 256) (by omega)
    obtain ⟨t1, t2⟩ := bpd_T (n % 256) (by omega)
    have hb : bp (n % 256) = 46 :: bpd 8 (n % 256) := bp_not hr
    obtain ⟨B, hB⟩ : ∃ B, bpd 8 (n % 256) = B := ⟨_, rfl⟩
    rw [hB] at e1 e2 t1 t2 hb
    have ge : ∀ j, j ≤ B.length → dv (B.take j) < 100000000 := dv_take_lt _ e1 8 e2
    obtain ⟨T, hT⟩ : ∃ T, dv (B.take B.length) * 10 ^ (8 - B.length) = T := ⟨_, rfl⟩
    rw [hT] at t1 t2
    by_cases hy : y < 0
    · have e : l = [45] ++ (D ++ (46 :: B)) := by rw [← hl]; unfold tx; rw [if_pos hy, ← hn, hb, hD]; simp
      have hlen : l.length = 1 + D.length + 1 + B.length := by rw [e]; simp; omega
      have hf : ∀ h : 0 < (⟨l.toArray⟩ : ByteArray).size, ((((⟨l.toArray⟩ : ByteArray)[0]).toNat : Int) == 45) = true := by subst e; intro h; rfl
      exact ry_negd _ w 1 D.length B.length T (fun k => dv (D.take k)) (fun j => dv (B.take j)) y (by omega) (by omega) (hf _) rfl (seg_l e rfl g1) rfl gd
        (dot_l (pre := [45] ++ D) (post := B) (by rw [e]; simp) (by simp; omega)) (seg_l (pre := [45] ++ D ++ [46]) (post := []) (by rw [e]; simp) (by simp; omega) e1) (by omega) rfl e2 ge hT t1 (by show y = _; rw [gL]; omega) hc
    · have e : l = [] ++ (D ++ (46 :: B)) := by rw [← hl]; unfold tx; rw [if_neg hy, ← hn, hb, hD]; simp
      have hlen : l.length = D.length + 1 + B.length := by rw [e]; simp; omega
      exact ry_posd _ w 0 D.length B.length T (fun k => dv (D.take k)) (fun j => dv (B.take j)) y (by omega) (by omega) (first_l (mid := D) e g1 g5 _) rfl (seg_l e rfl g1) rfl gd
        (dot_l (pre := D) (post := B) (by rw [e]; simp) (by simp)) (seg_l (pre := D ++ [46]) (post := []) (by rw [e]; simp) (by simp) e1) (by omega) rfl e2 ge hT t1 (by show y = _; rw [gL]; omega) hc
end Go.Proofs.YtlfipljabbgocaaDoor
