/- What slices.Repeat comes to at a list of a single 1 and a few times. -/
import Derived.Test.YtgdggaieekakhagDoorPlR2
import Derived.Test.YtgdggaieekakhagDoorOwZ
import Derived.Laws.CopyOwn
import Derived.Laws.Bits64b
import Derived.Deep.RegionLaw
namespace Go.Proofs.YtgdggaieekakhagDoor
open Go.RowKit
theorem pkMask {x : Int} (h0 : 0 ≤ x) (h1 : x ≤ 12) : bits .and .u64 x 4294967295 = x := by
  obtain ⟨n, rfl⟩ : ∃ n : Nat, x = (n : Int) := ⟨x.toNat, by omega⟩
  have h := bits_and_u64_nat n 4294967295 (by omega) (by omega)
  rw [show n &&& 4294967295 = n % 4294967296 from Nat.and_two_pow_sub_one_eq_mod n 32, Nat.mod_eq_of_lt (by omega)] at h
  exact h
set_option maxHeartbeats 4000000 in
theorem pkMul64 (x : Int) (h0 : 0 ≤ x) (h1 : x ≤ 12) (w : World) : Calls Tryd.prog 41 #[.int .u64 1, .int .u64 x] w fun e w' => e = .returned (.tuple #[.int .u64 0, .int .u64 x]) ∧ w' = w := by
  have a1 := pkMask (x := 1) (by decide) (by decide)
  have a2 := pkMask h0 h1
  have a0 := pkMask (x := 0) (by decide) (by decide)
  have a3 : x / 4294967296 = 0 := by omega
  have a4 : IntKind.u64.wrap x = x := by rw [IntKind.wrap_u64]; omega
  go_enter Tryd.func41, Tryd.ntmps41
  go_wp2
  go_ret2
  exact ⟨rfl, rfl⟩
set_option maxHeartbeats 4000000 in
theorem pkMul (x : Int) (h0 : 0 ≤ x) (h1 : x ≤ 12) (w : World) : Calls Tryd.prog 32 #[.int .u64 1, .int .u64 x] w fun e w' => e = .returned (.tuple #[.int .u64 0, .int .u64 x]) ∧ w' = w := by
  have hc := pkMul64 x h0 h1 w
  go_enter Tryd.func32, Tryd.ntmps32
  go_wp2_with (go_at_call 41; refine hc.mono ?_; rintro e w' ⟨rfl, hw⟩; rw [hw])
  go_ret2
  exact ⟨rfl, rfl⟩
/-- A row of which the first ones are 1, the others 0. -/
def rowO (k M : Nat) : List Int := tab M (fun i => if i < k then 1 else 0)
def onesV (c : Nat) : List Value := List.replicate c (.int .i64 1)
theorem rowO_zero (M : Nat) : rowO 0 M = tab M (fun _ => 0) := tab_congr (fun i _ => if_neg (Nat.not_lt_zero i))
theorem rowO_full (M : Nat) : rowO M M = List.replicate M 1 := by
  refine List.ext_getElem? fun i => ?_
  unfold rowO
  rcases Nat.lt_or_ge i M with h | h
  · rw [tab_at h, if_pos h, List.getElem?_replicate, if_pos h]
  · rw [List.getElem?_eq_none (by rw [tab_len]; exact h), List.getElem?_eq_none (by rw [List.length_replicate]; exact h)]
theorem splice_row {k c M : Nat} (h : k + c ≤ M) : (splice ((rowO k M).map (Value.int .i64)) k (onesV c)) = (rowO (k + c) M).map (Value.int .i64) := by
  unfold splice rowO onesV
  refine List.ext_getElem? fun i => ?_
  have hl : ((tab M (fun i => if i < k then 1 else 0)).map (Value.int .i64)).length = M := by rw [List.length_map, tab_len]
  have at1 : ∀ (j q : Nat), j < M → ((tab M (fun i => if i < q then 1 else 0)).map (Value.int .i64))[j]? = some (.int .i64 (if j < q then 1 else 0)) := fun j q hj => by rw [List.getElem?_map, tab_at hj]; rfl
  rcases Nat.lt_or_ge i k with h1 | h1
  · rw [List.getElem?_append_left (by rw [List.length_take, hl]; omega), List.getElem?_take, if_pos h1, at1 i k (by omega), at1 i _ (by omega), if_pos h1, if_pos (by omega)]
  · rw [List.getElem?_append_right (by rw [List.length_take, hl]; omega), List.length_take, hl, Nat.min_eq_left (by omega)]
    rcases Nat.lt_or_ge i (k + c) with h2 | h2
    · rw [List.getElem?_append_left (by rw [List.length_replicate]; omega), List.getElem?_replicate, if_pos (by omega), at1 i _ (by omega), if_pos h2]
    · rw [List.getElem?_append_right (by rw [List.length_replicate]; omega), List.length_replicate, List.getElem?_drop, show k + c + (i - k - c) = i by omega]
      rcases Nat.lt_or_ge i M with h3 | h3
      · rw [at1 i k h3, at1 i _ h3, if_neg (by omega), if_neg (by omega)]
      · rw [List.getElem?_eq_none (by rw [hl]; exact h3), List.getElem?_eq_none (by rw [List.length_map, tab_len]; exact h3)]
theorem onesV_one (c : Nat) : ∀ u ∈ onesV c, u.oneCell' = true := fun u hu => by rw [(List.mem_replicate.1 hu).2]; rfl
theorem onesV_len (c : Nat) : (onesV c).length = c := List.length_replicate
theorem rowO_len (k M : Nat) : ((rowO k M).map (Value.int .i64)).length = M := by unfold rowO; rw [List.length_map, tab_len]
theorem pkSizeInt : (Tryd.prog.info? 3).map (·.size) = some 1 := by kernel_rfl
theorem row_ones {w : World} {g k M : Nat} (h : RowAt 3 w g (rowO k M)) (hk : k ≤ M) : ∀ j v, (onesV k)[j]? = some v → w.cell? ((⟨g, 0, none⟩ : Addr).add j) = some v := fun j v hv => by
  obtain ⟨hj, hx⟩ := List.getElem?_eq_some_iff.1 hv
  rw [onesV_len] at hj
  have : v = .int .i64 1 := by rw [← hx]; unfold onesV; exact List.getElem_replicate _
  subst this
  rw [Addr.add_lit, Nat.zero_add]
  refine h.cell ?_
  unfold rowO
  rw [tab_at (by omega), if_pos hj]
set_option maxHeartbeats 16000000 in
set_option maxRecDepth 100000 in
theorem repeat_any (xv : Value) (M : Nat) (xm : Int) (w : World) (hx : IsInts w xv [1]) (hxm : xm = (M : Int)) (h1 : 1 ≤ M) (h12 : M ≤ 12) :
    Calls Tryd.prog 26 #[xv, .int .i64 xm] w fun e w' => ∃ s, e = .returned s ∧ IsInts w' s (List.replicate M 1) ∧ Below w.heap.size w w' := by
  obtain ⟨a, cap, rfl, g2, g3, g4⟩ := hx
  obtain ⟨b, off, rfl, hc⟩ := g4.resolve_left (fun e => by cases e)
  have d0 := hc 0 1 rfl
  have m0 : 0 ≤ xm := by omega
  have m1 : xm ≤ 12 := by omega
  have HM := hide (pkMul xm m0 m1 w)
  have hw1 : IntKind.u64.wrap xm = xm := by rw [IntKind.wrap_u64]; omega
  have hw2 : IntKind.i64.wrap xm = xm := by rw [IntKind.wrap_i64]; omega
  have hmk := run_mk xm M hxm (by omega) w
  have HROW := hide (show RowAt 3 (w.alloc (.cells (zeros M) 3)) w.heap.size (rowO 0 M) by rw [rowO_zero]; exact zeros_row w M)
  have HXM := hide hxm
  have D0 := hide d0
  have HBA := hide (below_one w (.cells (zeros M) 3))
  obtain ⟨ln, hln⟩ : ∃ ln : Nat, [(1 : Int)].length = ln := ⟨_, rfl⟩
  have HL := hide (show ln = 1 from hln.symm)
  have HSR := hide (show ∀ j v, (onesV 1)[j]? = some v → (w.alloc (.cells (zeros M) 3)).cell? ((⟨b, off, none⟩ : Addr).add j) = some v from fun j v hv => by
    match j, hv with
    | 0, hv =>
      obtain rfl : Value.int .i64 1 = v := Option.some.inj hv
      rw [Addr.add_lit]
      exact cell_bel HBA.out D0.out)
  clear g4 hc d0 hxm hln
  go_enter Tryd.func26, Tryd.ntmps26
  go_wp2_with (first | (go_at_call 32; refine HM.out.mono ?_; rintro e w' ⟨rfl, hw⟩; rw [hw]) | (show wpList _ _ _ (⟨_, .call { callee := .builtin .copy, args := _, argTypes := _ }, _, _, _, _⟩ :: _) _ _; refine wpList_copy_splice rfl _ _ 23 23 rfl 3 Tryd.underlying23 pkSizeInt _ _ _ _ _ _ rfl rfl w.heap.size 0 ((rowO 0 M).map (Value.int .i64)) 3 HROW.out (onesV 1) ?k1 ?k3 ?k2 (onesV_one 1) w.heap.size w HBA.out (Nat.le_refl _) ?_))
  case k1 => rw [onesV_len]; exact (Nat.min_eq_left h1).symm
  case k3 => exact fun _ j v hv => by have := HSR.out j v hv; rw [Addr.add_lit] at this; exact this
  case k2 => rw [onesV_len, rowO_len]; exact h1
  intro w2 HG2 hb2
  have HR1 := hide (show RowAt 3 w2 w.heap.size (rowO 1 M) by have h := HG2.out; rw [splice_row (by omega), Nat.zero_add] at h; exact h)
  have HB2 := hide hb2
  rw [onesV_len]
  clear HG2 hb2 hmk
  go_wp2
  go_loopw [8] (fun nv wr => ∃ (k : Nat) (xk : Int), 1 ≤ k ∧ k ≤ M ∧ xk = (k : Int) ∧ nv = .int .i64 xk ∧ RowAt 3 wr w.heap.size (rowO k M) ∧ Below w.heap.size w wr) (fun nv _ => M - (intOf nv).toNat)
  case atStart => exact ⟨1, 1, Nat.le_refl _, h1, rfl, rfl, HR1.out, HB2.out⟩
  case round =>
    obtain ⟨k, xk, hk1, hk, hxk, rfl, hrow, hbw⟩ := hrel
    have HRW := hide hrow
    have HBW := hide hbw
    have HXK := hide hxk
    have hx1 : 1 ≤ xk := by omega
    have hx2 : xk ≤ 12 := by omega
    clear hrow hbw hxk
    by_cases hlt : xk < (M : Int)
    · have hxn : xk.toNat = k := by have := HXK.out; omega
      have hkm : k < M := by have := HXK.out; omega
      have hz0 : 0 ≤ xk := by omega
      have hz1 : xk ≤ (M : Int) := by omega
      have hz2 : ¬ M = k := by omega
      go_wp2_with fail
      obtain ⟨c, hc⟩ : ∃ c, Nat.min k (M - k) = c := ⟨_, rfl⟩
      have hc1 : 1 ≤ c := by rw [← hc]; exact Nat.le_min.2 ⟨hk1, by omega⟩
      have hc2 : k + c ≤ M := by
        have h3 : Nat.min k (M - k) ≤ M - k := Nat.min_le_right k (M - k)
        omega
      have hck : c ≤ k := by rw [← hc]; exact Nat.min_le_left k (M - k)
      obtain ⟨cs, hcs⟩ : ∃ x, onesV c = x := ⟨_, rfl⟩
      have hcl : cs.length = c := by rw [← hcs]; exact onesV_len c
      have A1 := hide (show cs.length = Nat.min k (M - k) by rw [hcl, hc])
      have A2 := hide (show 0 < cs.length → (some (⟨w.heap.size, k, none⟩ : Addr)) = some ⟨w.heap.size, k, none⟩ ∧ ∃ ad, (some (⟨w.heap.size, 0, none⟩ : Addr)) = some ad ∧ ∀ j v, cs[j]? = some v → wr.drew.cell? (ad.add j) = some v from fun _ => ⟨rfl, _, rfl, fun j v hv => row_ones (k := k) (M := M) HRW.out.drew (by omega) j v (by
        rw [← hcs] at hv
        obtain ⟨hj, hx⟩ := List.getElem?_eq_some_iff.1 hv
        rw [onesV_len] at hj
        have hv1 : v = .int .i64 1 := by rw [← hx]; unfold onesV; exact List.getElem_replicate _
        rw [hv1]; unfold onesV
        rw [List.getElem?_replicate, if_pos (by omega)])⟩)
      have A3 := hide (show k + cs.length ≤ ((rowO k M).map (Value.int .i64)).length by rw [hcl, rowO_len]; exact hc2)
      have A4 := hide (show Below w.heap.size w wr.drew from below_go HBW.out (below_drewN _ 1))
      have A5 := hide (show wr.drew.heap[w.heap.size]? = some (.cells ((rowO k M).map (Value.int .i64)).toArray 3 (0, 0)) from HRW.out.drew)
      have A6 := hide (show ∀ u ∈ cs, u.oneCell' = true by rw [← hcs]; exact onesV_one c)
      have A7 := hide (show splice ((rowO k M).map (Value.int .i64)) k cs = (rowO (k + c) M).map (Value.int .i64) by rw [← hcs]; exact splice_row hc2)
      have hwr : IntKind.i64.wrap (xk + (c : Int)) = xk + (c : Int) := by rw [IntKind.wrap_i64]; omega
      clear hcs hc
      go_region_law (refine step_copy_splice rfl (.tmp 41) (.tmp 44) 23 23 rfl 3 Tryd.underlying23 pkSizeInt (some ⟨w.heap.size, k, none⟩) (some ⟨w.heap.size, 0, none⟩) (M - k) (M - k) k M (by simp [Act.eval, Act.put]) (by simp [Act.eval, Act.put]) w.heap.size k ((rowO k M).map (Value.int .i64)) 3 A5.out cs A1.out A2.out A3.out A6.out w.heap.size w A4.out (Nat.le_refl _) ?_; intro w3 HG3 hb3)
      have HR3 := hide (show RowAt 3 w3 w.heap.size (rowO (k + c) M) by have h := HG3.out; rw [A7.out] at h; exact h)
      have HB3 := hide hb3
      have HC2 := hide (And.intro hc1 (And.intro hc2 hck))
      clear HG3 hb3 hc2 hc1 hck hcl
      go_wp2
      go_roundw
      case rel => exact ⟨k + c, by omega, HC2.out.2.1, by have := HXK.out; omega, HR3.out, HB3.out⟩
      case measure => have := HXK.out; have := HC2.out; simp [intOf]; omega
    · obtain rfl : k = M := by have := HXK.out; omega
      go_wp2
      exact bodyPost_ret (v := .slice (some ⟨w.heap.size, 0, none⟩) k k) (by simp [results, Tryd.results26, go_sem]) rfl ⟨_, rfl, by rw [← rowO_full]; exact HRW.out.isTab (by unfold maxLen; omega), HBW.out⟩
end Go.Proofs.YtgdggaieekakhagDoor
