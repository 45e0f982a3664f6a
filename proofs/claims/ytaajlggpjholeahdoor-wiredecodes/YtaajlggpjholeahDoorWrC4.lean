/- What number and numbers of package wire's reader come to. -/
import Derived.Test.YtaajlggpjholeahDoorWrC2
namespace Go.Proofs.YtaajlggpjholeahDoor
open Go.RowKit
theorem bys_part {w : World} {a : Option Addr} {cap : Nat} {zs : List Int} (h2 : zs.length ≤ cap) (h3 : cap ≤ maxLen) (h5 : ∀ x ∈ zs, 0 ≤ x ∧ x < 256) (h4 : zs = [] ∨ ∃ b off, a = some ⟨b, off, none⟩ ∧ ∀ i x, zs[i]? = some x → w.cell? ⟨b, off + i, none⟩ = some (.int .u8 x)) (l : Nat) (hm : l ≤ zs.length) :
    IsBys w (.slice (if cap = l then a else a.map (·.add (l * 1))) (zs.length - l) (cap - l)) (zs.drop l) := by
  have hll : (zs.drop l).length = zs.length - l := List.length_drop
  refine ⟨_, _, by rw [hll], by rw [hll]; omega, by omega, fun x hx => h5 x (List.mem_of_mem_drop hx), ?_⟩
  rcases Nat.eq_zero_or_pos (zs.length - l) with hC | hC
  · exact .inl (by apply List.eq_nil_of_length_eq_zero; omega)
  · obtain ⟨b, off, rfl, hc⟩ := h4.resolve_left (fun e => by rw [e] at hC; simp at hC)
    refine .inr ⟨b, off + l, ?_, fun j x hx => ?_⟩
    · rw [if_neg (by omega)]
      show some (Addr.add _ _) = _
      rw [Addr.add_lit, Nat.mul_one]
    · rw [List.getElem?_drop] at hx
      rw [Nat.add_assoc]
      exact hc _ _ hx
/-- The bytes from some place on. -/
theorem by_l {w : World} {a : Option Addr} {n cap : Nat} {l : List Int} (h : IsBys w (.slice a n cap) l) (m : Nat) (lo : Int) (hlo : lo = (m : Int)) (hm : m ≤ l.length) :
    ∃ a' n' c', (∀ W, (Instr.slice 27 (.slice a n cap) (some (.int .i64 lo)) none none).run Tryd.prog W = .ok (.slice a' n' c') W) ∧ IsBys w (.slice a' n' c') (l.drop m) := by
  obtain ⟨a0, cap0, e, h2, h3, h5, h4⟩ := h
  injection e with e1 e2 e3
  subst e1 e2 e3
  have q1 : lo.toNat = m := by omega
  refine ⟨_, _, _, fun W => ?_, bys_part h2 h3 h5 h4 m hm⟩
  rw [run_slice_l (P := Tryd.prog) (w := W) 27 a l.length cap elemBy .i64 lo (by omega) (by omega), sizeBy, q1]
  rfl
/-- All old blocks but one are kept. -/
theorem grw_trans {w w1 w2 : World} {B : Nat} {row : Option Nat} (h : w.grownBy w1 (some B)) (hg : w1.grownBy w2 row) (hr : ∀ k, row = some k → w.heap.size ≤ k ∨ k = B) : w.grownBy w2 (some B) :=
  ⟨hg.os.trans h.os, hg.tape.trans h.tape, hg.output.trans h.output, Nat.le_trans h.size hg.size, fun k hk hne => (hg.block k (Nat.lt_of_lt_of_le hk h.size) (fun e => by rcases hr k e.symm with q | q; omega; exact hne (by rw [q]))).trans (h.block k hk hne)⟩
def NumEnd (w w' : World) (B : Nat) (v : Value) (l : List Int) (a : Nat) (e : Ending) : Prop := w.grownBy w' (some B) ∧ match rd1 (l.drop a) with
  | none => ∃ x, e = .returned (.tuple #[.int .i64 x, .bool false])
  | some (x, t) => e = .returned (.tuple #[.int .i64 x, .bool true]) ∧ ∃ a', a' ≤ l.length ∧ t = l.drop a' ∧ WBk w' B #[v, .int .i64 (a' : Int)] 67
set_option maxHeartbeats 8000000 in
set_option maxRecDepth 100000 in
theorem wnumber_any (v : Value) (l : List Int) (B a : Nat) (xa : Int) (w : World) (hv : IsBys w v l) (hB : WBk w B #[v, .int .i64 xa] 67) (hxa : xa = (a : Int)) (ha : a ≤ l.length) : Calls Tryd.prog 50 #[.pointer (some ⟨B, 0, none⟩)] w (fun e w' => NumEnd w w' B v l a e) := by
  obtain ⟨T, hT⟩ : ∃ T, l.drop a = T := ⟨_, rfl⟩
  have HT := hide hT
  have HLA := hide (And.intro hxa ha)
  have hlen := hv.len
  unfold maxLen at hlen
  have hx0 : 0 ≤ xa := by omega
  have hx1 : xa ≤ (l.length : Int) := by omega
  have HLL := hide hlen
  obtain ⟨va, vn, vk, rfl⟩ : ∃ a n k, v = .slice a n k := by obtain ⟨a, k, h⟩ := hv.shape; exact ⟨a, _, k, h⟩
  obtain ⟨ra, rn, rk, hsl, hri⟩ := by_l hv a xa hxa ha
  rw [hT] at hri
  have HTL := hide (show rn = T.length by obtain ⟨_, _, e, _⟩ := hri; injection e)
  obtain ⟨m, hm⟩ : ∃ m : Int, (if (rn : Int) < 9 then (rn : Int) else 9) = m := ⟨_, rfl⟩
  have HM := hide (show m = ((min 9 T.length : Nat) : Int) by rw [← hm, HTL.out]; split <;> omega)
  obtain ⟨fa, fn, fk, hsf, hfi⟩ := by_h hri (min 9 T.length) m HM.out (by omega)
  have HFN := hide (show fn = min 9 T.length by obtain ⟨_, _, e, _⟩ := hfi; injection e with _ e2; rw [e2, List.length_take]; omega)
  obtain ⟨_, _, e, g2, g3, g5, g4⟩ := hfi
  injection e with e1 e2 e3
  subst e1 e3
  have G4 := hide g4
  have G5 := hide g5
  have hf9 : fn ≤ 9 := by rw [HFN.out]; omega
  have HBK := hide hB
  have c0 := hB.c (i := 0) rfl
  have c1 := hB.c (i := 1) rfl
  have f1 := hB.f 1
  obtain ⟨E, hE⟩ : ∃ E, rd1 T = E := ⟨_, rfl⟩
  have HE := hide hE
  have HEND := hide (show ∀ w' e, (w.grownBy w' (some B) ∧ match E with
      | none => ∃ x, e = .returned (.tuple #[.int .i64 x, .bool false])
      | some (x, t) => e = .returned (.tuple #[.int .i64 x, .bool true]) ∧ ∃ a', a' ≤ l.length ∧ t = l.drop a' ∧ WBk w' B #[.slice va vn vk, .int .i64 (a' : Int)] 67) → NumEnd w w' B (.slice va vn vk) l a e from fun w' e h => by
    unfold NumEnd; rw [hT, hE]; exact h)
  clear hT hxa ha hlen hri hB hE g2 g3 g4 g5 e2 hv
  go_enter Tryd.func50, Tryd.ntmps50
  go_wp2
  go_region
  go_wp2
  go_loopw [5, 6, 7, 23] (fun xv _ _ iv wr => ∃ (k : Nat) (xi x : Int), k ≤ fn ∧ xi = (k : Int) ∧ iv = .int .i64 xi ∧ xv = .int .i64 x ∧ wr = w.drew ∧ 0 ≤ x ∧ x < 128 ^ k ∧ E = rdB (9 - k) (k == 0) (128 ^ k) x (T.drop k)) (fun _ _ _ iv _ => 9 - (intOf iv).toNat)
  case atStart => exact ⟨0, 0, 0, Nat.zero_le _, rfl, rfl, rfl, rfl, by omega, by simp, by rw [← HE.out]; rfl⟩
  case round =>
    obtain ⟨k, xi, x, hk, hxi, rfl, rfl, hw, hxx0, hxx1, hs⟩ := hrel
    subst hw
    have HXI := hide hxi
    have HS := hide hs
    have HX1 := hide hxx1
    have hi0 : 0 ≤ xi := by omega
    have hi9 : xi ≤ 9 := by omega
    clear hxi hs hxx1
    by_cases hlt : xi < (fn : Int)
    · have hkl : k < T.length := by have := HFN.out; have := HXI.out; omega
      have hk8 : k ≤ 8 := by have := HXI.out; omega
      obtain ⟨d, hd⟩ : ∃ d, T[k]? = some d := ⟨_, List.getElem?_eq_getElem hkl⟩
      have hdf : (T.take (min 9 T.length))[k]? = some d := by rw [List.getElem?_take_of_lt (by omega)]; exact hd
      obtain ⟨d0, d1⟩ := G5.out d (List.mem_of_getElem? hdf)
      obtain ⟨b1, o1, ha1, hc1⟩ := G4.out.resolve_left (fun e => by rw [e] at hdf; simp at hdf)
      subst ha1
      have c3 := hc1 k d hdf
      rw [show k = xi.toNat by have := HXI.out; omega] at c3
      have HD := hide (show T.drop k = d :: T.drop (k + 1) by
        obtain ⟨hi, e⟩ := List.getElem?_eq_some_iff.1 hd
        rw [List.drop_eq_getElem_cons hi, e])
      have hP := pow_pos128 k
      have hP8 := pow_le128 hk8
      rw [Int.pow_succ] at hP8
      obtain ⟨P, hPe⟩ : ∃ P, (128 : Int) ^ k = P := ⟨_, rfl⟩
      have hxP := HX1.out
      rw [hPe] at hP hP8 hxP
      obtain ⟨S, hS⟩ : ∃ S, d % 128 * P = S := ⟨_, rfl⟩
      have hS0 : 0 ≤ S := by rw [← hS]; exact Int.mul_nonneg (by omega) (by omega)
      have hS1 : S ≤ 127 * P := by rw [← hS]; exact Int.mul_le_mul_of_nonneg_right (by omega) (by omega)
      have hpw : (2 : Int) ^ (7 * xi).toNat = P := by rw [show (7 * xi).toNat = 7 * k by have := HXI.out; omega, pow27, hPe]
      have hsh : IntKind.i64.wrap (d % 128 * 2 ^ (7 * xi).toNat) = S := by rw [hpw, hS, IntKind.wrap_i64]; omega
      obtain ⟨Y, hY⟩ : ∃ Y, x + S = Y := ⟨_, rfl⟩
      have had : IntKind.i64.wrap (x + S) = Y := by rw [hY, IntKind.wrap_i64]; omega
      have HST := hide (show E = if d < 128 then (if d = 0 ∧ (k == 0) = false then none else some (Y, T.drop (k + 1))) else rdB (9 - (k + 1)) false (128 ^ (k + 1)) Y (T.drop (k + 1)) by
        rw [HS.out, HD.out, show 9 - k = (9 - (k + 1)) + 1 by omega, rdB, hPe, hS, hY, Int.pow_succ, hPe])
      have HYB := hide (show 0 ≤ Y ∧ Y < 128 ^ (k + 1) by rw [Int.pow_succ, hPe]; omega)
      have HDR := hide (show T.drop (k + 1) = l.drop (a + (k + 1)) ∧ a + (k + 1) ≤ l.length by
        have h1 : T.length = l.length - a := by rw [← HT.out, List.length_drop]
        refine ⟨by rw [← HT.out, List.drop_drop], by omega⟩)
      have hxb : xa + (xi + 1) ≤ 9223372036854775807 := by have := HLL.out; have := HDR.out.2; have := HXI.out; have := HLA.out.1; omega
      clear hc1 hd hdf hkl hPe hxP hS hpw hY hP hP8 hS0 hS1
      by_cases e1 : d < 128
      · have HGR := hide (show w.grownBy ((w.drew).setCell ⟨B, 1, none⟩ (.int .i64 (xa + (xi + 1)))) (some B) from grw_trans (w1 := w.drew) ⟨rfl, rfl, rfl, Nat.le_refl _, fun _ _ _ => rfl⟩ (grw_set w.drew B 1 _) (fun k e => .inr (Option.some.inj e).symm))
        have HWB := hide (show WBk ((w.drew).setCell ⟨B, 1, none⟩ (.int .i64 (xa + (xi + 1)))) B #[.slice va vn vk, .int .i64 ((a + (k + 1) : Nat) : Int)] 67 by
          rw [show ((a + (k + 1) : Nat) : Int) = xa + (xi + 1) by have := HXI.out; have := HLA.out.1; omega]
          exact WBk.set (w := w.drew) HBK.out 1 _)
        by_cases e2 : d = 0
        · by_cases e3 : 0 < xi
          · have HN := hide (show E = none by rw [HST.out, if_pos e1, if_pos ⟨e2, by have := HXI.out; simp; omega⟩])
            have n0 : (xi == 0) = false := by simp; omega
            have n1 : ¬ (0 < d) := by omega
            clear e2
            go_wp2
            exact bodyPost_ret (v := .tuple #[.int .i64 Y, .bool false]) (by simp [results, Tryd.results50, go_sem]) rfl (HEND.out _ _ ⟨HGR.out, by rw [HN.out]; exact ⟨_, rfl⟩⟩)
          · have hk0 : k = 0 := by have := HXI.out; omega
            have HN := hide (show E = some (Y, T.drop (k + 1)) by rw [HST.out, if_pos e1, if_neg (by rintro ⟨_, h⟩; rw [hk0] at h; cases h)])
            have n0 : (xi == 0) = true := by simp; omega
            have n1 : ¬ (0 < d) := by omega
            clear e2
            go_wp2
            exact bodyPost_ret (v := .tuple #[.int .i64 Y, .bool true]) (by simp [results, Tryd.results50, go_sem]) rfl (HEND.out _ _ ⟨HGR.out, by rw [HN.out]; exact ⟨rfl, _, HDR.out.2, HDR.out.1, HWB.out⟩⟩)
        · have HN := hide (show E = some (Y, T.drop (k + 1)) by rw [HST.out, if_pos e1, if_neg (fun h => e2 h.1)])
          have n0 : 0 < d := by omega
          go_wp2
          exact bodyPost_ret (v := .tuple #[.int .i64 Y, .bool true]) (by simp [results, Tryd.results50, go_sem]) rfl (HEND.out _ _ ⟨HGR.out, by rw [HN.out]; exact ⟨rfl, _, HDR.out.2, HDR.out.1, HWB.out⟩⟩)
      · have HN := hide (show E = rdB (9 - (k + 1)) ((k + 1) == 0) (128 ^ (k + 1)) Y (T.drop (k + 1)) by rw [HST.out, if_neg e1]; rfl)
        go_wp2
        go_roundw
        case rel => exact ⟨k + 1, _, _, by have := HXI.out; omega, by have := HXI.out; omega, rfl, rfl, by first | rfl | trivial, HYB.out.1, HYB.out.2, HN.out⟩
        case measure => have := HXI.out; simp [intOf]; omega
    · have HN := hide (show E = none by
        rw [HS.out]
        have := HFN.out; have := HXI.out
        by_cases h9 : k = 9
        · rw [h9]; rfl
        · rw [List.drop_of_length_le (by omega), rdB_nil])
      go_wp2
      exact bodyPost_ret (v := .tuple #[.int .i64 0, .bool false]) (by simp [results, Tryd.results50, go_sem]) rfl (HEND.out _ _ ⟨⟨rfl, rfl, rfl, Nat.le_refl _, fun _ _ _ => rfl⟩, by rw [HN.out]; exact ⟨_, rfl⟩⟩)
theorem OwnZ.keptB {w w' : World} {base B : Nat} {v : Value} {zs : List Int} (h : OwnZ w base v zs) (hg : w.grownBy w' (some B)) (hB : B < base) : OwnZ w' base v zs := by
  refine World.ownsRow.kept h hg ?_
  cases e : v.ownBlock with
  | none => exact .inl rfl
  | some k => exact .inr (fun q => by have := (World.ownsRow.lt h k e).1; have := Option.some.inj q; omega)
theorem OwnZ.nilOk {w : World} {base : Nat} {v : Value} {zs : List Int} (h : OwnZ w base v zs) : NilOk v := by
  obtain ⟨_, h2⟩ := h
  rcases h2 with ⟨rfl, _⟩ | ⟨g, cap, cur, rfl, _⟩
  · intro n k e
    injection e with e1 e2 e3
    exact ⟨e2.symm, e3.symm⟩
  · exact fun n k e => by injection e with e1; cases e1
def NumsEnd (w w' : World) (B : Nat) (v : Value) (l : List Int) (a K : Nat) (e : Ending) : Prop := w.grownBy w' (some B) ∧ match rdNs K (l.drop a) with
  | none => e = .returned (.tuple #[.slice none 0 0, .bool false])
  | some (hs, t) => ∃ s a', e = .returned (.tuple #[s, .bool true]) ∧ OwnZ w' w.heap.size s hs ∧ hs.length = K ∧ (∀ x ∈ hs, 0 ≤ x ∧ x ≤ 9223372036854775807) ∧ a' ≤ l.length ∧ t = l.drop a' ∧ WBk w' B #[v, .int .i64 (a' : Int)] 67
set_option maxHeartbeats 8000000 in
set_option maxRecDepth 100000 in
theorem wnumbers_any (v : Value) (l : List Int) (B a K : Nat) (xa xk : Int) (w0 w : World) (hv : IsBys w0 v l) (h0 : Below w0.heap.size w0 w) (hwB : w0.heap.size ≤ B) (hB : WBk w B #[v, .int .i64 xa] 67) (hxa : xa = (a : Int)) (ha : a ≤ l.length) (hxk : xk = (K : Int)) (hK : K ≤ 288) : Calls Tryd.prog 40 #[.pointer (some ⟨B, 0, none⟩), .int .i64 xk] w (fun e w' => NumsEnd w w' B v l a K e) := by
  obtain ⟨E, hE⟩ : ∃ E, rdNs K (l.drop a) = E := ⟨_, rfl⟩
  have HE := hide hE
  have HEND := hide (show ∀ w' e, (w.grownBy w' (some B) ∧ match E with
      | none => e = .returned (.tuple #[.slice none 0 0, .bool false])
      | some (hs, t) => ∃ s a', e = .returned (.tuple #[s, .bool true]) ∧ OwnZ w' w.heap.size s hs ∧ hs.length = K ∧ (∀ x ∈ hs, 0 ≤ x ∧ x ≤ 9223372036854775807) ∧ a' ≤ l.length ∧ t = l.drop a' ∧ WBk w' B #[v, .int .i64 (a' : Int)] 67) → NumsEnd w w' B v l a K e from fun w' e h => by
    unfold NumsEnd; rw [hE]; exact h)
  have HV := hide hv
  have H0 := hide h0
  have HWB := hide hwB
  have HLT := hide hB.lt
  have HXA := hide hxa
  have HBY := hide (show ∀ d ∈ l, 0 ≤ d ∧ d < 256 by obtain ⟨_, _, _, _, _, h, _⟩ := hv; exact h)
  obtain ⟨e0, he0, hz0, hz1, hz2⟩ := info_parts infoInt
  have HEI := hide (And.intro he0 (And.intro hz0 (And.intro hz1 hz2)))
  have HS0 := hide (show OwnZ (w.alloc (.cells (zeros K) 3)) w.heap.size (.slice (some ⟨w.heap.size, 0, none⟩) 0 K) [] from OwnZ.made w K (by omega))
  have hmk := run_mk0 xk K hxk (by omega)
  have HB0 := hide (show WBk (w.alloc (.cells (zeros K) 3)) B #[v, .int .i64 (a : Int)] 67 by rw [← hxa]; exact hB.kept (below_one _ _))
  have HXK := hide hxk
  have HA := hide ha
  have hk0 : 0 ≤ xk := by omega
  have hk1 : xk ≤ 288 := by omega
  clear hE hv h0 hwB hB hxa hxk ha he0 hz0 hz1 hz2
  go_enter Tryd.func40, Tryd.ntmps40
  go_wp2
  clear hmk
  go_loopw [6, 7, 8, 12] (fun lv _ _ iv wr => ∃ (k b : Nat) (xi : Int) (hs : List Int), k ≤ K ∧ xi = (k : Int) ∧ iv = .int .i64 xi ∧ OwnZ wr w.heap.size lv hs ∧ Came l K k hs b a ∧ (∀ x ∈ hs, 0 ≤ x ∧ x ≤ 9223372036854775807) ∧ b ≤ l.length ∧ WBk wr B #[v, .int .i64 (b : Int)] 67 ∧ w.grownBy wr (some B)) (fun _ _ _ iv _ => K - (intOf iv).toNat)
  case atStart => exact ⟨0, a, 0, [], Nat.zero_le _, rfl, rfl, HS0.out, Came.first _ _ _, (fun x h => by simp at h), HA.out, HB0.out, World.grownBy_alloc _ _ _⟩
  case round =>
    obtain ⟨k, b, xi, hs, hk, hxi, rfl, hown, hcame, hbd, hbl, hbk, hgr⟩ := hrel
    have HO := hide hown
    have HC := hide hcame
    have HBD := hide hbd
    have HGR := hide hgr
    have HXI := hide hxi
    have HBL := hide hbl
    have hi0 : 0 ≤ xi := by omega
    have hi1 : xi ≤ xk := by have := HXK.out; omega
    have HWR := hide (show Below w0.heap.size w0 wr from H0.out.grown hgr H0.out.size (fun k e => by rw [← Option.some.inj e]; exact HWB.out))
    have HNU := hide (wnumber_any v l B b (b : Int) wr (HV.out.below HWR.out) hbk rfl hbl)
    have HBK := hide hbk
    clear hown hcame hbd hgr hxi hbl hbk
    by_cases hlt : xi < xk
    · have hkK : k < K := by have := HXI.out; have := HXK.out; omega
      cases hr : rd1 (l.drop b) with
      | none =>
        have HN := hide (HC.out.no hkK hr)
        rw [HE.out] at HN
        have HR := hide hr
        clear hr
        go_wp2_with (go_at_call 50; refine HNU.out.mono ?_; intro e w2 hnu; obtain ⟨hg2, hnu⟩ := hnu; rw [HR.out] at hnu; obtain ⟨x, rfl⟩ := hnu; have HG2 := hide hg2; clear hg2)
        exact bodyPost_ret (v := .tuple #[.slice none 0 0, .bool false]) (by simp [results, Tryd.results40, go_sem]) rfl (HEND.out _ _ ⟨grw_trans HGR.out HG2.out (fun k e => .inr (Option.some.inj e).symm), by rw [HN.out]⟩)
      | some p =>
        obtain ⟨x, t⟩ := p
        have HX := hide (rd1_at HBY.out hr)
        have HR := hide hr
        clear hr
        go_wp2_with (first
          | (go_at_call 50; refine HNU.out.mono ?_; intro e w2 hnu; obtain ⟨hg2, hnu⟩ := hnu; rw [HR.out] at hnu; obtain ⟨rfl, b', hb', ht', hw'⟩ := hnu; have HG2 := hide hg2; have HB2 := hide (And.intro hb' (And.intro ht' hw')); have HO2 := hide (HO.out.keptB hg2 HLT.out); have HLN := hide HC.out.1; clear hg2 hb' ht' hw')
          | (at_builtin; refine wpList_append_own _ rfl _ _ 22 rfl w.heap.size 3 e0 (.int .i64 0) 1 8 Tryd.underlying22 HEI.out.1 HEI.out.2.1 HEI.out.2.2.1 HEI.out.2.2.2 rfl (by decide) _ _ _ rfl (HO2.out.alloc _) ⟨_, 0, none⟩ 1 1 [.int .i64 x] rfl rfl (one_cells _ _) (one_one _) ?c3 ?c4 ?c5 ?_))
        case c3 => have := HLN.out; unfold maxLen; omega
        case c4 => have := HLN.out; omega
        case c5 => have h1 := HGR.out.size; have h2 := HG2.out.size; first | omega | (simp; omega)
        intro v' w3 hown' hg _
        have HO3 := hide (OwnZ.step hown')
        have HG3 := hide (show w.grownBy w3 (some B) from grw_trans (grw_trans (grw_trans HGR.out HG2.out (fun k e => .inr (Option.some.inj e).symm)) (World.grownBy_alloc _ _ none) (fun k e => by cases e)) hg (fun k e => .inl (World.ownsRow.lt HO2.out k e).1))
        have HB3 := hide (show WBk w3 B #[v, .int .i64 (b' : Int)] 67 from by
          have h1 := HB2.out.2.2.kept (below_one w2 (.cells #[.int .i64 x] 3))
          refine (hg.block B h1.lt (fun e => ?_)).trans h1
          have := (World.ownsRow.lt HO2.out B e.symm).1
          have := HLT.out
          omega)
        have HR2 := hide (show rd1 (l.drop b) = some (x, l.drop b') by rw [← HB2.out.2.1]; exact HR.out)
        clear hown' hg
        go_wp2
        go_roundw
        case rel =>
          refine ⟨k + 1, b', _, hs ++ [x], hkK, by have := HXI.out; omega, rfl, HO3.out, HC.out.next hkK HR2.out, fun y hy => ?_, HB2.out.1, HB3.out, HG3.out⟩
          rcases List.mem_append.1 hy with q | q
          · exact HBD.out y q
          · obtain ⟨_, _, _, _, _, p, q'⟩ := HX.out
            simp at q
            rw [q]
            exact ⟨p, q'⟩
        case measure => have := HXI.out; have := HXK.out; simp [intOf]; omega
    · have hkK : k = K := by have := HXI.out; have := HXK.out; omega
      subst hkK
      have HN := hide (HC.out.done)
      rw [HE.out] at HN
      go_wp2
      exact bodyPost_ret (v := .tuple #[u6, .bool true]) (by simp [results, Tryd.results40, go_sem]) rfl (HEND.out _ _ ⟨HGR.out, by rw [HN.out]; exact ⟨_, b, rfl, HO.out, HC.out.1, HBD.out, HBL.out, rfl, HBK.out⟩⟩)
end Go.Proofs.YtaajlggpjholeahDoor
