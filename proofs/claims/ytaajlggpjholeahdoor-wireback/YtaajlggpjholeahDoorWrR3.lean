/- What MessageFault and MessageOf of the document's answer come to: what is wrong with a message; its bytes. -/
import Derived.Test.YtaajlggpjholeahDoorWrR1
import Derived.Test.YtaajlggpjholeahDoorOwZ
namespace Go.Proofs.YtaajlggpjholeahDoor
open Go.RowKit
/-- A message value. -/
def IsMsg (w : World) (v : Value) (k mi : Int) (b : Mx) : Prop := ∃ s, v = .agg #[.int .i64 k, .int .i64 mi, .int .i64 b.rows, .int .i64 b.cols, s] ∧ IsInts w s b.cells
theorem IsMsg.below {w w' : World} {v : Value} {k mi : Int} {b : Mx} (h : IsMsg w v k mi b) (hb : Below w.heap.size w w') : IsMsg w' v k mi b := by
  obtain ⟨s, h1, h2⟩ := h; exact ⟨s, h1, h2.below hb⟩
theorem IsMsg.shape {w : World} {v : Value} {k mi : Int} {b : Mx} (h : IsMsg w v k mi b) : ∃ a n c, v = .agg #[.int .i64 k, .int .i64 mi, .int .i64 b.rows, .int .i64 b.cols, .slice a n c] := by
  obtain ⟨s, h1, h2⟩ := h
  obtain ⟨a, c, h3, _⟩ := h2
  exact ⟨a, _, c, by rw [h1, h3]⟩
theorem msgF_one {k mi : Int} {b : Mx} (h : k < 1 ∨ 2 < k ∨ mi < 0 ∨ 11 < mi) : 1 = msgF k mi b := by unfold msgF; rw [if_pos h]
theorem msgF_mat {k mi : Int} {b : Mx} (h : ¬ (k < 1 ∨ 2 < k ∨ mi < 0 ∨ 11 < mi)) : fault b = msgF k mi b := by unfold msgF; rw [if_neg h]
set_option maxHeartbeats 4000000 in
set_option maxRecDepth 100000 in
theorem rmsgf_any (v : Value) (k mi : Int) (b : Mx) (w : World) (hv : IsMsg w v k mi b) : Calls Tryd.prog 8 #[v] w fun e w' => e = .returned (.int .i64 (msgF k mi b)) ∧ Below w.heap.size w w' := by
  obtain ⟨s, rfl, hs⟩ := hv
  obtain ⟨r, hr⟩ : ∃ r, b.rows = r := ⟨_, rfl⟩
  obtain ⟨c, hc⟩ : ∃ c, b.cols = c := ⟨_, rfl⟩
  obtain ⟨sa, sk, hse, hs2⟩ := id hs
  obtain ⟨sn, hsn⟩ : ∃ x, b.cells.length = x := ⟨_, rfl⟩
  rw [hsn] at hse
  subst hse
  obtain ⟨s, hse⟩ : ∃ s, s = Value.slice sa sn sk := ⟨_, rfl⟩
  rw [← hse] at hs ⊢
  clear hsn hs2
  have HB := hide (below_one w (.cells #[.int .i64 k, .int .i64 mi, .int .i64 r, .int .i64 c, s] 26))
  have HF := hide (fault_any (.agg #[.int .i64 b.rows, .int .i64 b.cols, s]) b (w.alloc (.cells #[.int .i64 k, .int .i64 mi, .int .i64 r, .int .i64 c, s] 26)) ⟨s, rfl, hs.below HB.out⟩)
  obtain ⟨E, hE⟩ : ∃ E, fault b = E := ⟨_, rfl⟩
  rw [hr, hc, hE] at HF
  have HE := hide hE
  rw [hr, hc]
  subst hse
  clear hs
  by_cases c1 : k < 1
  · have HA := hide (msgF_one (k := k) (mi := mi) (b := b) (.inl c1))
    clear hr hc hE
    go_enter Tryd.func8, Tryd.ntmps8
    go_wp2
    go_ret
    exact ⟨ret_int HA.out, HB.out⟩
  by_cases c2 : 2 < k
  · have HA := hide (msgF_one (k := k) (mi := mi) (b := b) (.inr (.inl c2)))
    clear hr hc hE
    go_enter Tryd.func8, Tryd.ntmps8
    go_wp2
    go_ret
    exact ⟨ret_int HA.out, HB.out⟩
  by_cases c3 : mi < 0
  · have HA := hide (msgF_one (k := k) (mi := mi) (b := b) (.inr (.inr (.inl c3))))
    clear hr hc hE
    go_enter Tryd.func8, Tryd.ntmps8
    go_wp2
    go_ret
    exact ⟨ret_int HA.out, HB.out⟩
  by_cases c4 : 11 < mi
  · have HA := hide (msgF_one (k := k) (mi := mi) (b := b) (.inr (.inr (.inr c4))))
    clear hr hc hE
    go_enter Tryd.func8, Tryd.ntmps8
    go_wp2
    go_ret
    exact ⟨ret_int HA.out, HB.out⟩
  have HA := hide (show E = msgF k mi b by rw [← hE]; exact msgF_mat (by omega))
  clear hr hc hE
  go_enter Tryd.func8, Tryd.ntmps8
  go_wp2_with (go_at_call 25; refine HF.out.mono ?_; rintro e w1 ⟨rfl, hb1⟩)
  go_ret
  exact ⟨ret_int HA.out, bel_on HB.out hb1⟩
/-- The numbers of a message, as ints: its head, and so many of its cells. -/
def nmI (k mi : Int) (b : Mx) (i : Nat) : List Int := [k, mi, b.rows, b.cols] ++ (b.cells.take i).map (fun x => (zig x : Int))
theorem nmI_snoc {k mi : Int} {b : Mx} {i : Nat} {x : Int} (h : b.cells[i]? = some x) : nmI k mi b (i + 1) = nmI k mi b i ++ [(zig x : Int)] := by
  unfold nmI
  rw [List.take_add_one, h]
  simp
theorem nmI_len {k mi : Int} {b : Mx} {i : Nat} (h : i ≤ b.cells.length) : (nmI k mi b i).length = i + 4 := by
  unfold nmI
  rw [List.length_append, List.length_map, List.length_take]
  simp
  omega
theorem nmI_all {k mi : Int} {b : Mx} (h : msgF k mi b = 0) : nmI k mi b b.cells.length = (headN k mi b ++ cellN b).map (fun (n : Nat) => (n : Int)) := by
  unfold nmI
  rw [List.map_append, head_cast h, List.take_length]
  unfold cellN
  rw [List.map_map]
  rfl
theorem zig_cast (x : Int) : (zig x : Int) = if 0 ≤ x then 2 * x else -2 * x - 1 := by
  unfold zig
  split <;> omega
theorem wr_take {l : List Nat} {i n : Nat} (h : l[i]? = some n) : wrNs (l.take (i + 1)) = wrNs (l.take i) ++ sev n := by
  rw [List.take_add_one, h, wr_app]
  simp [wrNs]
theorem wr_len (l : List Nat) : (wrNs l).length ≤ 9 * l.length := by
  induction l with
  | nil => simp [wrNs]
  | cons n t ih =>
    have e : wrNs (n :: t) = sev n ++ wrNs t := by simp [wrNs]
    have := sevF_len 9 n
    rw [e, List.length_append, List.length_cons]
    unfold sev
    omega
def wrI (l : List Nat) (i : Nat) : List Int := wrNs (l.take i)
set_option maxHeartbeats 16000000 in
set_option maxRecDepth 100000 in
theorem rmsgof_any (v : Value) (k mi : Int) (b : Mx) (w : World) (hv : IsMsg w v k mi b) (hm : msgF k mi b = 0) : Calls Tryd.prog 10 #[v] w fun e w' => ∃ s, e = .returned s ∧ OwnY w' w.heap.size s (msgB k mi b) ∧ Below w.heap.size w w' := by
  obtain ⟨_, _, _, _, hf0⟩ := msgF_in hm
  obtain ⟨⟨r1, r2, r3, r4⟩, hcl, hce⟩ := fault_zero hf0
  have hrc := rc_bd b.rows b.cols ⟨r1, r2, r3, r4⟩
  obtain ⟨s, rfl, hs⟩ := hv
  obtain ⟨r, hr⟩ : ∃ r, b.rows = r := ⟨_, rfl⟩
  obtain ⟨c, hc⟩ : ∃ c, b.cols = c := ⟨_, rfl⟩
  obtain ⟨a, cap, rfl, h2, h3, h4⟩ := hs
  obtain ⟨n, hn⟩ : ∃ n, b.cells.length = n := ⟨_, rfl⟩
  have hn288 : n ≤ 288 := by omega
  have H4 := hide h4
  have HCE := hide hce
  have HN := hide hn
  have HALL := hide (nmI_all hm)
  have HOKN := hide (msg_okN hm)
  obtain ⟨e0, he0, hz0, hz1, hz2⟩ := info_parts infoInt
  have HEI := hide (And.intro he0 (And.intro hz0 (And.intro hz1 hz2)))
  have HI0 := hide (show nmI k mi b 0 = [k, mi, r, c] by unfold nmI; rw [List.take_zero, hr, hc]; rfl)
  rw [hn] at h2 HALL ⊢
  rw [hr, hc]
  have HB0 := hide (below_one w (.cells #[.int .i64 k, .int .i64 mi, .int .i64 r, .int .i64 c, .slice a n cap] 26))
  have HM0 := hide (show ∀ W, Below (w.alloc (.cells #[.int .i64 k, .int .i64 mi, .int .i64 r, .int .i64 c, .slice a n cap] 26)).heap.size (w.alloc (.cells #[.int .i64 k, .int .i64 mi, .int .i64 r, .int .i64 c, .slice a n cap] 26)) W → W.cell? ⟨w.heap.size, 4, none⟩ = some (.slice a n cap) from fun W hb => by
    refine (hb.cell ?_).trans ?_
    · rw [World.size_alloc]; exact Nat.lt_succ_self _
    · simp)
  obtain ⟨W0, hW0⟩ : ∃ x, x = w.alloc (.cells #[.int .i64 k, .int .i64 mi, .int .i64 r, .int .i64 c, .slice a n cap] 26) := ⟨_, rfl⟩
  have HOZ := hide (show OwnZ (W0.alloc (.cells #[.int .i64 k, .int .i64 mi, .int .i64 r, .int .i64 c] 3)) W0.heap.size (.slice (some ⟨W0.heap.size, 0, none⟩) 4 4) [k, mi, r, c] from ⟨by simp, .inr ⟨W0.heap.size, 4, _, rfl, Nat.le_refl _, heap_alloc_new W0 _, Nat.le_refl _, by unfold maxLen; omega, by simp, by simp⟩⟩)
  rw [← hW0] at HB0 HM0
  have HW0 := hide hW0
  clear h4 hcl hce hrc hr hc hn hm hf0 hW0 he0 hz0 hz1 hz2 r1 r2 r3 r4
  go_enter Tryd.func10, Tryd.ntmps10
  go_wp2
  rw [← HW0.out]
  go_loopw [3, 4, 5] (fun lv iv _ wr => ∃ (i : Nat) (xi : Int), i ≤ n ∧ xi = (i : Int) ∧ iv = .int .i64 xi ∧ OwnZ wr W0.heap.size lv (nmI k mi b i) ∧ Below W0.heap.size W0 wr) (fun _ iv _ _ => n - (intOf iv).toNat)
  case atStart => exact ⟨0, 0, Nat.zero_le _, rfl, rfl, by rw [HI0.out]; first | exact HOZ.out | (have := HOZ.out; simpa [HW0.out] using this), below_one _ _⟩
  case round =>
    obtain ⟨i, xi, hi, hxi, rfl, hro, hbw⟩ := hrel
    have HRO := hide hro
    have HBW := hide hbw
    have HXI := hide hxi
    have hx0 : 0 ≤ xi := by omega
    have hx1 : xi ≤ 288 := by omega
    obtain ⟨la, lk, hle⟩ := hro.shape
    obtain ⟨ln, hln⟩ : ∃ x, (nmI k mi b i).length = x := ⟨_, rfl⟩
    have hl292 : ln ≤ 292 := by rw [← hln, nmI_len (by rw [HN.out]; exact hi)]; omega
    rw [hln] at hle
    subst hle
    have HLN := hide hln
    have hm4 := HM0.out wr hbw
    clear hro hbw hxi hln
    by_cases hlt : xi < (n : Int)
    · obtain ⟨x, hx⟩ : ∃ x, b.cells[i]? = some x := ⟨_, List.getElem?_eq_getElem (by rw [HN.out]; have := HXI.out; omega)⟩
      obtain ⟨b1, o1, ha1, hc1⟩ := H4.out.resolve_left (fun e => by rw [e] at hx; simp at hx)
      subst ha1
      have hbl := bel_on HB0.out HBW.out
      have d1 := (hbl.cell (World.block_lt_of_cell? w _ (hc1 i x hx))).trans (hc1 i x hx)
      rw [show i = xi.toNat by have := HXI.out; omega] at d1
      obtain ⟨e1, e2⟩ := HCE.out x (List.mem_of_getElem? hx)
      have HSN := hide (nmI_snoc (k := k) (mi := mi) hx)
      have HZC := hide (zig_cast x)
      clear hc1 hx hbl
      by_cases c1 : 0 ≤ x
      · obtain ⟨y, hy⟩ : ∃ y, 2 * x = y := ⟨_, rfl⟩
        have hwy : IntKind.i64.wrap (2 * x) = y := by rw [hy, IntKind.wrap_i64]; omega
        have HY := hide (show (zig x : Int) = y by rw [HZC.out, if_pos c1, hy])
        clear hy
        go_wp2_with (at_builtin; refine wpList_append_own _ rfl _ _ 22 rfl W0.heap.size 3 e0 (.int .i64 0) 1 8 Tryd.underlying22 HEI.out.1 HEI.out.2.1 HEI.out.2.2.1 HEI.out.2.2.2 rfl (by decide) (.slice la ln lk) _ _ rfl (HRO.out.alloc _) ⟨_, 0, none⟩ 1 1 [.int .i64 y] rfl rfl (one_cells _ _) (one_one _) ?c3 ?c4 ?c5 ?_)
        case c3 => have := HLN.out; unfold maxLen; omega
        case c4 => have := HLN.out; omega
        case c5 => have h1 := HBW.out.size; first | omega | (simp; omega)
        intro v' w2 hown' hg _
        have HO2 := hide (show OwnZ w2 W0.heap.size v' (nmI k mi b (i + 1)) by rw [HSN.out, HY.out]; exact OwnZ.step hown')
        have HB2 := hide (show Below W0.heap.size W0 w2 from (bel_on HBW.out (below_one _ _)).grown hg (by rw [World.size_alloc]; have h1 := HBW.out.size; omega) (fun q hq => (World.ownsRow.lt HRO.out q hq).1))
        clear hown' hg
        go_wp2
        go_roundw
        case rel => exact ⟨i + 1, _, by have := HXI.out; omega, by have := HXI.out; omega, rfl, HO2.out, HB2.out⟩
        case measure => have := HXI.out; simp [intOf]; omega
      · obtain ⟨y, hy⟩ : ∃ y, -2 * x - 1 = y := ⟨_, rfl⟩
        have hwy0 : IntKind.i64.wrap (-2 * x) = -2 * x := by rw [IntKind.wrap_i64]; omega
        have hwy : IntKind.i64.wrap (-2 * x - 1) = y := by rw [hy, IntKind.wrap_i64]; omega
        have HY := hide (show (zig x : Int) = y by rw [HZC.out, if_neg c1, hy])
        clear hy
        go_wp2_with (at_builtin; refine wpList_append_own _ rfl _ _ 22 rfl W0.heap.size 3 e0 (.int .i64 0) 1 8 Tryd.underlying22 HEI.out.1 HEI.out.2.1 HEI.out.2.2.1 HEI.out.2.2.2 rfl (by decide) (.slice la ln lk) _ _ rfl (HRO.out.alloc _) ⟨_, 0, none⟩ 1 1 [.int .i64 y] rfl rfl (one_cells _ _) (one_one _) ?c3 ?c4 ?c5 ?_)
        case c3 => have := HLN.out; unfold maxLen; omega
        case c4 => have := HLN.out; omega
        case c5 => have h1 := HBW.out.size; first | omega | (simp; omega)
        intro v' w2 hown' hg _
        have HO2 := hide (show OwnZ w2 W0.heap.size v' (nmI k mi b (i + 1)) by rw [HSN.out, HY.out]; exact OwnZ.step hown')
        have HB2 := hide (show Below W0.heap.size W0 w2 from (bel_on HBW.out (below_one _ _)).grown hg (by rw [World.size_alloc]; have h1 := HBW.out.size; omega) (fun q hq => (World.ownsRow.lt HRO.out q hq).1))
        clear hown' hg
        go_wp2
        go_roundw
        case rel => exact ⟨i + 1, _, by have := HXI.out; omega, by have := HXI.out; omega, rfl, HO2.out, HB2.out⟩
        case measure => have := HXI.out; simp [intOf]; omega
    · obtain rfl : i = n := by have := HXI.out; omega
      obtain ⟨U, hU⟩ : ∃ U, U = wr := ⟨_, rfl⟩
      subst hU
      obtain ⟨nums, hnums⟩ : ∃ x, headN k mi b ++ cellN b = x := ⟨_, rfl⟩
      have HII := hide HRO.out.isInts
      rw [HALL.out, hnums] at HII
      have HNL := hide (show nums.length = ln by
        have h1 := HLN.out
        rw [HALL.out, hnums, List.length_map] at h1
        exact h1)
      have HON := hide (show ∀ m ∈ nums, okN m from fun m hm => by
        rw [← hnums] at hm
        rcases List.mem_append.1 hm with q | q
        · exact HOKN.out.1 m q
        · exact HOKN.out.2 m q)
      have HNU := hide (show bodyB k mi b = wrNs nums by unfold bodyB; rw [hnums])
      obtain ⟨qa, qk, hqe, q2, q3, q4⟩ := HII.out
      have hqa := (Value.slice.inj hqe).1
      have hqk := (Value.slice.inj hqe).2.2
      subst hqa hqk
      have HQ4 := hide q4
      have hlnk : ln ≤ lk := by rw [List.length_map, HNL.out] at q2; exact q2
      clear hqe q2 q3 q4 hnums
      go_wp2
      clear hm4
      go_loopw [6, 7, 8] (fun ov jv _ w2 => ∃ (j : Nat) (xj : Int), j ≤ ln ∧ xj = (j : Int) ∧ jv = .int .i64 xj ∧ OwnY w2 U.heap.size ov (wrI nums j) ∧ Below U.heap.size U w2) (fun _ jv _ _ => ln - (intOf jv).toNat)
      case atStart => exact ⟨0, 0, Nat.zero_le _, rfl, rfl, OwnY.nil _ _, Below.refl _ _⟩
      case round =>
        obtain ⟨j, xj, hj, hxj, rfl, hro, hbw⟩ := hrel
        have HRY := hide hro
        have HB2 := hide hbw
        have HXJ := hide hxj
        have hj0 : 0 ≤ xj := by omega
        have hj1 : xj ≤ 292 := by omega
        obtain ⟨oa, ok, hoe⟩ := hro.shape
        obtain ⟨on, hon⟩ : ∃ x, (wrI nums j).length = x := ⟨_, rfl⟩
        have hon3 : on ≤ 2628 := by
          rw [← hon]
          have := wr_len (nums.take j)
          rw [List.length_take] at this
          unfold wrI
          omega
        rw [hon] at hoe
        subst hoe
        have HOL := hide hon
        clear hro hbw hxj hon
        by_cases hlt2 : xj < (ln : Int)
        · obtain ⟨N, hN⟩ : ∃ N, nums[j]? = some N := ⟨_, List.getElem?_eq_getElem (by rw [HNL.out]; have := HXJ.out; omega)⟩
          obtain ⟨X, hX⟩ : ∃ X : Int, X = (N : Int) := ⟨_, rfl⟩
          have hat : (nums.map (fun (n : Nat) => (n : Int)))[j]? = some X := by rw [List.getElem?_map, hN, hX]; rfl
          obtain ⟨b1, o1, ha1, hc1⟩ := HQ4.out.resolve_left (fun e => by rw [e] at hat; simp at hat)
          subst ha1
          have d1 := (HB2.out.cell (World.block_lt_of_cell? U _ (hc1 j X hat))).trans (hc1 j X hat)
          rw [show j = xj.toNat by have := HXJ.out; omega] at d1
          have HSV := hide (rseven_any 9 N X wr hX (HON.out N (List.mem_of_getElem? hN)) (by decide) (by decide))
          have HWT := hide (show wrI nums (j + 1) = wrI nums j ++ sev N from wr_take hN)
          have HSL := hide (sevF_len 9 N)
          clear hc1 hat hN hX
          go_wp2_with fail
          refine HSV.out.mono ?_
          rintro e w3 ⟨s3, rfl, ho3, hb3⟩
          have HO3 := hide ho3
          have HB3 := hide hb3
          obtain ⟨ta, tk, hte⟩ := ho3.shape
          obtain ⟨tn, htn⟩ : ∃ x, (sevF 9 N).length = x := ⟨_, rfl⟩
          rw [htn] at hte
          subst hte
          clear ho3 hb3 htn HSV
          go_wp2_with (at_builtin; refine app_bys (w := w3) rfl _ _ rfl U.heap.size (.slice oa on ok) (.slice ta tn tk) (wrI nums j) (sevF 9 N) rfl (HRY.out.below HB3.out) rfl HO3.out.isBys HO3.out.nilOk ?h1 ?h2 ?_)
          case h1 => have h1 := HOL.out; have h2 := HSL.out; omega
          case h2 => exact Nat.le_trans HB2.out.size HB3.out.size
          intro v' w4 hown hgr
          have HO4 := hide (show OwnY w4 U.heap.size v' (wrI nums (j + 1)) by rw [HWT.out]; exact hown)
          have HB4 := hide (hgr U (bel_on HB2.out HB3.out) (Nat.le_refl _))
          clear hown hgr
          go_wp2
          go_roundw
          case rel => exact ⟨j + 1, _, by have := HXJ.out; omega, by have := HXJ.out; omega, rfl, HO4.out, HB4.out⟩
          case measure => have := HXJ.out; simp [intOf]; omega
        · have HWA := hide (show wrI nums j = bodyB k mi b by
            unfold wrI
            rw [HNU.out, List.take_of_length_le (by rw [HNL.out]; have := HXJ.out; omega)])
          rw [HWA.out] at HRY
          have HSU := hide (rsums_any (.slice oa on ok) (bodyB k mi b) wr HRY.out.isBys (by rw [← HWA.out, HOL.out]; omega))
          go_wp2_with fail
          refine HSU.out.mono ?_
          rintro e w3 ⟨s3, rfl, ho3, hb3⟩
          have HO3 := hide ho3
          have HB3 := hide hb3
          obtain ⟨ta, tk, hte⟩ := ho3.shape
          rw [sumsG_len] at hte
          subst hte
          clear ho3 hb3 HSU
          go_wp2_with (at_builtin; refine app_bys (w := w3) rfl _ _ rfl U.heap.size (.slice oa on ok) (.slice ta 2 tk) (bodyB k mi b) (sumsG 0 0 (bodyB k mi b)) rfl (HRY.out.below HB3.out) rfl HO3.out.isBys HO3.out.nilOk ?h1 ?h2 ?_)
          case h1 => rw [sumsG_len, ← HWA.out, HOL.out]; omega
          case h2 => exact Nat.le_trans HB2.out.size HB3.out.size
          intro v' w4 hown hgr
          have HBU := hide (bel_on HB0.out HBW.out)
          have HR := hide (show OwnY w4 w.heap.size v' (msgB k mi b) ∧ Below w.heap.size w w4 from ⟨hown.base HBU.out.size, bel_on HBU.out (hgr U (bel_on HB2.out HB3.out) (Nat.le_refl _))⟩)
          clear hown hgr
          go_wp2
          exact bodyPost_ret (v := v') (by simp [results, Tryd.results10, go_sem]) rfl ⟨_, rfl, HR.out.1, HR.out.2⟩
end Go.Proofs.YtaajlggpjholeahDoor
