/- What Encode of package wire comes to, all of it. -/
import Derived.Test.YtcicocackeimaahDoorWrC2
namespace Go.Proofs.YtcicocackeimaahDoor
open Go.RowKit
/-- The numbers of a message. -/
def numL (k mi : Int) (b : Mx) : List Nat := headN k mi b ++ cellN b
theorem head_at (k mi r c : Int) (W : World) : (Instr.index 47 (.agg #[.int .i64 k, .int .i64 mi, .int .i64 r, .int .i64 c]) (.int .i64 0)).run Tryd.prog W = .ok (.int .i64 k) W ∧ (Instr.index 47 (.agg #[.int .i64 k, .int .i64 mi, .int .i64 r, .int .i64 c]) (.int .i64 1)).run Tryd.prog W = .ok (.int .i64 mi) W ∧ (Instr.index 47 (.agg #[.int .i64 k, .int .i64 mi, .int .i64 r, .int .i64 c]) (.int .i64 2)).run Tryd.prog W = .ok (.int .i64 r) W ∧ (Instr.index 47 (.agg #[.int .i64 k, .int .i64 mi, .int .i64 r, .int .i64 c]) (.int .i64 3)).run Tryd.prog W = .ok (.int .i64 c) W := by
  refine ⟨?_, ?_, ?_, ?_⟩ <;> kernel_rfl
theorem two_bys (w : World) (s0 s1 : Int) (t : TypeId) (h0 : 0 ≤ s0) (h1 : s0 < 255) (h2 : 0 ≤ s1) (h3 : s1 < 255) : IsBys (w.alloc (.cells #[.int .u8 s0, .int .u8 s1] t)) (.slice (some ⟨w.heap.size, 0, none⟩) 2 2) [s0, s1] := by
  refine ⟨_, 2, rfl, Nat.le_refl _, by unfold maxLen; omega, fun x hx => by simp at hx; omega, .inr ⟨w.heap.size, 0, rfl, fun i x hx => ?_⟩⟩
  have hb := WBk.new w #[.int .u8 s0, .int .u8 s1] t
  match i, hx with
  | 0, hx => obtain rfl := Option.some.inj hx; exact hb.c rfl
  | 1, hx => obtain rfl := Option.some.inj hx; exact hb.c rfl
theorem some_nilOk (a : Addr) (n k : Nat) : NilOk (.slice (some a) n k) := by
  intro n k e
  injection e with e1
  cases e1
theorem numL_len {k mi : Int} {b : Mx} : (numL k mi b).length = 4 + b.cells.length := by simp [numL, headN, cellN]; omega
theorem numL_cell {k mi : Int} {b : Mx} {i : Nat} {x : Int} (h : b.cells[i]? = some x) : (numL k mi b)[4 + i]? = some (zig x) := by
  unfold numL
  rw [List.getElem?_append_right (by simp [headN]), show 4 + i - (headN k mi b).length = i by simp [headN]]
  simp [cellN, h]
theorem wrI_len (L : List Nat) (i : Nat) : (wrI L i).length ≤ 9 * i := by
  have := wr_len (L.take i)
  have h2 : (L.take i).length ≤ i := List.length_take_le _ _
  unfold wrI
  omega
theorem wrI_all {L : List Nat} {i : Nat} (h : L.length ≤ i) : wrI L i = wrNs L := by unfold wrI; rw [List.take_of_length_le h]
set_option maxHeartbeats 16000000 in
set_option maxRecDepth 100000 in
theorem wenc_any (v : Value) (k mi : Int) (b : Mx) (w : World) (hv : IsMsg w v k mi b) : Calls Tryd.prog 6 #[v] w (fun e w' => EncEnd w w' k mi b e) := by
  obtain ⟨s, rfl, hs⟩ := id hv
  obtain ⟨r, hr⟩ : ∃ r, b.rows = r := ⟨_, rfl⟩
  obtain ⟨c, hc⟩ : ∃ c, b.cols = c := ⟨_, rfl⟩
  obtain ⟨a, cap, rfl, h2, h3, h4⟩ := hs
  obtain ⟨n, hn⟩ : ∃ n, b.cells.length = n := ⟨_, rfl⟩
  have H4 := hide h4
  have HN := hide hn
  have HRC := hide (And.intro hr hc)
  have HB0 := hide (below_one w (.cells #[.int .i64 k, .int .i64 mi, .int .i64 r, .int .i64 c, .slice a n cap] 26))
  have HCH := hide (wchk_any _ k mi b (w.alloc (.cells #[.int .i64 k, .int .i64 mi, .int .i64 r, .int .i64 c, .slice a n cap] 26)) (hv.below HB0.out))
  have HM0 := hide (Blk5.new w (.int .i64 k) (.int .i64 mi) (.int .i64 r) (.int .i64 c) (.slice a n cap))
  rw [hr, hc, hn] at HCH
  rw [hn] at h2 ⊢
  rw [hr, hc]
  have HSA := hide (show (w.alloc (.cells #[.int .i64 k, .int .i64 mi, .int .i64 r, .int .i64 c, .slice a n cap] 26)).heap.size = w.heap.size + 1 by rw [World.size_alloc])
  clear h4 hv hr hc hn
  by_cases hm : msgF k mi b = 0
  · obtain ⟨k1, k2, m1, m2, hf0⟩ := msgF_in hm
    obtain ⟨⟨r1, r2, r3, r4⟩, hcl, hce⟩ := fault_zero hf0
    have hrc := rc_bd b.rows b.cols ⟨r1, r2, r3, r4⟩
    have hn288 : n ≤ 288 := by have := HN.out; omega
    have HCE := hide hce
    have HOK := hide (show ∀ x ∈ numL k mi b, okN x from fun x hx => by
      rcases List.mem_append.1 hx with q | q
      · exact (msg_okN hm).1 x q
      · exact (msg_okN hm).2 x q)
    have HL := hide (show (numL k mi b).length = 4 + n by rw [numL_len, HN.out])
    have HEN := hide (show errV (msgF k mi b) = .nilIface by rw [hm, err_eq rfl])
    have HX := hide (show encX k mi b = wrNs (numL k mi b) ++ sumsG 0 0 (wrNs (numL k mi b)) by unfold encX; rw [if_pos hm]; rfl)
    have HH := hide (show (numL k mi b)[0]? = some k.toNat ∧ (numL k mi b)[1]? = some mi.toNat ∧ (numL k mi b)[2]? = some r.toNat ∧ (numL k mi b)[3]? = some c.toNat from ⟨rfl, rfl, by rw [← HRC.out.1]; rfl, by rw [← HRC.out.2]; rfl⟩)
    have hr0 : 0 ≤ r := by rw [← HRC.out.1]; exact r1
    have hc0 : 0 ≤ c := by rw [← HRC.out.2]; exact r3
    rw [HEN.out] at HCH
    obtain ⟨L, hL⟩ : ∃ L, numL k mi b = L := ⟨_, rfl⟩
    rw [hL] at HOK HL HX HH
    have HLE := hide hL
    clear hrc hce hcl hf0 hm hL r1 r2 r3 r4
    go_enter Tryd.func6, Tryd.ntmps6
    go_wp2_with (go_at_call 15; refine HCH.out.mono ?_; rintro e w1 ⟨rfl, hb1⟩; have hm1 := HM0.out.bel hb1 HM0.out.lt; obtain ⟨q0, q1, q2, q3, q4⟩ := hm1.c; have HM1 := hide hm1; have HB1 := hide (bel_on HB0.out hb1); clear hm1 hb1)
    go_loopw [5, 7, 27] (fun bv _ iv wr => ∃ (i : Nat) (xi : Int), i ≤ 4 ∧ xi = (i : Int) ∧ iv = .int .i64 xi ∧ OwnY wr w1.heap.size bv (wrI L i) ∧ Below w1.heap.size w1 wr) (fun _ _ iv _ => 4 - (intOf iv).toNat)
    case atStart => exact ⟨0, 0, Nat.zero_le _, rfl, rfl, OwnY.nil _ _, Below.refl _ _⟩
    case round =>
      obtain ⟨i, xi, hi, hxi, rfl, hro, hbw⟩ := hrel
      have HRO := hide hro
      have HBW := hide hbw
      have HXI := hide hxi
      clear hro hbw
      by_cases hlt : xi < 4
      · have h4 : i = 0 ∨ i = 1 ∨ i = 2 ∨ i = 3 := by omega
        clear hxi
        rcases h4 with rfl | rfl | rfl | rfl
        · obtain rfl : xi = 0 := by have := HXI.out; omega
          have HC := hide (wappnum_any u5 (wrI L 0) w1.heap.size k.toNat k wr HRO.out HBW.out.size (by omega) (HOK.out _ (List.mem_of_getElem? HH.out.1)) (by have := wrI_len L 0; omega))
          obtain ⟨i0, i1, i2, i3⟩ := head_at k mi r c wr
          go_wp2_with (go_at_call 16; refine HC.out.mono ?_; rintro e w2 ⟨sv, rfl, ho2, hs2, hb2⟩; have HO2 := hide ho2; have HB2 := hide (hb2 w1 HBW.out (Nat.le_refl _)); clear ho2 hs2 hb2)
          go_wp2
          go_roundw
          case rel => exact ⟨0 + 1, _, by omega, by first | rfl | omega, rfl, by unfold wrI at HO2 ⊢; rw [wr_take HH.out.1]; exact HO2.out, HB2.out⟩
          case measure => simp [intOf]
        · obtain rfl : xi = 1 := by have := HXI.out; omega
          have HC := hide (wappnum_any u5 (wrI L 1) w1.heap.size mi.toNat mi wr HRO.out HBW.out.size (by omega) (HOK.out _ (List.mem_of_getElem? HH.out.2.1)) (by have := wrI_len L 1; omega))
          obtain ⟨i0, i1, i2, i3⟩ := head_at k mi r c wr
          go_wp2_with (go_at_call 16; refine HC.out.mono ?_; rintro e w2 ⟨sv, rfl, ho2, hs2, hb2⟩; have HO2 := hide ho2; have HB2 := hide (hb2 w1 HBW.out (Nat.le_refl _)); clear ho2 hs2 hb2)
          go_wp2
          go_roundw
          case rel => exact ⟨1 + 1, _, by omega, by first | rfl | omega, rfl, by unfold wrI at HO2 ⊢; rw [wr_take HH.out.2.1]; exact HO2.out, HB2.out⟩
          case measure => simp [intOf]
        · obtain rfl : xi = 2 := by have := HXI.out; omega
          have HC := hide (wappnum_any u5 (wrI L 2) w1.heap.size r.toNat r wr HRO.out HBW.out.size (by omega) (HOK.out _ (List.mem_of_getElem? HH.out.2.2.1)) (by have := wrI_len L 2; omega))
          obtain ⟨i0, i1, i2, i3⟩ := head_at k mi r c wr
          go_wp2_with (go_at_call 16; refine HC.out.mono ?_; rintro e w2 ⟨sv, rfl, ho2, hs2, hb2⟩; have HO2 := hide ho2; have HB2 := hide (hb2 w1 HBW.out (Nat.le_refl _)); clear ho2 hs2 hb2)
          go_wp2
          go_roundw
          case rel => exact ⟨2 + 1, _, by omega, by first | rfl | omega, rfl, by unfold wrI at HO2 ⊢; rw [wr_take HH.out.2.2.1]; exact HO2.out, HB2.out⟩
          case measure => simp [intOf]
        · obtain rfl : xi = 3 := by have := HXI.out; omega
          have HC := hide (wappnum_any u5 (wrI L 3) w1.heap.size c.toNat c wr HRO.out HBW.out.size (by omega) (HOK.out _ (List.mem_of_getElem? HH.out.2.2.2)) (by have := wrI_len L 3; omega))
          obtain ⟨i0, i1, i2, i3⟩ := head_at k mi r c wr
          go_wp2_with (go_at_call 16; refine HC.out.mono ?_; rintro e w2 ⟨sv, rfl, ho2, hs2, hb2⟩; have HO2 := hide ho2; have HB2 := hide (hb2 w1 HBW.out (Nat.le_refl _)); clear ho2 hs2 hb2)
          go_wp2
          go_roundw
          case rel => exact ⟨3 + 1, _, by omega, by first | rfl | omega, rfl, by unfold wrI at HO2 ⊢; rw [wr_take HH.out.2.2.2]; exact HO2.out, HB2.out⟩
          case measure => simp [intOf]
      · obtain rfl : xi = 4 := by omega
        obtain rfl : i = 4 := by omega
        have hmw := HM1.out.bel HBW.out HM1.out.lt
        obtain ⟨_, _, _, _, z4⟩ := hmw.c
        clear hmw hi hxi hlt
        go_wp2
        go_loopw [5, 9, 38] (fun bv _ iv wr => ∃ (i : Nat) (xi : Int), i ≤ n ∧ xi = (i : Int) ∧ iv = .int .i64 xi ∧ OwnY wr w1.heap.size bv (wrI L (4 + i)) ∧ Below w1.heap.size w1 wr) (fun _ _ iv _ => n - (intOf iv).toNat)
        case atStart => exact ⟨0, 0, Nat.zero_le _, rfl, rfl, HRO.out, HBW.out⟩
        case round =>
          obtain ⟨i, xi, hi, hxi, rfl, hro, hbw⟩ := hrel
          have HRZ := hide hro
          have HBZ := hide hbw
          have HXI := hide hxi
          have hx0 : 0 ≤ xi := by omega
          have hx1 : xi ≤ 288 := by omega
          clear hro hbw hxi
          by_cases hlt : xi < (n : Int)
          · obtain ⟨x, hx⟩ : ∃ x, b.cells[i]? = some x := ⟨_, List.getElem?_eq_getElem (by rw [HN.out]; have := HXI.out; omega)⟩
            obtain ⟨b1, o1, ha1, hc1⟩ := H4.out.resolve_left (fun e => by rw [e] at hx; simp at hx)
            subst ha1
            have hbl := bel_on HB1.out HBZ.out
            have d1 := (hbl.cell (World.block_lt_of_cell? w _ (hc1 i x hx))).trans (hc1 i x hx)
            rw [show i = xi.toNat by have := HXI.out; omega] at d1
            obtain ⟨e1, e2⟩ := HCE.out x (List.mem_of_getElem? hx)
            have HG := hide (show L[4 + i]? = some (zig x) by rw [← HLE.out]; exact numL_cell hx)
            have HC := hide (wappnum_any u5 (wrI L (4 + i)) w1.heap.size (zig x) (zig x : Int) wr HRZ.out HBZ.out.size rfl (HOK.out _ (List.mem_of_getElem? HG.out)) (by have := wrI_len L (4 + i); omega))
            have HNO := hide (wnumof_any x wr e1 e2)
            obtain ⟨zx, hzx⟩ : ∃ z, (zig x : Int) = z := ⟨_, rfl⟩
            rw [hzx] at HC HNO
            clear hc1 hx hbl hzx e1 e2
            go_wp2_with (first
              | (go_at_call 17; refine HNO.out.mono ?_; rintro e w2 ⟨rfl, rfl⟩)
              | (go_at_call 16; refine HC.out.mono ?_; rintro e w2 ⟨sv, rfl, ho2, hs2, hb2⟩; have HO2 := hide ho2; have HB2 := hide (hb2 w1 HBZ.out (Nat.le_refl _)); clear ho2 hs2 hb2))
            go_roundw
            case rel => exact ⟨i + 1, _, by have := HXI.out; omega, by have := HXI.out; omega, rfl, by unfold wrI at HO2 ⊢; rw [← Nat.add_assoc, wr_take HG.out]; exact HO2.out, HB2.out⟩
            case measure => have := HXI.out; simp [intOf]; omega
          · have HW := hide (show OwnY wr w1.heap.size u5 (wrNs L) by rw [← wrI_all (i := 4 + i) (by rw [HL.out]; have := HXI.out; omega)]; exact HRZ.out)
            have HWL := hide (show (wrNs L).length ≤ 2628 by have := wr_len L; have := HL.out; omega)
            have HSU := hide (wsums_any u5 (wrNs L) wr HW.out.isBys)
            obtain ⟨Z, hZ⟩ : ∃ Z, wrNs L = Z := ⟨_, rfl⟩
            rw [hZ] at HX HW HWL HSU
            clear hZ
            go_wp2_with (first
              | (go_at_call 18; refine HSU.out.mono ?_; rintro e w2 ⟨s0, s1, rfl, hs, p0, p1, p2, p3, hb2⟩; have HS := hide hs; have HB2 := hide hb2; have HU := hide (two_bys w2 s0 s1 50 p0 p1 p2 p3); clear hs hb2)
              | (at_builtin; refine app_bys rfl _ _ rfl w1.heap.size u5 (.slice (some ⟨w2.heap.size, 0, none⟩) 2 2) Z [s0, s1] rfl (HW.out.below (bel_on HB2.out (below_one _ _))) rfl HU.out (some_nilOk _ _ _) ?h1 ?h2 ?_))
            case h1 => have := HWL.out; simp; omega
            case h2 => have h1 := HBZ.out.size; have h2 := HB2.out.size; first | omega | (rw [World.size_alloc]; omega)
            intro v' w3 hown hgr
            have HR := hide (show OwnY w3 w1.heap.size v' (encX k mi b) by rw [HX.out, HS.out]; exact hown)
            have HBF := hide (bel_on HB1.out (hgr w1 (bel_on (bel_on HBZ.out HB2.out) (below_one _ _)) (Nat.le_refl _)))
            clear hown hgr
            go_wp2
            exact bodyPost_ret (v := .tuple #[v', .nilIface]) (by simp [results, Tryd.results6, go_sem]) rfl ⟨v', by rw [HEN.out], HR.out.isBys, HR.out.nilOk, HBF.out⟩
  · have HX := hide (show encX k mi b = [] by unfold encX; rw [if_neg hm])
    have HEN := hide (err_ne hm)
    obtain ⟨E, hE⟩ : ∃ E, msgF k mi b = E := ⟨_, rfl⟩
    rw [hE] at HEN
    have HE := hide hE
    rw [hE, HEN.out] at HCH
    clear hm hE
    go_enter Tryd.func6, Tryd.ntmps6
    go_wp2_with (go_at_call 15; refine HCH.out.mono ?_; rintro e w1 ⟨rfl, hb1⟩; have HB1 := hide (bel_on HB0.out hb1); clear hb1)
    exact bodyPost_ret (v := .tuple #[.slice none 0 0, .iface 32 (.int .i64 E)]) (by simp [results, Tryd.results6, go_sem]) rfl ⟨_, by rw [HE.out, HEN.out], by rw [HX.out]; exact IsBys.nil _, fun n k e => by injection e with e1 e2 e3; exact ⟨e2.symm, e3.symm⟩, HB1.out⟩
end Go.Proofs.YtcicocackeimaahDoor
