/- What MessageRead of the document's answer comes to: the message at the beginning of some bytes, or none. -/
import Derived.Test.YtaajlggpjholeahDoorWrR2
import Derived.Test.YtaajlggpjholeahDoorWrR3
import Derived.Deep.CutRange
namespace Go.Proofs.YtaajlggpjholeahDoor
open Go.RowKit
/-- What is read. -/
def ReadEnd (w w' : World) (l : List Int) (e : Ending) : Prop :=
  ∃ mv j, e = .returned (.tuple #[mv, .int .i64 j]) ∧ Below w.heap.size w w' ∧ match rdMsg l with
    | none => IsMsg w' mv 0 0 ⟨0, 0, []⟩ ∧ j = -1
    | some ((k, mi, b), c) => IsMsg w' mv k mi b ∧ j = (c : Int)
theorem ReadEnd.no {w w' : World} {l : List Int} (h : rdMsg l = none) (hb : Below w.heap.size w w') : ReadEnd w w' l (.returned (.tuple #[.agg #[.int .i64 0, .int .i64 0, .int .i64 0, .int .i64 0, .slice none 0 0], .int .i64 (-1)])) := by
  refine ⟨_, _, rfl, hb, ?_⟩
  rw [h]
  exact ⟨⟨_, rfl, IsInts.nil _⟩, rfl⟩
theorem row_set {hs : List Int} {k : Nat} (hk : k < 4) (hl : hs.length = k) (x : Int) : (hs ++ List.replicate (4 - k) 0).set k x = (hs ++ [x]) ++ List.replicate (4 - (k + 1)) 0 := by
  rw [show 4 - k = (4 - (k + 1)) + 1 by omega, List.replicate_succ, List.set_append_right _ _ (by omega), hl, Nat.sub_self]
  simp
def row4 (hs : List Int) (k : Nat) : List Int := hs ++ List.replicate (4 - k) 0
theorem zero_row (w : World) : RowAt 3 (w.alloc (.cells (zeros 4) 3)) w.heap.size (row4 [] 0) := zeros_row w 4
theorem row4_at {hs : List Int} {k : Nat} (hk : k < 4) (hl : hs.length = k) : (row4 hs k)[k]? = some 0 := by
  unfold row4
  rw [List.getElem?_append_right (by omega), hl, Nat.sub_self, show 4 - k = (4 - (k + 1)) + 1 by omega]
  rfl
theorem four {hs : List Int} (h : hs.length = 4) : ∃ a b c d, hs = [a, b, c, d] := by
  match hs, h with
  | [a, b, c, d], _ => exact ⟨a, b, c, d, rfl⟩
theorem rd_far {l : List Int} {k mi r c : Int} {t : List Int} (h : rdNs 4 l = some ([k, mi, r, c], t)) (hf : 24 < r ∨ 12 < c) : rdMsg l = none := by
  unfold rdMsg
  rw [h]
  dsimp only
  unfold rdMid
  dsimp only
  rw [if_pos hf]
theorem rd_near {l : List Int} {k mi r c : Int} {t : List Int} (h : rdNs 4 l = some ([k, mi, r, c], t)) (hf : ¬ (24 < r ∨ 12 < c)) : rdMsg l = match rdNs (r * c).toNat t with | none => none | some (zs, t') => rdEnd l k mi ⟨r, c, zs.map unz⟩ t' := by
  unfold rdMsg
  rw [h]
  dsimp only
  unfold rdMid
  dsimp only
  rw [if_neg hf]
  cases rdNs (r * c).toNat t <;> rfl
theorem rdEnd_bad {l : List Int} {k mi : Int} {m : Mx} {t : List Int} (h : msgF k mi m ≠ 0) : rdEnd l k mi m t = none := by
  unfold rdEnd
  rw [if_pos h]
theorem rdEnd_short {l : List Int} {k mi : Int} {m : Mx} {t : List Int} (h : t.length < 2) : rdEnd l k mi m t = none := by
  unfold rdEnd
  split
  · rfl
  · match t, h with
    | [], _ => rfl
    | [x], _ => rfl
    | x :: y :: t, h => exact absurd h (by simp only [List.length_cons]; omega)
theorem rdEnd_at {l : List Int} {k mi : Int} {m : Mx} {a : Nat} {b0 b1 : Int} (h : msgF k mi m = 0) (h0 : l[a]? = some b0) (h1 : l[a + 1]? = some b1) : rdEnd l k mi m (l.drop a) = if sumsG 0 0 (l.take a) = [b0, b1] then some ((k, mi, m), a + 2) else none := by
  obtain ⟨i0, e0⟩ := List.getElem?_eq_some_iff.1 h0
  obtain ⟨i1, e1⟩ := List.getElem?_eq_some_iff.1 h1
  have hd : l.drop a = b0 :: b1 :: l.drop (a + 1 + 1) := by rw [List.drop_eq_getElem_cons i0, e0, List.drop_eq_getElem_cons i1, e1]
  have hl : l.length - (l.drop a).length = a := by rw [List.length_drop]; omega
  unfold rdEnd
  rw [if_neg (by rw [h]; simp), hl, hd]
theorem rd_none {l : List Int} (h : rdNs 4 l = none) : rdMsg l = none := by
  unfold rdMsg
  rw [h]
def unzL (zs : List Int) : List Int := zs.map unz
theorem unzL_snoc (zs : List Int) (x : Int) : unzL (zs ++ [x]) = unzL zs ++ [unz x] := by simp [unzL]
theorem unzL_len (zs : List Int) : (unzL zs).length = zs.length := by simp [unzL]
set_option maxHeartbeats 32000000 in
set_option maxRecDepth 100000 in
theorem rread_any (v : Value) (l : List Int) (w : World) (hv : IsBys w v l) : Calls Tryd.prog 13 #[v] w (fun e w' => ReadEnd w w' l e) := by
  have HV := hide hv
  have hlen := hv.len
  unfold maxLen at hlen
  obtain ⟨a, cap, rfl, h2, h3, h5, h4⟩ := hv
  obtain ⟨n, hn⟩ : ∃ n, l.length = n := ⟨_, rfl⟩
  have H4 := hide h4
  have H5 := hide h5
  have HN := hide hn
  rw [hn] at h2 hlen HV ⊢
  obtain ⟨W1, hW1⟩ : ∃ x, x = (w.alloc (.cells #[.int .i64 0, .int .i64 0, .int .i64 0, .int .i64 0, .slice none 0 0] 26)).alloc (.cells #[.int .i64 0, .int .i64 0, .int .i64 0, .int .i64 0, .slice none 0 0] 26) := ⟨_, rfl⟩
  have hs1 : W1.heap.size = w.heap.size + 2 := by rw [hW1, World.size_alloc, World.size_alloc]
  have HB1 := hide (show Below w.heap.size w W1 by rw [hW1]; exact bel_on (below_one _ _) (below_one _ _))
  have HR1 := hide (show Blk5 W1 w.heap.size (.int .i64 0) (.int .i64 0) (.int .i64 0) (.int .i64 0) (.slice none 0 0) by
    rw [hW1]
    refine (Blk5.new w _ _ _ _ _).bel (below_one _ _) ?_
    rw [World.size_alloc]; exact Nat.lt_succ_self _)
  have HN1 := hide (show Blk5 W1 (w.heap.size + 1) (.int .i64 0) (.int .i64 0) (.int .i64 0) (.int .i64 0) (.slice none 0 0) by
    rw [hW1]
    have := Blk5.new (w.alloc (.cells #[.int .i64 0, .int .i64 0, .int .i64 0, .int .i64 0, .slice none 0 0] 26)) (.int .i64 0) (.int .i64 0) (.int .i64 0) (.int .i64 0) (.slice none 0 0)
    rw [World.size_alloc] at this
    exact this)
  have hmk := run_mk 4 4 rfl (by omega) W1
  rw [hW1] at hmk
  have HW1 := hide hW1
  have HS1 := hide hs1
  have HRW := hide (zero_row W1)
  clear h4 h5 hn hW1 hs1
  go_enter Tryd.func13, Tryd.ntmps13
  go_wp2
  rw [← HW1.out]
  clear hmk
  obtain ⟨W2, hW2⟩ : ∃ x, x = W1.alloc (.cells (zeros 4) 3) := ⟨_, rfl⟩
  rw [← hW2] at HRW ⊢
  have HB2 := hide (show Below W1.heap.size W1 W2 by rw [hW2]; exact below_one _ _)
  clear hW2
  have HR2 := hide (HR1.out.bel HB2.out (by have := HS1.out; omega))
  have HN2 := hide (HN1.out.bel HB2.out (by have := HS1.out; omega))
  rw [HS1.out] at HRW
  have HBK := hide (show ∀ W, W2.grownBy W (some (w.heap.size + 2)) → Below w.heap.size w W from fun W hg => (bel_on HB1.out HB2.out).grown hg (bel_on HB1.out HB2.out).size (fun k hk => by have := Option.some.inj hk; omega))
  have HBOX := hide (show ∀ W, W2.grownBy W (some (w.heap.size + 2)) → Blk5 W w.heap.size (.int .i64 0) (.int .i64 0) (.int .i64 0) (.int .i64 0) (.slice none 0 0) ∧ Blk5 W (w.heap.size + 1) (.int .i64 0) (.int .i64 0) (.int .i64 0) (.int .i64 0) (.slice none 0 0) from fun W hg => ⟨HR2.out.grown hg (fun e => by have := Option.some.inj e; omega), HN2.out.grown hg (fun e => by have := Option.some.inj e; omega)⟩)
  go_loopw [6, 7] (fun av iv wr => ∃ (k : Nat) (xi xa : Int) (at_ : Nat) (hs : List Int), k ≤ 4 ∧ xi = (k : Int) ∧ iv = .int .i64 xi ∧ av = .int .i64 xa ∧ xa = (at_ : Int) ∧ at_ ≤ n ∧ at_ ≤ 9 * k ∧ Came l 4 k hs at_ 0 ∧ RowAt 3 wr (w.heap.size + 2) (row4 hs k) ∧ W2.grownBy wr (some (w.heap.size + 2)) ∧ ∀ x ∈ hs, 0 ≤ x ∧ x ≤ 9223372036854775807) (fun _ iv _ => 4 - (intOf iv).toNat)
  case atStart => exact ⟨0, 0, 0, 0, [], by omega, rfl, rfl, rfl, rfl, by omega, by omega, Came.first l 4 0, HRW.out, World.grownBy.refl _ _, fun x hx => by simp at hx⟩
  case round =>
    obtain ⟨k, xi, xa, at_, hs, hk, hxi, rfl, rfl, hxa, hat, hat9, hcm, hrow, hgr, hbd⟩ := hrel
    have HXI := hide hxi
    have HXA := hide hxa
    have HAT := hide (And.intro hat hat9)
    have HCM := hide hcm
    have HROW := hide hrow
    have HGR := hide hgr
    have HBD := hide hbd
    have HBW := hide (HBK.out wr hgr)
    have hx0 : 0 ≤ xi := by omega
    have hx4 : xi ≤ 4 := by omega
    have hxa0 : 0 ≤ xa := by omega
    have hxa1 : xa ≤ 36 := by omega
    obtain ⟨hrb, hnb⟩ := HBOX.out wr hgr
    obtain ⟨r0, r1, r2, r3, r4⟩ := hrb.c
    obtain ⟨n0, n1, n2, n3, n4⟩ := hnb.c
    have f0 := hrb.f 0
    have f1 := hrb.f 1
    have f2 := hrb.f 2
    have f3 := hrb.f 3
    have f4 := hrb.f 4
    clear hxi hxa hat hat9 hcm hrow hgr hbd hrb hnb
    by_cases hlt : xi < 4
    · have hk4 : k < 4 := by have := HXI.out; omega
      have c1 := HROW.out.cell (row4_at hk4 HCM.out.1)
      have g1 := HROW.out.frozen k
      rw [show k = xi.toNat by have := HXI.out; omega] at c1 g1
      have HSA := hide (rsevenat_any _ l at_ xa wr (HV.out.below HBW.out) HXA.out (by rw [HN.out]; exact HAT.out.1) (by have := HAT.out.2; omega))
      cases hr : rd1 (l.drop at_) with
      | none =>
        rw [hr] at HSA
        have HNO := hide (rd_none (by have := HCM.out.no hk4 hr; rw [List.drop_zero] at this; exact this))
        clear hr
        go_wp2_with (go_at_call 31; refine HSA.out.mono ?_; rintro e w' ⟨rfl, rfl⟩)
        exact bodyPost_ret (v := .tuple #[.agg #[.int .i64 0, .int .i64 0, .int .i64 0, .int .i64 0, .slice none 0 0], .int .i64 (-1)]) (by simp [results, Tryd.results13, go_sem, r0, r1, r2, r3, r4]) rfl (ReadEnd.no HNO.out (by (repeat (refine Below.setCell ?_ (by first | exact Nat.le_refl _ | (show w.heap.size ≤ w.heap.size + 1 + 1; omega)) _)); exact HBW.out))
      | some q =>
        obtain ⟨x, t⟩ := q
        obtain ⟨cc, cc1, cc2, cc3, cc4, cc5, cc6⟩ := rd1_at H5.out hr
        subst cc4
        rw [hr] at HSA
        have HNX := hide (HCM.out.next hk4 hr)
        obtain ⟨Y, hY⟩ : ∃ Y : Int, Y = ((at_ + cc : Nat) : Int) := ⟨_, rfl⟩
        have HYE := hide (show (endAt l (some (x, l.drop (at_ + cc)))).2 = Y by
          unfold endAt
          dsimp only
          rw [List.length_drop, hY]
          omega)
        rw [HYE.out, show (endAt l (some (x, l.drop (at_ + cc)))).1 = x from rfl] at HSA
        have HY := hide hY
        have HCC := hide (show at_ + cc ≤ n ∧ at_ + cc ≤ 9 * (k + 1) by have := HN.out; have := HAT.out; omega)
        have hY0 : 0 ≤ Y := by omega
        have hY1 : Y ≤ 45 := by have := HXA.out; omega
        have HXB := hide (And.intro cc5 cc6)
        clear hr hY cc1 cc2 cc3 cc5 cc6 HYE
        go_wp2_with (go_at_call 31; refine HSA.out.mono ?_; rintro e w' ⟨rfl, rfl⟩)
        go_roundw
        case rel =>
          refine ⟨k + 1, _, _, at_ + cc, hs ++ [x], by omega, by have := HXI.out; omega, rfl, rfl, HY.out, HCC.out.1, HCC.out.2, HNX.out, ?_, HGR.out.trans (grw_set _ _ _ _), fun z hz => ?_⟩
          · have := HROW.out.set k x
            rw [show (row4 hs k).set k x = row4 (hs ++ [x]) (k + 1) from row_set hk4 HCM.out.1 x] at this
            rw [show xi.toNat = k by have := HXI.out; omega]
            exact this
          · rcases List.mem_append.1 hz with q | q
            · exact HBD.out z q
            · have q : z = x := by simpa using q
              rw [q]; exact HXB.out
        case measure => have := HXI.out; simp [intOf]; omega
    · obtain rfl : k = 4 := by have := HXI.out; omega
      obtain ⟨q0, q1, q2, q3, rfl⟩ := four HCM.out.1
      have HHD := hide (show rdNs 4 l = some ([q0, q1, q2, q3], l.drop at_) by have := HCM.out.done; rw [List.drop_zero] at this; exact this)
      have hq0 := HBD.out q0 (by simp)
      have hq1 := HBD.out q1 (by simp)
      have hq2 := HBD.out q2 (by simp)
      have hq3 := HBD.out q3 (by simp)
      have HQ := hide (And.intro hq0 (And.intro hq1 (And.intro hq2 hq3)))
      have l0 := HROW.out.cell (i := 0) (x := q0) rfl
      have l1 := HROW.out.cell (i := 1) (x := q1) rfl
      have l2 := HROW.out.cell (i := 2) (x := q2) rfl
      have l3 := HROW.out.cell (i := 3) (x := q3) rfl
      clear hq0 hq1
      by_cases c1 : 24 < q2
      · have HNO := hide (rd_far HHD.out (.inl c1))
        go_wp2
        exact bodyPost_ret (v := .tuple #[.agg #[.int .i64 0, .int .i64 0, .int .i64 0, .int .i64 0, .slice none 0 0], .int .i64 (-1)]) (by simp [results, Tryd.results13, go_sem, r0, r1, r2, r3, r4]) rfl (ReadEnd.no HNO.out (by (repeat (refine Below.setCell ?_ (by first | exact Nat.le_refl _ | (show w.heap.size ≤ w.heap.size + 1 + 1; omega)) _)); exact HBW.out))
      by_cases c2 : 12 < q3
      · have HNO := hide (rd_far HHD.out (.inr c2))
        go_wp2
        exact bodyPost_ret (v := .tuple #[.agg #[.int .i64 0, .int .i64 0, .int .i64 0, .int .i64 0, .slice none 0 0], .int .i64 (-1)]) (by simp [results, Tryd.results13, go_sem, r0, r1, r2, r3, r4]) rfl (ReadEnd.no HNO.out (by (repeat (refine Below.setCell ?_ (by first | exact Nat.le_refl _ | (show w.heap.size ≤ w.heap.size + 1 + 1; omega)) _)); exact HBW.out))
      have HNR := hide (rd_near HHD.out (by omega))
      have hrc := rc_bd q2 q3 ⟨hq2.1, by omega, hq3.1, by omega⟩
      obtain ⟨PR, hPR⟩ : ∃ z, q2 * q3 = z := ⟨_, rfl⟩
      rw [hPR] at hrc HNR
      have hwp : IntKind.i64.wrap (q2 * q3) = PR := by rw [hPR, IntKind.wrap_i64]; omega
      obtain ⟨N, hN⟩ : ∃ N : Nat, PR = (N : Int) := ⟨PR.toNat, by omega⟩
      have hN288 : N ≤ 288 := by omega
      rw [show PR.toNat = N by omega] at HNR
      have HNN := hide hN
      have HPR := hide hPR
      have HHS := hide (show wr.heap.size = W2.heap.size ∨ True from .inr trivial)
      clear hrc hPR hN hq2 hq3 r0 r1 r2 r3 r4 n0 n1 n2 n3 n4 f0 f1 f2 f3 f4
      go_wp2
      go_region_held3 (fun W' => W'.cell? ⟨w.heap.size + 2, 0, none⟩ = some (.int .i64 q0) ∧ W'.cell? ⟨w.heap.size + 2, 1, none⟩ = some (.int .i64 q1) ∧ W'.cell? ⟨w.heap.size + 2, 2, none⟩ = some (.int .i64 q2) ∧ W'.cell? ⟨w.heap.size + 2, 3, none⟩ = some (.int .i64 q3)) ((first | go_keep | (refine ⟨?_, ?_, ?_, ?_⟩ <;> first | assumption | go_keep)))
        (fail)
      obtain ⟨MB, hMB⟩ : ∃ x, wr.heap.size = x := ⟨_, rfl⟩
      obtain ⟨U, hU⟩ : ∃ x, x = (wr.alloc (.cells #[.int .i64 q0, .int .i64 q1, .int .i64 q2, .int .i64 q3, .slice none 0 0] 26)).drew := ⟨_, rfl⟩
      have HMB3 := hide (show w.heap.size + 2 < MB by rw [← hMB]; exact HROW.out.lt)
      have HBU := hide (show Below wr.heap.size wr U by rw [hU]; exact bel_on (below_one _ _) ⟨rfl, rfl, rfl, Nat.le_refl _, fun _ _ => rfl⟩)
      have HM5 := hide (show Blk5 U MB (.int .i64 q0) (.int .i64 q1) (.int .i64 q2) (.int .i64 q3) (.slice none 0 0) by rw [hU, ← hMB]; exact Blk5.new wr _ _ _ _ _)
      have HUS := hide (show U.heap.size = MB + 1 by rw [hU, ← hMB]; exact World.size_alloc _ _)
      obtain ⟨hrb, hnb⟩ := HBOX.out wr HGR.out
      have HRU := hide (hrb.bel HBU.out hrb.lt)
      have HNU := hide (hnb.bel HBU.out hnb.lt)
      have HLU := hide (HROW.out.below HBU.out HROW.out.lt)
      have HWU := hide (bel_on HBW.out HBU.out)
      rw [← hU, hMB]
      obtain ⟨e0, he0, hz0, hz1, hz2⟩ := info_parts infoInt
      have HEI := hide (And.intro he0 (And.intro hz0 (And.intro hz1 hz2)))
      have HATB := hide (show at_ ≤ n ∧ at_ ≤ 36 from ⟨HAT.out.1, HAT.out.2⟩)
      clear hMB hU hrb hnb l0 l1 l2 l3 he0 hz0 hz1 hz2
      go_wp2
      go_loopw [6, 9, 10, 11] (fun av iv _ _ wr => ∃ (i : Nat) (xi xa : Int) (a2 : Nat) (zs : List Int) (cv : Value), i ≤ N ∧ xi = (i : Int) ∧ iv = .int .i64 xi ∧ av = .int .i64 xa ∧ xa = (a2 : Int) ∧ a2 ≤ n ∧ a2 ≤ 36 + 9 * i ∧ Came l N i zs a2 at_ ∧ Blk5 wr MB (.int .i64 q0) (.int .i64 q1) (.int .i64 q2) (.int .i64 q3) cv ∧ OwnZ wr (MB + 1) cv (unzL zs) ∧ Below MB U wr) (fun _ iv _ _ _ => N - (intOf iv).toNat)
      case atStart => exact ⟨0, 0, _, at_, [], _, Nat.zero_le _, rfl, rfl, rfl, HXA.out, HATB.out.1, by have := HATB.out.2; omega, Came.first l N at_, HM5.out, OwnZ.nil _ _, Below.refl _ _⟩
      case round =>
        obtain ⟨ii, xj, ya, a2, zs, cv, hi, hxj, rfl, rfl, hya, ha, ha9, hcm, hbk, hoz, hbl⟩ := hrel
        have HXJ := hide hxj
        have HYA := hide hya
        have HA2 := hide (And.intro ha ha9)
        have HCM2 := hide hcm
        have hj0 : 0 ≤ xj := by omega
        have hj1 : xj ≤ 288 := by omega
        have hy0 : 0 ≤ ya := by omega
        have hy1 : ya ≤ 2628 := by omega
        have hsz : MB ≤ wr.heap.size := Nat.le_of_lt hbk.lt
        have l2 := (HLU.out.below hbl HMB3.out).cell (i := 2) (x := q2) rfl
        have l3 := (HLU.out.below hbl HMB3.out).cell (i := 3) (x := q3) rfl
        obtain ⟨ca, ck, hce⟩ := hoz.shape
        obtain ⟨cn, hcn⟩ : ∃ z, (unzL zs).length = z := ⟨_, rfl⟩
        have hcn288 : cn ≤ 288 := by rw [← hcn, unzL_len, hcm.1]; omega
        rw [hcn] at hce
        subst hce
        have HCN := hide hcn
        have HBK3 := hide hbk
        have HOZ3 := hide hoz
        have HBL3 := hide hbl
        have HSZ := hide hsz
        clear hxj hya ha ha9 hcm hbk hoz hbl hcn hsz
        go_wp2
        go_quiet (fail)
        clear l2 l3
        obtain ⟨W4, hW4⟩ : ∃ x, x = wr.drewN nq := ⟨_, rfl⟩
        have HD4 := hide (show Below wr.heap.size wr W4 by rw [hW4]; exact below_drewN _ _)
        have HBK4 := hide (HBK3.out.bel HD4.out HBK3.out.lt)
        have HOZ4 := hide (show OwnZ W4 (MB + 1) (.slice ca cn ck) (unzL zs) from HOZ3.out.below HD4.out)
        have HBL4 := hide (show Below MB U W4 from HBL3.out.trans (HD4.out.mono HSZ.out))
        rw [← hW4]
        clear hW4
        have HW4 := hide (show Below w.heap.size w W4 from HWU.out.trans (HBL4.out.mono (by have := HMB3.out; omega)))
        have hrb := HRU.out.bel HBL4.out (by have := HMB3.out; omega)
        have hnb := HNU.out.bel HBL4.out (by have := HMB3.out; omega)
        obtain ⟨r0, r1, r2, r3, r4⟩ := hrb.c
        obtain ⟨n0, n1, n2, n3, n4⟩ := hnb.c
        have f0 := hrb.f 0
        have f1 := hrb.f 1
        have f2 := hrb.f 2
        have f3 := hrb.f 3
        have f4 := hrb.f 4
        obtain ⟨m0, m1, m2, m3, m4⟩ := HBK4.out.c
        have mf4 := HBK4.out.f 4
        clear hrb hnb
        by_cases hlt2 : xj < PR
        · have hiN : ii < N := by have := HXJ.out; have := HNN.out; omega
          have HSA := hide (rsevenat_any _ l a2 ya W4 (HV.out.below HW4.out) HYA.out (by rw [HN.out]; exact HA2.out.1) (by have := HA2.out.2; omega))
          cases hr : rd1 (l.drop a2) with
          | none =>
            rw [hr] at HSA
            have HNO := hide (show rdMsg l = none by rw [HNR.out, HCM2.out.no hiN hr])
            clear hr
            go_wp2_with (go_at_call 31; refine HSA.out.mono ?_; rintro e w' ⟨rfl, hw'⟩; replace hw' := hw'.symm; subst hw')
            exact bodyPost_ret (v := .tuple #[.agg #[.int .i64 0, .int .i64 0, .int .i64 0, .int .i64 0, .slice none 0 0], .int .i64 (-1)]) (by simp [results, Tryd.results13, go_sem, r0, r1, r2, r3, r4]) rfl (ReadEnd.no HNO.out (by (repeat (refine Below.setCell ?_ (by first | exact Nat.le_refl _ | (show w.heap.size ≤ w.heap.size + 1 + 1; omega)) _)); exact HW4.out))
          | some q =>
            obtain ⟨x, t⟩ := q
            obtain ⟨cc, cc1, cc2, cc3, cc4, cc5, cc6⟩ := rd1_at H5.out hr
            subst cc4
            rw [hr] at HSA
            have HNX := hide (HCM2.out.next hiN hr)
            obtain ⟨Y, hY⟩ : ∃ Y : Int, Y = ((a2 + cc : Nat) : Int) := ⟨_, rfl⟩
            have HYE := hide (show (endAt l (some (x, l.drop (a2 + cc)))).2 = Y by
              unfold endAt
              dsimp only
              rw [List.length_drop, hY]
              omega)
            rw [HYE.out, show (endAt l (some (x, l.drop (a2 + cc)))).1 = x from rfl] at HSA
            have HY := hide hY
            have HCC := hide (show a2 + cc ≤ n ∧ a2 + cc ≤ 36 + 9 * (ii + 1) by have := HN.out; have := HA2.out; omega)
            have hY0 : 0 ≤ Y := by omega
            have hY1 : Y ≤ 2637 := by have := HYA.out; omega
            obtain ⟨UZ, hUZ⟩ : ∃ z, unz x = z := ⟨_, rfl⟩
            have HUZ := hide hUZ
            have hw1 : IntKind.i64.wrap (-(x / 2)) = -(x / 2) := by rw [IntKind.wrap_i64]; omega
            have hw2 : IntKind.i64.wrap (-(x / 2) - 1) = -(x / 2) - 1 := by rw [IntKind.wrap_i64]; omega
            clear hr hY cc1 cc2 cc3 HYE hUZ
            go_upto_if 81 with (go_at_call 31; refine HSA.out.mono ?_; rintro e w' ⟨rfl, hw'⟩; replace hw' := hw'.symm; subst hw')
            go_cut [11] from 57 to 92 (fun xv wx => xv = .int .i64 UZ ∧ wx = W4)
            case first =>
              by_cases hp : x % 2 = 1
              · have HZZ := hide (show -(x / 2) - 1 = UZ by rw [← HUZ.out]; unfold unz; rw [if_pos hp])
                have np : (x % 2 == 1) = true := by simp [hp]
                clear hp
                go_wp2
                go_meet
                exact ⟨by rw [← HZZ.out], by first | rfl | trivial⟩
              · have HZZ := hide (show x / 2 = UZ by rw [← HUZ.out]; unfold unz; rw [if_neg hp])
                have np : (x % 2 == 1) = false := by simpa using hp
                clear hp
                go_wp2
                go_meet
                exact ⟨by rw [← HZZ.out], by first | rfl | trivial⟩
            case rest =>
              obtain ⟨rfl, hwc⟩ := hcut
              subst hwc
              go_wp2_with (at_builtin; refine wpList_append_own _ rfl _ _ 22 rfl (MB + 1) 3 e0 (.int .i64 0) 1 8 Tryd.underlying22 HEI.out.1 HEI.out.2.1 HEI.out.2.2.1 HEI.out.2.2.2 rfl (by decide) (.slice ca cn ck) _ _ rfl (HOZ4.out.alloc _) ⟨_, 0, none⟩ 1 1 [.int .i64 UZ] rfl rfl (one_cells _ _) (one_one _) ?c3 ?c4 ?c5 ?_)
              case c3 => have := HCN.out; unfold maxLen; omega
              case c4 => have := HCN.out; omega
              case c5 => have h1 := HBK4.out.lt; first | omega | (simp; omega)
              intro v' w5 hown' hg _
              have HBT := hide (below_one wc (.cells #[.int .i64 UZ] 3))
              have HO5 := hide (show OwnZ w5 (MB + 1) v' (unzL (zs ++ [x])) by
                rw [unzL_snoc, HUZ.out]
                exact OwnZ.step hown')
              have HOB := hide (show ∀ q, (Value.slice ca cn ck).ownBlock = some q → MB + 1 ≤ q from fun q hq => (World.ownsRow.lt HOZ4.out q hq).1)
              have HBK5 := hide (show Blk5 w5 MB (.int .i64 q0) (.int .i64 q1) (.int .i64 q2) (.int .i64 q3) (.slice ca cn ck) from (HBK4.out.bel HBT.out HBK4.out.lt).grown hg (fun e => by have := HOB.out MB e.symm; omega))
              have HBL5 := hide (show Below MB U w5 from (HBL4.out.trans (HBT.out.mono (Nat.le_of_lt HBK4.out.lt))).grown hg (Nat.le_trans (Nat.le_of_lt HBK4.out.lt) HBT.out.size) (fun q hq => by have := HOB.out q hq; omega))
              obtain ⟨va, vk, hve⟩ := HO5.out.shape
              obtain ⟨vn, hvn⟩ : ∃ z, (unzL (zs ++ [x])).length = z := ⟨_, rfl⟩
              rw [hvn] at hve
              subst hve
              have k4 := HBK5.out.c.2.2.2.2
              have kf4 := HBK5.out.f 4
              have HREL := hide (show Blk5 (w5.setCell ⟨MB, 4, none⟩ (.slice va vn vk)) MB (.int .i64 q0) (.int .i64 q1) (.int .i64 q2) (.int .i64 q3) (.slice va vn vk) ∧ OwnZ (w5.setCell ⟨MB, 4, none⟩ (.slice va vn vk)) (MB + 1) (.slice va vn vk) (unzL (zs ++ [x])) ∧ Below MB U (w5.setCell ⟨MB, 4, none⟩ (.slice va vn vk)) from ⟨HBK5.out.set4 _, World.ownsRow.kept (row := some MB) HO5.out (grw_set _ _ _ _) (.inr (fun e => by have := (World.ownsRow.lt HO5.out MB e).1; omega)), HBL5.out.setCell (Nat.le_refl _) _⟩)
              clear hown' hg hvn r0 r1 r2 r3 r4 n0 n1 n2 n3 n4 f0 f1 f2 f3 f4 m0 m1 m2 m3 m4 mf4
              go_wp2
              go_roundw
              case rel => exact ⟨ii + 1, _, _, a2 + cc, zs ++ [x], _, by omega, by have := HXJ.out; omega, rfl, rfl, HY.out, HCC.out.1, HCC.out.2, HNX.out, HREL.out.1, HREL.out.2.1, HREL.out.2.2⟩
              case measure => have := HXJ.out; have := HNN.out; simp [intOf]; omega
        · have HIN := hide (show ii = N by have := HXJ.out; have := HNN.out; omega)
          have HRD := hide (show rdMsg l = rdEnd l q0 q1 ⟨q2, q3, unzL zs⟩ (l.drop a2) by
            rw [HNR.out]
            have := HCM2.out
            rw [HIN.out] at this
            rw [this.done]
            rfl)
          obtain ⟨MX, hMX⟩ : ∃ x : Mx, x = ⟨q2, q3, unzL zs⟩ := ⟨_, rfl⟩
          have HMX := hide hMX
          have HMF := hide (rmsgf_any (.agg #[.int .i64 q0, .int .i64 q1, .int .i64 q2, .int .i64 q3, .slice ca cn ck]) q0 q1 MX W4 ⟨_, by rw [hMX], by rw [hMX]; exact HOZ4.out.isInts⟩)
          obtain ⟨E, hE⟩ : ∃ E, msgF q0 q1 MX = E := ⟨_, rfl⟩
          rw [hE] at HMF
          rw [← hMX] at HRD
          have HE := hide hE
          have HFA := hide (show ∀ W, Below W4.heap.size W4 W → Blk5 W w.heap.size (.int .i64 0) (.int .i64 0) (.int .i64 0) (.int .i64 0) (.slice none 0 0) ∧ Blk5 W (w.heap.size + 1) (.int .i64 0) (.int .i64 0) (.int .i64 0) (.int .i64 0) (.slice none 0 0) ∧ Blk5 W MB (.int .i64 q0) (.int .i64 q1) (.int .i64 q2) (.int .i64 q3) (.slice ca cn ck) from fun W hb => by
            have h1 := HRU.out.bel HBL4.out (by have := HMB3.out; omega)
            have h2 := HNU.out.bel HBL4.out (by have := HMB3.out; omega)
            exact ⟨h1.bel hb h1.lt, h2.bel hb h2.lt, HBK4.out.bel hb HBK4.out.lt⟩)
          clear hMX hE r0 r1 r2 r3 r4 n0 n1 n2 n3 n4 f0 f1 f2 f3 f4 mf4
          by_cases c3 : E = 0
          rotate_left 1
          · have HNO := hide (show rdMsg l = none by rw [HRD.out]; exact rdEnd_bad (by rw [HE.out]; exact c3))
            have nE : (E != 0) = true := by simpa using c3
            clear c3
            go_wp2_with (go_at_call 8; refine HMF.out.mono ?_; rintro e w5 ⟨rfl, hb5⟩; have HB5 := hide hb5; obtain ⟨hrb, hnb, _⟩ := HFA.out w5 hb5; obtain ⟨r0, r1, r2, r3, r4⟩ := hrb.c; obtain ⟨n0, n1, n2, n3, n4⟩ := hnb.c; have f0 := hrb.f 0; have f1 := hrb.f 1; have f2 := hrb.f 2; have f3 := hrb.f 3; have f4 := hrb.f 4; clear hb5 hrb hnb)
            exact bodyPost_ret (v := .tuple #[.agg #[.int .i64 0, .int .i64 0, .int .i64 0, .int .i64 0, .slice none 0 0], .int .i64 (-1)]) (by simp [results, Tryd.results13, go_sem, r0, r1, r2, r3, r4]) rfl (ReadEnd.no HNO.out (by (repeat (refine Below.setCell ?_ (by first | exact Nat.le_refl _ | (show w.heap.size ≤ w.heap.size + 1 + 1; omega)) _)); exact (bel_on HW4.out HB5.out)))
          subst c3
          by_cases c4 : (n : Int) < ya + 2
          · have HNO := hide (show rdMsg l = none by
              rw [HRD.out]
              refine rdEnd_short ?_
              rw [List.length_drop]
              have := HN.out; have := HYA.out
              omega)
            go_wp2_with (go_at_call 8; refine HMF.out.mono ?_; rintro e w5 ⟨rfl, hb5⟩; have HB5 := hide hb5; obtain ⟨hrb, hnb, _⟩ := HFA.out w5 hb5; obtain ⟨r0, r1, r2, r3, r4⟩ := hrb.c; obtain ⟨n0, n1, n2, n3, n4⟩ := hnb.c; have f0 := hrb.f 0; have f1 := hrb.f 1; have f2 := hrb.f 2; have f3 := hrb.f 3; have f4 := hrb.f 4; clear hb5 hrb hnb)
            exact bodyPost_ret (v := .tuple #[.agg #[.int .i64 0, .int .i64 0, .int .i64 0, .int .i64 0, .slice none 0 0], .int .i64 (-1)]) (by simp [results, Tryd.results13, go_sem, r0, r1, r2, r3, r4]) rfl (ReadEnd.no HNO.out (by (repeat (refine Below.setCell ?_ (by first | exact Nat.le_refl _ | (show w.heap.size ≤ w.heap.size + 1 + 1; omega)) _)); exact (bel_on HW4.out HB5.out)))
          obtain ⟨b0, hb0⟩ : ∃ x, l[a2]? = some x := ⟨_, List.getElem?_eq_getElem (by have := HN.out; have := HYA.out; omega)⟩
          obtain ⟨b1, hb1⟩ : ∃ x, l[a2 + 1]? = some x := ⟨_, List.getElem?_eq_getElem (by have := HN.out; have := HYA.out; omega)⟩
          have HEND := hide (show rdMsg l = if sumsG 0 0 (l.take a2) = [b0, b1] then some ((q0, q1, MX), a2 + 2) else none by rw [HRD.out]; exact rdEnd_at HE.out hb0 hb1)
          obtain ⟨bb, bo, hba, hbc⟩ := H4.out.resolve_left (fun e => by rw [e] at hb0; simp at hb0)
          subst hba
          have HBC := hide (show ∀ W, Below w.heap.size w W → W.cell? ⟨bb, bo + ya.toNat, none⟩ = some (.int .u8 b0) ∧ W.cell? ⟨bb, bo + (ya + 1).toNat, none⟩ = some (.int .u8 b1) from fun W hb => by
            rw [show ya.toNat = a2 by have := HYA.out; omega, show (ya + 1).toNat = a2 + 1 by have := HYA.out; omega]
            exact ⟨(hb.cell (World.block_lt_of_cell? w _ (hbc a2 b0 hb0))).trans (hbc a2 b0 hb0), (hb.cell (World.block_lt_of_cell? w _ (hbc (a2 + 1) b1 hb1))).trans (hbc (a2 + 1) b1 hb1)⟩)
          obtain ⟨pa, pn, pk, hsl, hpi⟩ := by_h HV.out a2 ya HYA.out (by rw [HN.out]; exact HA2.out.1)
          have HPI := hide hpi
          have hya2 : ya + 2 ≤ (n : Int) := by omega
          clear hb0 hb1 hbc hpi c4
          go_wp2_with (first | (go_at_call 8; refine HMF.out.mono ?_; rintro e w5 ⟨rfl, hb5⟩; have HB5 := hide hb5; clear hb5) | (go_at_call 28; refine (rsums_any _ (l.take a2) w5 (HPI.out.below (bel_on HW4.out HB5.out)) (by rw [List.length_take]; have := HA2.out; omega)).mono ?_; rintro e w6 ⟨s6, rfl, ho6, hb6⟩; have HB6 := hide (bel_on HB5.out hb6); have HO6 := hide ho6; obtain ⟨sa, sk, hse⟩ := ho6.shape; rw [sumsG_len] at hse; subst hse; clear hb6 ho6))
          obtain ⟨S0, S1, hS⟩ : ∃ s0 s1, sumsG 0 0 (l.take a2) = [s0, s1] := by
            have := sumsG_len 0 0 (l.take a2)
            match hq : sumsG 0 0 (l.take a2), this with
            | [x, y], _ => exact ⟨x, y, rfl⟩
          have hbys := HO6.out.isBys
          rw [hS] at hbys HEND
          obtain ⟨ea, ek, hee, e2, e3, e5, e4⟩ := hbys
          have hea := (Value.slice.inj hee).1
          subst hea
          obtain ⟨gb, go, hga, hgc⟩ := e4.resolve_left (by simp)
          subst hga
          have s0 : w6.cell? ⟨gb, go, none⟩ = some (.int .u8 S0) := by simpa using hgc 0 S0 rfl
          have s1 := hgc 1 S1 rfl
          have HW6 := hide (bel_on HW4.out HB6.out)
          obtain ⟨d0, d1⟩ := HBC.out w6 HW6.out
          have HF6 := hide (HFA.out w6 HB6.out)
          have HMI := hide (show ∀ W, Below W4.heap.size W4 W → IsMsg W (.agg #[.int .i64 q0, .int .i64 q1, .int .i64 q2, .int .i64 q3, .slice ca cn ck]) q0 q1 MX from fun W hb => ⟨_, by rw [HMX.out], by rw [HMX.out]; exact HOZ4.out.isInts.below hb⟩)
          clear hee e2 e3 e5 e4 hgc hS m0 m1 m2 m3 m4
          by_cases c5 : S0 = b0
          · by_cases c6 : S1 = b1
            · have HYES := hide (show rdMsg l = some ((q0, q1, MX), a2 + 2) by rw [HEND.out, if_pos (by rw [c5, c6])])
              subst c5 c6
              go_quiet (fail)
              obtain ⟨hrb, hnb, hmb⟩ := HFA.out (w6.drewN nq) (bel_on HB6.out (below_drewN _ _))
              obtain ⟨r0, r1, r2, r3, r4⟩ := hrb.c
              obtain ⟨m0, m1, m2, m3, m4⟩ := hmb.c
              have f0 := hrb.f 0
              have f1 := hrb.f 1
              have f2 := hrb.f 2
              have f3 := hrb.f 3
              have f4 := hrb.f 4
              have HBE := hide (bel_on HW6.out (below_drewN w6 nq))
              obtain ⟨W9, hW9⟩ : ∃ x, x = w6.drewN nq := ⟨_, rfl⟩
              rw [← hW9] at r0 r1 r2 r3 r4 m0 m1 m2 m3 m4 f0 f1 f2 f3 f4 HBE ⊢
              have HI9 := hide (show OwnZ W9 (MB + 1) (.slice ca cn ck) (unzL zs) by rw [hW9]; exact HOZ4.out.below (bel_on HB6.out (below_drewN _ _)))
              have HMBS := hide (show w.heap.size < MB by have := HMB3.out; omega)
              clear hrb hnb hmb hW9 s0 s1 d0 d1
              have HK := hide (show ∀ (W : World) (i : Nat) (y : Value), OwnZ W (MB + 1) (.slice ca cn ck) (unzL zs) → OwnZ (W.setCell ⟨w.heap.size, i, none⟩ y) (MB + 1) (.slice ca cn ck) (unzL zs) from fun W i y h => World.ownsRow.kept (row := some w.heap.size) h (grw_set _ _ _ _) (.inr (fun e => by have h1 := (World.ownsRow.lt h _ e).1; have h2 := HMBS.out; omega)))
              go_wp2
              refine bodyPost_ret (v := .tuple #[.agg #[.int .i64 q0, .int .i64 q1, .int .i64 q2, .int .i64 q3, .slice ca cn ck], .int .i64 (ya + 2)]) (by simp [results, Tryd.results13, go_sem, r0, r1, r2, r3, r4]) rfl ⟨_, _, rfl, ?_, ?_⟩
              · repeat (refine Below.setCell ?_ (by exact Nat.le_refl _) _)
                exact HBE.out
              rw [HYES.out]
              refine ⟨⟨_, by rw [HMX.out], ?_⟩, by have := HYA.out; omega⟩
              rw [HMX.out]
              exact (HK.out _ _ _ (HK.out _ _ _ (HK.out _ _ _ (HK.out _ _ _ (HK.out _ _ _ HI9.out))))).isInts
            · have HNO := hide (show rdMsg l = none by rw [HEND.out, if_neg (fun e => c6 (by injection e with e1 e2; injection e2))])
              have n6 : (S1 != b1) = true := by simpa using c6
              subst c5
              clear c6
              go_quiet (fail)
              obtain ⟨hrb, hnb, hmb⟩ := HFA.out (w6.drewN nq) (bel_on HB6.out (below_drewN _ _))
              obtain ⟨r0, r1, r2, r3, r4⟩ := hrb.c
              obtain ⟨n0, n1, n2, n3, n4⟩ := hnb.c
              have f0 := hrb.f 0
              have f1 := hrb.f 1
              have f2 := hrb.f 2
              have f3 := hrb.f 3
              have f4 := hrb.f 4
              have HBE := hide (bel_on HW6.out (below_drewN w6 nq))
              clear hrb hnb hmb
              go_wp2
              exact bodyPost_ret (v := .tuple #[.agg #[.int .i64 0, .int .i64 0, .int .i64 0, .int .i64 0, .slice none 0 0], .int .i64 (-1)]) (by simp [results, Tryd.results13, go_sem, r0, r1, r2, r3, r4]) rfl (ReadEnd.no HNO.out (by (repeat (refine Below.setCell ?_ (by first | exact Nat.le_refl _ | (show w.heap.size ≤ w.heap.size + 1 + 1; omega)) _)); exact HBE.out))
          · have HNO := hide (show rdMsg l = none by rw [HEND.out, if_neg (fun e => c5 (by injection e))])
            have n5 : (S0 != b0) = true := by simpa using c5
            clear c5
            go_quiet (fail)
            obtain ⟨hrb, hnb, hmb⟩ := HFA.out (w6.drewN nq) (bel_on HB6.out (below_drewN _ _))
            obtain ⟨r0, r1, r2, r3, r4⟩ := hrb.c
            obtain ⟨n0, n1, n2, n3, n4⟩ := hnb.c
            have f0 := hrb.f 0
            have f1 := hrb.f 1
            have f2 := hrb.f 2
            have f3 := hrb.f 3
            have f4 := hrb.f 4
            have HBE := hide (bel_on HW6.out (below_drewN w6 nq))
            clear hrb hnb hmb
            go_wp2
            exact bodyPost_ret (v := .tuple #[.agg #[.int .i64 0, .int .i64 0, .int .i64 0, .int .i64 0, .slice none 0 0], .int .i64 (-1)]) (by simp [results, Tryd.results13, go_sem, r0, r1, r2, r3, r4]) rfl (ReadEnd.no HNO.out (by (repeat (refine Below.setCell ?_ (by first | exact Nat.le_refl _ | (show w.heap.size ≤ w.heap.size + 1 + 1; omega)) _)); exact HBE.out))
end Go.Proofs.YtaajlggpjholeahDoor
