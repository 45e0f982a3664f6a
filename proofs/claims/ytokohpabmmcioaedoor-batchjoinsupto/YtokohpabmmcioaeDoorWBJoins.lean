/- The walk of the law BatchJoins: Join of package batch answers what the document says. Conditions: not more than two million batches; the library's variable errors.errorType is as its text lays it. -/
import Derived.Test.YtokohpabmmcioaeDoorBatC4
import Derived.Test.YtokohpabmmcioaeDoorBatW
import Derived.Test.YtokohpabmmcioaeDoorRBatch
import Derived.Test.YtokohpabmmcioaeDoorSameB
import Derived.Test.YtokohpabmmcioaeDoorErr
import Derived.Test.YtokohpabmmcioaeDoorOpenA
import Derived.StillTailTactics
import Derived.Laws.AppendOwnNone
import Derived.Deep.CutBlock
namespace Go.Proofs.YtokohpabmmcioaeDoor
open Go.RowKit
/-- A list of one batch that was written out. -/
theorem gds_lone {w : World} {B : Nat} {d : Mx × Mx} {s t : Value} (hb : Box w B [.int .i64 d.1.rows, .int .i64 d.1.cols, s, .int .i64 d.2.rows, .int .i64 d.2.cols, t]) (hs : IsInts w s d.1.cells) (ht : IsInts w t d.2.cells) : IsGds w (.slice (some ⟨B, 0, none⟩) 1 1) [d] := by
  refine ⟨_, 1, rfl, Nat.le_refl _, by unfold maxLen; omega, .inr ⟨B, 0, rfl, fun j p hp => ?_⟩⟩
  have hp' : (gdS d)[j]? = some p := by simpa using hp
  rw [Nat.zero_add]
  have h := enc_gd (w := w) (G := fun _ => False) (d := d) (s := s) (t := t) ⟨hs, .inr fun _ _ hf => hf⟩ ⟨ht, .inr fun _ _ hf => hf⟩
  obtain ⟨u, hu, hpu⟩ := h.2 j p hp'
  exact ⟨u, hb j u hu, hpu⟩
theorem map_at {f : Mx × Mx → Mx} {ds : List (Mx × Mx)} {k : Nat} {d : Mx × Mx} (h : ds[k]? = some d) : (ds.map f)[k]? = some (f d) := by rw [List.getElem?_map, h]; rfl
set_option maxHeartbeats 40000000 in
set_option maxRecDepth 100000 in
theorem joins_walk (v0 : Value) (ds : List (Mx × Mx)) (w : World) (h0 : IsGds w v0 ds) (hmax : ds.length ≤ 2000000) (hK : NilsB w v0) (hH : Handle w) : Calls Tryd.prog 4 #[v0] w fun e w' => e = .returned (.bool true) ∧ Below w.heap.size w w' := by
  obtain ⟨a, cap, rfl, hlc, hcm⟩ := h0.shape
  have H0 := hide h0
  have HK := hide hK
  have HMX := hide hmax
  have HH := hide hH
  obtain ⟨n, hn⟩ : ∃ n, ds.length = n := ⟨_, rfl⟩
  have HN := hide hn
  rw [hn] at H0 HK hmax ⊢
  clear h0 hK hH hlc hcm hn
  have HX := hide (bjoin_any (.slice a n cap) ds w H0.out HMX.out)
  obtain ⟨X, hX⟩ : ∃ X, joinX ds = X := ⟨_, rfl⟩
  obtain ⟨JE, hJE⟩ : ∃ E, joinE ds = E := ⟨_, rfl⟩
  rw [hX, hJE] at HX
  have HXJ := hide (And.intro hX hJE)
  obtain ⟨E0, hE0⟩ : ∃ E : Int, E = if n = 0 then 2 else 0 := ⟨_, rfl⟩
  obtain ⟨E1, hE1⟩ : ∃ E : Int, E = firstE ds := ⟨_, rfl⟩
  have HE0 := hide hE0
  have HE1 := hide hE1
  have HDN := hide (show ds = [] ↔ n = 0 from ⟨fun h => by rw [← HN.out, h]; rfl, fun h => List.eq_nil_of_length_eq_zero (HN.out.trans h)⟩)
  clear hX hJE hE0 hE1
  go_enter Tryd.func4, Tryd.ntmps4
  go_wp2_with fail
  refine HX.out.mono ?_
  rintro e u1 ⟨pa, pn, pk, qa, qn, qk, rfl, hp, hq, _, _, hb⟩
  obtain ⟨EV, hEV⟩ : ∃ x, x = errV JE := ⟨_, rfl⟩
  have HEV := hide hEV
  rw [← hEV]
  obtain ⟨V, hV⟩ : ∃ V, V = u1.alloc (.cells #[.int .i64 X.1.rows, .int .i64 X.1.cols, .slice pa pn pk, .int .i64 X.2.rows, .int .i64 X.2.cols, .slice qa qn qk] 26) := ⟨_, rfl⟩
  have HV := hide hV
  have HWV : Hid (Below w.heap.size w V) := by rw [hV]; exact hide (bel_alloc hb)
  have HBX : Hid (Box V u1.heap.size [.int .i64 X.1.rows, .int .i64 X.1.cols, .slice pa pn pk, .int .i64 X.2.rows, .int .i64 X.2.cols, .slice qa qn qk]) := by rw [hV]; exact hide (Box.new u1 _ 26 rfl)
  have HPI : Hid (IsInts V (.slice pa pn pk) X.1.cells ∧ IsInts V (.slice qa qn qk) X.2.cells) := by rw [hV]; exact hide ⟨hp.below (below_one _ _), hq.below (below_one _ _)⟩
  clear HX hp hq hb hEV hV
  go_upto_if 19 with fail
  rw [← HV.out]
  go_cut [5] from 12 to 164 (fun ev wx => ev = .int .i64 E0 ∧ V = wx)
  case first => as_aux_lemma =>
    by_cases c0 : n = 0
    · have hq : ((n : Int) == 0) = true := by simp [c0]
      have HC := hide (show E0 = 2 by rw [HE0.out, if_pos c0])
      clear c0
      go_wp2
      go_meet
      exact ⟨by rw [HC.out], rfl⟩
    · have hq : ((n : Int) == 0) = false := by simp; omega
      have HC := hide (show E0 = 0 by rw [HE0.out, if_neg c0])
      clear c0
      go_wp2
      go_meet
      exact ⟨by rw [HC.out], rfl⟩
  case rest =>
  obtain ⟨rfl, rfl⟩ := hcut
  go_upto_block 0 with fail
  go_cut [5, 6] from 12 to 164 (fun ev iv wx => ev = .int .i64 E1 ∧ Below V.heap.size V wx)
  case first => as_aux_lemma =>
    go_wp2_with fail
    go_loopw [5, 6] (fun ev iv wr => ∃ (k : Nat) (xk F : Int), k ≤ n ∧ xk = (k : Int) ∧ iv = .int .i64 xk ∧ ev = .int .i64 F ∧ F = (if n = 0 then 2 else bfaults (ds.take k)) ∧ Below V.heap.size V wr) (fun _ iv _ => n - (intOf iv).toNat)
    case atStart => exact ⟨0, 0, E0, Nat.zero_le _, rfl, rfl, rfl, HE0.out, Below.refl _ _⟩
    case round =>
      obtain ⟨k, xk, G, hk, hxk, rfl, rfl, hG, hbw⟩ := hrel
      have HXK := hide hxk
      have HG := hide hG
      have HB := hide hbw
      have hx0 : 0 ≤ xk := by omega
      have hx1 : xk ≤ 2000000 := by omega
      clear hxk hG hbw
      by_cases hlt : xk < (n : Int)
      · have hkn : k < n := by have := HXK.out; omega
        have hxn : xk.toNat = k := by have := HXK.out; omega
        have HGN := hide (show G = bfaults (ds.take k) by rw [HG.out, if_neg (by omega)])
        by_cases hz : G = 0
        · subst hz
          obtain ⟨d, hd⟩ : ∃ x, ds[k]? = some x := ⟨ds[k]'(by have := HN.out; omega), List.getElem?_eq_getElem _⟩
          obtain ⟨b, off, cp, sa, sn, sk, ta, tn, tk, ev, k0, k1, k2, k3, k4, k5, hs, ht⟩ := H0.out.at hd
          injection ev with ev1 ev2 ev3
          clear ev2 ev3
          subst ev1
          have HBW := hide (below_next HWV.out HB.out)
          rw [← hxn] at k0 k1 k2 k3 k4 k5
          replace k0 := cell_below HBW.out k0
          replace k1 := cell_below HBW.out k1
          replace k2 := cell_below HBW.out k2
          replace k3 := cell_below HBW.out k3
          replace k4 := cell_below HBW.out k4
          replace k5 := cell_below HBW.out k5
          have HM := hide (rbatfault_any d sa sn sk ta tn tk wr (hs.below HBW.out) (ht.below HBW.out))
          have HD := hide hd
          have HKN := hide hkn
          clear hd hs ht hxn hkn
          go_wp2_with fail
          refine HM.out.mono ?_
          rintro e w2 ⟨rfl, hb⟩
          have HB2 := hide (below_next HB.out hb)
          clear hb HM k0 k1 k2 k3 k4 k5
          go_wp2
          go_roundw
          case rel => exact ⟨k + 1, _, _, HKN.out, by have := HXK.out; omega, rfl, rfl, by rw [if_neg (by have := HKN.out; omega), take_end HD.out, bfaults_snoc, if_pos HGN.out.symm], HB2.out⟩
          case measure => have := HXK.out; have := HKN.out; simp [intOf]; omega
        · have hq : (G == 0) = false := by simpa using hz
          have HC := hide (show G = E1 by
            rw [HE1.out]; unfold firstE; rw [if_neg (fun h => by have := HDN.out.1 h; omega)]
            have e2 : ds = ds.take k ++ ds.drop k := (List.take_append_drop _ _).symm
            rw [e2, bfaults_app _ _ (by rw [← HGN.out]; exact hz), HGN.out])
          clear hz hxn hkn
          go_wp2
          go_meet
          exact ⟨by rw [HC.out], HB.out⟩
      · have hkn : k = n := by have := HXK.out; omega
        have HC := hide (show G = E1 by
          rw [HG.out, HE1.out, hkn, List.take_of_length_le (by have := HN.out; omega)]; unfold firstE
          by_cases c : n = 0
          · rw [if_pos c, if_pos (HDN.out.2 c)]
          · rw [if_neg c, if_neg (fun h => c (HDN.out.1 h))])
        clear hkn
        go_wp2
        go_meet
        exact ⟨by rw [HC.out], HB.out⟩
  case rest =>
  obtain ⟨rfl, hbc⟩ := hcut
  obtain ⟨W1, hW1⟩ : ∃ x, x = wc := ⟨_, rfl⟩
  subst hW1
  obtain ⟨V2, hV2⟩ : ∃ x, x = W1.alloc (.cells #[.int .i64 0, .int .i64 0, .slice none 0 0, .int .i64 0, .int .i64 0, .slice none 0 0] 26) := ⟨_, rfl⟩
  have HV2 := hide hV2
  obtain ⟨B, hB⟩ : ∃ x, W1.heap.size = x := ⟨_, rfl⟩
  have HBB := hide hB
  have HS2 : Hid (V2.heap.size = B + 1) := by rw [hV2, ← hB]; exact hide (by simp)
  have HC2 : Hid (Below V.heap.size V V2) := by rw [hV2]; exact hide (bel_alloc hbc)
  have LB : Hid (V.heap.size ≤ B) := by rw [← hB]; exact hide hbc.size
  have HM2 : Hid (Mut6 V2 B [.int .i64 0, .int .i64 0, .slice none 0 0, .int .i64 0, .int .i64 0, .slice none 0 0]) := by rw [hV2]; exact hide (Mut6.new W1 _ 26 hB)
  have HB2 : Hid (B < V2.heap.size) := by rw [HS2.out]; exact hide (Nat.lt_succ_self _)
  have hl1 : (ds.map Prod.fst).length = n := by rw [List.length_map]; exact HN.out
  have hl2 : (ds.map Prod.snd).length = n := by rw [List.length_map]; exact HN.out
  obtain ⟨ms1, hm1⟩ : ∃ l, ds.map Prod.fst = l := ⟨_, rfl⟩
  obtain ⟨ms2, hm2⟩ : ∃ l, ds.map Prod.snd = l := ⟨_, rfl⟩
  rw [hm1] at hl1
  rw [hm2] at hl2
  have HL1 := hide hl1
  have HL2 := hide hl2
  have HMS1 := hide hm1
  have HMS2 := hide hm2
  have HGD1 := hide (show E1 = 0 → ∀ x ∈ ms1, ∃ R C, Good x R C from fun h x hx => by
    rw [← HMS1.out] at hx
    obtain ⟨d, hd, rfl⟩ := List.mem_map.1 hx
    exact ((first_good (by rw [← HE1.out]; exact h)).2 d hd).1)
  have HGD2 := hide (show E1 = 0 → ∀ x ∈ ms2, ∃ R C, Good x R C from fun h x hx => by
    rw [← HMS2.out] at hx
    obtain ⟨d, hd, rfl⟩ := List.mem_map.1 hx
    exact ((first_good (by rw [← HE1.out]; exact h)).2 d hd).2.1)
  have HNP := hide (show E1 = 0 → n ≠ 0 from fun h c => (first_good (by rw [← HE1.out]; exact h)).1 (HDN.out.2 c))
  obtain ⟨E2, hE2⟩ : ∃ E : Int, E = halfE E1 ms1 := ⟨_, rfl⟩
  have HE2 := hide hE2
  clear hbc hV2 hB hl1 hl2 hm1 hm2 hE2
  go_upto_block 2 with fail
  rw [← HV2.out, HBB.out]
  clear HV2 HBB
  go_cut [5, 8] from 12 to 164 (fun ev iv wx => ∃ (S cK : Int) (v : Value), ev = .int .i64 E2 ∧ V2.grownBy wx (some B) ∧ Mut6 wx B [.int .i64 S, .int .i64 cK, v, .int .i64 0, .int .i64 0, .slice none 0 0] ∧ (∃ a n k, v = .slice a n k) ∧ (E2 = 0 → S = sumR ms1 ∧ cK = (ms1.headD noMx).cols ∧ wx.ownsRow V2.heap.size 3 1 v (catC ms1).length ((catC ms1).map (Value.int .i64))))
  case first => as_aux_lemma =>
    go_wp2_with fail
    go_loopw [5, 8] (fun ev iv wr => ∃ (k : Nat) (xk F cK : Int) (v : Value), k ≤ n ∧ xk = (k : Int) ∧ iv = .int .i64 xk ∧ ev = .int .i64 F ∧ V2.grownBy wr (some B) ∧ Mut6 wr B [.int .i64 (sumR (ms1.take k)), .int .i64 cK, v, .int .i64 0, .int .i64 0, .slice none 0 0] ∧ wr.ownsRow V2.heap.size 3 1 v (catC (ms1.take k)).length ((catC (ms1.take k)).map (Value.int .i64)) ∧ (k = 0 ∨ cK = (ms1.headD noMx).cols) ∧ ((F = 0 ∧ E1 = 0 ∧ ∀ (j : Nat) x y, j < k → ms1[j]? = some x → ms1[0]? = some y → x.cols = y.cols) ∨ (F = 2 ∧ E1 = 0 ∧ sameC ms1 = false) ∨ (F = E1 ∧ E1 ≠ 0 ∧ k = 0))) (fun _ iv _ => n - (intOf iv).toNat)
    case atStart =>
      refine ⟨0, 0, E1, 0, .slice none 0 0, Nat.zero_le _, rfl, rfl, rfl, World.grownBy.refl _ _, HM2.out, World.ownsRow_nil _ _ _ _, .inl rfl, ?_⟩
      by_cases q : E1 = 0
      · exact .inl ⟨q, q, fun j x y hj _ _ => by omega⟩
      · exact .inr (.inr ⟨rfl, q, rfl⟩)
    case round =>
      obtain ⟨k, xk, G, cK, v, hk, hxk, rfl, rfl, hgr, hmu, how, hck, hor⟩ := hrel
      obtain ⟨ja, jn, jk, rfl⟩ := own_shape how
      have HXK := hide hxk
      have HGR := hide hgr
      have HMU := hide hmu
      have HOW := hide how
      have HCK := hide hck
      have HOR := hide hor
      have HBV := hide (show Below V.heap.size V wr from HC2.out.grown hgr HC2.out.size (fun q hq => by rw [← Option.some.inj hq]; exact LB.out))
      have HBW := hide (below_next HWV.out HBV.out)
      have hx0 : 0 ≤ xk := by omega
      have hx1 : xk ≤ 2000000 := by omega
      clear hxk hgr hmu how hck hor
      have fin : ∀ (hex : E2 = G) (hall : E2 = 0 → k = n), (∃ (S c : Int) (v : Value), Value.int .i64 G = .int .i64 E2 ∧ V2.grownBy wr (some B) ∧ Mut6 wr B [.int .i64 S, .int .i64 c, v, .int .i64 0, .int .i64 0, .slice none 0 0] ∧ (∃ a n k, v = .slice a n k) ∧ (E2 = 0 → S = sumR ms1 ∧ c = (ms1.headD noMx).cols ∧ wr.ownsRow V2.heap.size 3 1 v (catC ms1).length ((catC ms1).map (Value.int .i64)))) := fun hex hall => ⟨_, cK, .slice ja jn jk, by rw [hex], HGR.out, HMU.out, ⟨_, _, _, rfl⟩, fun hz => by
        have hkn := hall hz
        have ht : ms1.take k = ms1 := List.take_of_length_le (by rw [HL1.out]; omega)
        rw [ht]
        refine ⟨rfl, ?_, by have h := HOW.out; rw [ht] at h; exact h⟩
        refine HCK.out.resolve_left (fun h => ?_)
        have h1 : E1 = 0 := by have h2 := HE2.out; rw [hz] at h2; unfold halfE at h2; by_cases q : E1 = 0; exact q; rw [if_pos q] at h2; exact absurd h2.symm q
        have := HNP.out (id h1)
        omega⟩
      have FIN := hide fin
      clear fin
      by_cases hlt : xk < (n : Int)
      · have hkn : k < n := by have := HXK.out; omega
        rcases HOR.out with ⟨hz, hs0, hal⟩ | ⟨hz, hs0, hsc⟩ | ⟨hz, hs0, _⟩
        rotate_left
        · have HFE := hide (FIN.out (by rw [HE2.out, hz]; unfold halfE; rw [if_neg (by simp [hs0]), if_pos hsc]) (fun h => by rw [HE2.out] at h; unfold halfE at h; rw [if_neg (by simp [hs0]), if_pos hsc] at h; cases h))
          have hq : (G == 0) = false := by rw [hz]; rfl
          clear hz hs0 hsc hkn
          go_wp2
          go_meet
          exact HFE.out
        · have HFE := hide (FIN.out (by rw [HE2.out, hz]; unfold halfE; rw [if_pos hs0]) (fun h => by rw [HE2.out] at h; unfold halfE at h; rw [if_pos hs0] at h; exact absurd h hs0))
          have hq : (G == 0) = false := by rw [hz]; simpa using hs0
          clear hz hs0 hkn
          go_wp2
          go_meet
          exact HFE.out
        subst hz
        have HAL := hide hal
        have HS0 := hide hs0
        clear hal hs0
        have hxn : xk.toNat = k := by have := HXK.out; omega
        obtain ⟨d, hd⟩ : ∃ x, ds[k]? = some x := ⟨ds[k]'(by have := HN.out; omega), List.getElem?_eq_getElem _⟩
        obtain ⟨d0, hd0⟩ : ∃ x, ds[0]? = some x := ⟨ds[0]'(by have := HN.out; omega), List.getElem?_eq_getElem _⟩
        obtain ⟨b, off, cp, sa, sn, sk, ta, tn, tk, ev, k0, k1, k2, k3, k4, k5, hs, ht⟩ := H0.out.at hd
        injection ev with ev1 ev2 ev3
        clear ev2 ev3
        subst ev1
        obtain ⟨b', off', cp', _, _, _, _, _, _, ev, y0, y1, y2, y3, y4, y5, _, _⟩ := H0.out.at hd0
        injection ev with ev1 ev2 ev3
        clear ev2 ev3
        have ev1 := Option.some.inj ev1
        injection ev1 with ev1 ev2
        subst ev1 ev2
        rw [Nat.zero_mul, Nat.add_zero] at y1
        have HNK := hide (show NilOk (.slice sa sn sk) from HK.out _ _ _ _ rfl k hkn _ (.inl k2))
        rw [← hxn] at k0 k1 k2
        have HKK := hide (fun W (h : Below w.heap.size w W) => And.intro (cell_below h k0) (And.intro (cell_below h k1) (And.intro (cell_below h k2) (cell_below h y1))))
        have HSI := hide hs
        obtain ⟨x, hx⟩ : ∃ x, d.1 = x := ⟨_, rfl⟩
        obtain ⟨y, hy⟩ : ∃ y, d0.1 = y := ⟨_, rfl⟩
        rw [hx, hy] at HKK
        rw [hx] at HSI
        have HX := hide (show ms1[k]? = some x by rw [← HMS1.out, map_at hd, ← hx])
        have HY := hide (show ms1[0]? = some y by rw [← HMS1.out, map_at hd0, ← hy])
        have hgx := HGD1.out (id HS0.out) x (List.mem_of_getElem? HX.out)
        obtain ⟨R, Cx, gx⟩ := hgx
        have hr0 : 0 ≤ x.rows := by have := gx.r; omega
        have hr1 : x.rows ≤ 24 := by have := gx.r; have := gx.hR; omega
        have hxl : x.cells.length ≤ 288 := by rw [gx.l]; have := Nat.mul_le_mul gx.hR gx.hC; omega
        have hbB : b ≠ B := by
          have h1 := World.block_lt_of_cell? w _ y0
          have h2 := HWV.out.size
          have h3 := LB.out
          simp only [] at h1
          omega
        have hsb := sumR_bd (ms := ms1.take k) (fun z hz => by obtain ⟨R, C, g⟩ := HGD1.out (id HS0.out) z (List.mem_of_mem_take hz); have := g.r; have := g.hR; omega)
        have hsl : (ms1.take k).length ≤ 2000000 := by rw [List.length_take, HL1.out]; omega
        obtain ⟨S, hS⟩ : ∃ S, sumR (ms1.take k) = S := ⟨_, rfl⟩
        rw [hS] at hsb HMU
        have hS0 : 0 ≤ S := hsb.1
        have hS1 : S ≤ 48000000 := by omega
        have HS := hide hS
        have hcl := catC_len (l := ms1.take k) (fun z hz => HGD1.out (id HS0.out) z (List.mem_of_mem_take hz))
        obtain ⟨N0, hN0⟩ : ∃ N0, (catC (ms1.take k)).length = N0 := ⟨_, rfl⟩
        rw [hN0] at HOW hcl
        have hN0b : N0 ≤ 576000000 := by omega
        have HN0 := hide hN0
        obtain ⟨cb, hcb⟩ : ∃ c, (x.cols != y.cols) = c := ⟨_, rfl⟩
        have HCB := hide hcb
        have HKN := hide hkn
        have HLT := hide hlt
        have HBBn := hide hbB
        have HLn1 := hide (show ms1.length = n from HL1.out)
        clear hd hd0 hs ht hx hy gx hsb hsl hS hcl hN0 k0 k1 k2 k3 k4 k5 y0 y1 y2 y3 y4 y5 hxn FIN
        obtain ⟨d0', d1', d2', d3'⟩ := HKK.out wr HBW.out
        have hn0 : (0 : Int) < (n : Int) := by have := HKN.out; omega
        go_wp2
        go_cut [57] from 36 to 88 (fun c wx => c = .bool cb ∧ Below wr.heap.size wr wx)
        case first =>
          go_quiet (fail)
          go_wp2
          go_meet
          exact ⟨rfl, below_drewN _ _⟩
        case rest =>
        obtain ⟨rfl, hbq⟩ := hcut
        obtain ⟨Wq, hWq⟩ : ∃ x, x = wc := ⟨_, rfl⟩
        subst hWq
        have HBQ := hide (below_next HBW.out hbq)
        have HGQ := hide (grown_below HGR.out hbq)
        have HMQ := hide (HMU.out.below hbq (Nat.lt_of_lt_of_le HB2.out HGR.out.size))
        have HOQ := hide (own_below HOW.out hbq)
        obtain ⟨GG, hGG⟩ : ∃ g : Int, g = if cb = true then 2 else 0 := ⟨_, rfl⟩
        have HGG := hide hGG
        clear hbq d0' d1' d2' d3' hcb hGG hlt
        go_upto_if 57 with fail
        go_cut [5] from 36 to 88 (fun ev wx => ev = .int .i64 GG ∧ Wq = wx)
        case first =>
          cases cb with
          | true =>
            go_wp2
            go_meet
            exact ⟨by rw [HGG.out]; rfl, rfl⟩
          | false =>
            go_wp2
            go_meet
            exact ⟨by rw [HGG.out]; rfl, rfl⟩
        case rest =>
        obtain ⟨rfl, rfl⟩ := hcut
        obtain ⟨d0', d1', d2', d3'⟩ := HKK.out Wq HBQ.out
        have z0 := HMQ.out.1 0 _ rfl
        have z1 := HMQ.out.1 1 _ rfl
        have z2 := HMQ.out.1 2 _ rfl
        have z3 := HMQ.out.2 0
        have z4 := HMQ.out.2 1
        have z5 := HMQ.out.2 2
        go_wp2
        obtain ⟨Wa, hWa⟩ : ∃ Wa, Wa = Wq.setCell ⟨B, 1, none⟩ (.int .i64 y.cols) := ⟨_, rfl⟩
        have HMa : Hid (Mut6 Wa B [.int .i64 S, .int .i64 y.cols, .slice ja jn jk, .int .i64 0, .int .i64 0, .slice none 0 0]) := by rw [hWa]; exact hide (HMQ.out.put 1 _)
        have HOa : Hid (Wa.ownsRow V2.heap.size 3 1 (.slice ja jn jk) N0 ((catC (ms1.take k)).map (Value.int .i64))) := by rw [hWa]; exact hide (own_set HOQ.out HB2.out _ _)
        have HGa : Hid (V2.grownBy Wa (some B)) := by rw [hWa]; exact hide (grown_set HGQ.out _ _)
        have HBa : Hid (Below w.heap.size w Wa) := by rw [hWa]; exact hide (HBQ.out.setCell (Nat.le_trans HWV.out.size LB.out) _)
        rw [← hWa]
        clear hWa z0 z1 z2 z3 z4 z5 d0' d1' d2' d3'
        obtain ⟨d0', d1', d2', d3'⟩ := HKK.out Wa HBa.out
        have z0 := HMa.out.1 0 _ rfl
        have z1 := HMa.out.1 1 _ rfl
        have z2 := HMa.out.1 2 _ rfl
        have z3 := HMa.out.2 0
        have z4 := HMa.out.2 1
        have z5 := HMa.out.2 2
        have hlt := HLT.out
        refine region_tail 12 (by kernel_rfl) (by kernel_rfl) ?_
        simp only [List.take_succ_cons, List.take_zero, List.drop_succ_cons, List.drop_zero]
        repeat still_step
        refine wpStill_nil ?_
        go_wp2
        obtain ⟨Wb, hWb⟩ : ∃ Wb, Wb = (Wa.setCell ⟨B, 0, none⟩ (.int .i64 (S + x.rows))).drew := ⟨_, rfl⟩
        have HMb : Hid (Mut6 Wb B [.int .i64 (S + x.rows), .int .i64 y.cols, .slice ja jn jk, .int .i64 0, .int .i64 0, .slice none 0 0]) := by rw [hWb]; exact hide (HMa.out.put 0 _).drew
        have HOb : Hid (Wb.ownsRow V2.heap.size 3 1 (.slice ja jn jk) N0 ((catC (ms1.take k)).map (Value.int .i64))) := by rw [hWb]; exact hide (own_drew (own_set HOa.out HB2.out _ _))
        have HGb : Hid (V2.grownBy Wb (some B)) := by rw [hWb]; exact hide (grown_drew (grown_set HGa.out _ _))
        have HBb : Hid (Below w.heap.size w Wb) := by rw [hWb]; exact hide (below_dr (HBa.out.setCell (Nat.le_trans HWV.out.size LB.out) _))
        rw [← hWb]
        clear hWb z0 z1 z2 z3 z4 z5 d0' d1' d2' d3' HMa HOa HGa HBa
        obtain ⟨d0', d1', d2', d3'⟩ := HKK.out Wb HBb.out
        have z0 := HMb.out.1 0 _ rfl
        have z1 := HMb.out.1 1 _ rfl
        have z2 := HMb.out.1 2 _ rfl
        have z3 := HMb.out.2 0
        have z4 := HMb.out.2 1
        have z5 := HMb.out.2 2
        obtain ⟨a0, cap0, es, hs2, hs3, hs4⟩ := HSI.out.below HBb.out
        injection es with es1 es2 es3
        subst es1 es2 es3
        obtain ⟨i0, ei, hz0, hz1, hz2⟩ := info_parts infoInt
        have HEI := hide (And.intro ei (And.intro hz0 (And.intro hz1 hz2)))
        have HS4 := hide hs4
        have HOR2 := hide (show ((GG = 0 ∧ E1 = 0 ∧ ∀ (j : Nat) x y, j < k + 1 → ms1[j]? = some x → ms1[0]? = some y → x.cols = y.cols) ∨ (GG = 2 ∧ E1 = 0 ∧ sameC ms1 = false) ∨ (GG = E1 ∧ E1 ≠ 0 ∧ k + 1 = 0)) by
          by_cases q : x.cols = y.cols
          · have qc : cb = false := by rw [← HCB.out]; exact eqF q
            refine .inl ⟨by rw [HGG.out, qc]; rfl, HS0.out, fun j z u hj hz hu => ?_⟩
            rcases Nat.lt_or_ge j k with h | h
            · exact HAL.out j z u h hz hu
            · have q1 : z = x := Option.some.inj (by rw [← hz, show j = k by omega, HX.out])
              have q2 : u = y := Option.some.inj (by rw [← hu, HY.out])
              rw [q1, q2]; exact q
          · have qc : cb = true := by rw [← HCB.out]; exact eqT q
            exact .inr (.inl ⟨by rw [HGG.out, qc]; rfl, HS0.out, (sameC_no HX.out HY.out q).symm⟩))
        have HHD := hide (show y.cols = (ms1.headD noMx).cols by rw [head_at HY.out])
        have HXE := hide (show x.cells.length = x.cells.length from rfl)
        clear hs4 ei hz0 hz1 hz2 hs2 hs3
        obtain ⟨Nx, hNx⟩ : ∃ q, x.cells.length = q := ⟨_, rfl⟩
        have HNx := hide hNx
        rw [hNx] at d2' hxl HNK
        clear hNx HXE
        refine region_tail 9 (by kernel_rfl) (by kernel_rfl) ?_
        simp only [List.take_succ_cons, List.take_zero, List.drop_succ_cons, List.drop_zero]
        cases sa with
        | none =>
          obtain ⟨q1, q2⟩ := HNK.out _ _ rfl
          have HXE : Hid (x.cells = []) := hide (List.eq_nil_of_length_eq_zero (by rw [HNx.out]; exact q1))
          rw [q1, q2] at d2'
          clear q1 q2
          repeat still_step
          refine wpStill_nil ?_
          refine wpList_append_own_none rfl _ _ 22 rfl V2.heap.size 3 i0 1 Tryd.underlying22 HEI.out.1 _ N0 _ rfl (own_drew HOb.out) rfl ?_
          go_wp2
          go_roundw
          case rel => exact ⟨k + 1, _, GG, y.cols, .slice ja jn jk, by have := HKN.out; omega, by have := HXK.out; omega, rfl, rfl, grown_drew (grown_set HGb.out _ _), by rw [take_end HX.out, sumR_snoc, HS.out]; exact (HMb.out.put 2 _).drew, by rw [take_end HX.out, catC_snoc, HXE.out, List.append_nil, HN0.out]; exact own_drew (own_set HOb.out HB2.out _ _), .inr HHD.out, HOR2.out⟩
          case measure => have := HXK.out; have := HKN.out; simp [intOf]; omega
        | some ad =>
          repeat still_step
          refine wpStill_nil ?_
          go_wp2_with (at_builtin; refine wpList_append_own _ rfl _ _ 22 rfl V2.heap.size 3 i0 (.int .i64 0) 1 8 Tryd.underlying22 HEI.out.1 HEI.out.2.1 HEI.out.2.2.1 HEI.out.2.2.2 rfl (by decide) _ N0 _ rfl (own_drew HOb.out) ad Nx sk (x.cells.map (Value.int .i64)) rfl (by simp [HNx.out]) ?c1 ?c2 ?c3 ?c4 ?c5 ?_)
          case c1 =>
            intro j u hj
            rcases HS4.out with h0 | ⟨bb, oo, ha, hcc⟩
            · rw [h0] at hj; simp at hj
            · have ha := Option.some.inj ha
              rw [ha, Addr.add_lit]
              rw [List.getElem?_map] at hj
              obtain ⟨v, hv, rfl⟩ := Option.map_eq_some_iff.1 hj
              exact hcc j v hv
          case c2 => intro u hu; obtain ⟨v, _, rfl⟩ := List.mem_map.1 hu; rfl
          case c3 => unfold maxLen; omega
          case c4 => omega
          case c5 => exact HGb.out.size
          intro v' w' hown' hgrow _
          obtain ⟨wa, wn, wk, rfl⟩ := own_shape hown'
          have hgb : Wb.grownBy w' (Value.slice ja jn jk).ownBlock := ⟨hgrow.os, hgrow.tape, hgrow.output, hgrow.size, hgrow.block⟩
          have hown : ∀ q, (Value.slice ja jn jk).ownBlock = some q → V2.heap.size ≤ q := fun q hq => (World.ownsRow.lt HOb.out q hq).1
          have hBo : some B ≠ (Value.slice ja jn jk).ownBlock := fun q => by have := hown B q.symm; have := HB2.out; omega
          have HMc := hide (HMb.out.grown hgb (Nat.lt_of_lt_of_le HB2.out HGb.out.size) hBo)
          have HGc := hide (grown_more HGb.out hgb hown)
          have HOc := hide hown'
          have x0 := HMc.out.1 0 _ rfl
          have x1 := HMc.out.1 1 _ rfl
          have x2 := HMc.out.1 2 _ rfl
          have x3 := HMc.out.2 0
          have x4 := HMc.out.2 1
          have x5 := HMc.out.2 2
          clear hown' hgrow hgb hown hBo z0 z1 z2 z3 z4 z5 d0' d1' d2' d3'
          go_wp2
          go_roundw
          case rel => exact ⟨k + 1, _, GG, y.cols, .slice wa wn wk, by have := HKN.out; omega, by have := HXK.out; omega, rfl, rfl, grown_set HGc.out _ _, by rw [take_end HX.out, sumR_snoc, HS.out]; exact HMc.out.put 2 _, by rw [take_end HX.out, catC_snoc, List.length_append, List.map_append, HN0.out, HNx.out]; exact own_set HOc.out HB2.out _ _, .inr HHD.out, HOR2.out⟩
          case measure => have := HXK.out; have := HKN.out; simp [intOf]; omega
      · have hkn : k = n := by have := HXK.out; omega
        have HFE := hide (FIN.out (by
          rcases HOR.out with ⟨hz, hs0, hal⟩ | ⟨hz, hs0, hsc⟩ | ⟨hz, hs0, _⟩
          · have hsy := sameC_yes (ms := ms1) (by rw [HL1.out]; have := HNP.out (id hs0); omega) (fun j x y hj hx hy => hal j x y (by rw [HL1.out] at hj; omega) hx hy)
            rw [HE2.out, hz]; unfold halfE; rw [if_neg (by simp [hs0]), if_neg (by rw [← hsy]; decide)]
          · rw [HE2.out, hz]; unfold halfE; rw [if_neg (by simp [hs0]), if_pos hsc]
          · rw [HE2.out, hz]; unfold halfE; rw [if_pos hs0]) (fun _ => hkn))
        clear hkn
        go_wp2
        go_meet
        exact HFE.out
  case rest =>
  obtain ⟨S1, c1, v1, rfl, hgr, hmu, ⟨va, vn, vk, rfl⟩, hfin⟩ := hcut
  obtain ⟨W3, hW3⟩ : ∃ x, x = wc := ⟨_, rfl⟩
  subst hW3
  have HM3 := hide hmu
  have HB3 := hide (Nat.lt_of_lt_of_le HB2.out hgr.size)
  have HC3 := hide (show Below V.heap.size V W3 from HC2.out.grown hgr HC2.out.size (fun q hq => by rw [← Option.some.inj hq]; exact LB.out))
  have HF3 := hide hfin
  have HG3 := hide hgr
  have m0 := HM3.out.1 0 _ rfl
  obtain ⟨cb, hcb⟩ : ∃ c : Bool, c = decide (E2 = 0 ∧ 24 < S1) := ⟨_, rfl⟩
  have HCB := hide hcb
  obtain ⟨E3, hE3⟩ : ∃ E : Int, E = if E2 = 0 ∧ 24 < S1 then 3 else E2 := ⟨_, rfl⟩
  have HE3 := hide hE3
  clear hgr hmu hfin hcb hE3
  go_upto_region 18 with fail
  go_cut [96] from 89 to 96 (fun c wx => c = .bool cb ∧ W3 = wx)
  case first => as_aux_lemma =>
    by_cases q : E2 = 0
    · have q1 : (E2 == 0) = true := by simp [q]
      by_cases r : 24 < S1
      · have HQ := hide (show cb = true by rw [HCB.out]; simp [q, r])
        clear q
        go_wp2
        go_meet
        exact ⟨by rw [HQ.out], rfl⟩
      · have HQ := hide (show cb = false by rw [HCB.out]; simp [r])
        clear q
        go_wp2
        go_meet
        exact ⟨by rw [HQ.out], rfl⟩
    · have q1 : (E2 == 0) = false := by simpa using q
      have HQ := hide (show cb = false by rw [HCB.out]; simp [q])
      clear q
      go_wp2
      go_meet
      exact ⟨by rw [HQ.out], rfl⟩
  case rest =>
  obtain ⟨rfl, rfl⟩ := hcut
  go_upto_if 96 with fail
  go_cut [5] from 12 to 164 (fun ev wx => ev = .int .i64 E3 ∧ W3 = wx)
  case first => as_aux_lemma =>
    cases cb with
    | true =>
      have HQ := hide (show E3 = 3 by rw [HE3.out, if_pos (of_decide_eq_true HCB.out.symm)])
      go_wp2
      go_meet
      exact ⟨by rw [HQ.out], rfl⟩
    | false =>
      have HQ := hide (show E3 = E2 by rw [HE3.out, if_neg (of_decide_eq_false HCB.out.symm)])
      go_wp2
      go_meet
      exact ⟨by rw [HQ.out], rfl⟩
  case rest =>
  obtain ⟨rfl, rfl⟩ := hcut
  have HE30 := hide (show E3 = 0 → E1 = 0 from fun h => by
    have h3 := HE3.out
    by_cases q : E2 = 0 ∧ 24 < S1
    · rw [if_pos q, h] at h3; cases h3
    · rw [if_neg q, h] at h3
      have h2 := HE2.out
      rw [← h3] at h2
      unfold halfE at h2
      by_cases r : E1 = 0
      · exact r
      · rw [if_pos r] at h2; exact absurd h2.symm r)
  obtain ⟨E4, hE4⟩ : ∃ E : Int, E = halfE E3 ms2 := ⟨_, rfl⟩
  have HE4 := hide hE4
  clear hE4 m0
  go_upto_block 4 with fail
  go_cut [5, 9] from 12 to 164 (fun ev iv wx => ∃ (S cK : Int) (v : Value), ev = .int .i64 E4 ∧ W3.grownBy wx (some B) ∧ Mut6 wx B [.int .i64 S1, .int .i64 c1, .slice va vn vk, .int .i64 S, .int .i64 cK, v] ∧ (∃ a n k, v = .slice a n k) ∧ (E4 = 0 → S = sumR ms2 ∧ cK = (ms2.headD noMx).cols ∧ wx.ownsRow W3.heap.size 3 1 v (catC ms2).length ((catC ms2).map (Value.int .i64))))
  case first => as_aux_lemma =>
    go_wp2_with fail
    go_loopw [5, 9] (fun ev iv wr => ∃ (k : Nat) (xk F cK : Int) (v : Value), k ≤ n ∧ xk = (k : Int) ∧ iv = .int .i64 xk ∧ ev = .int .i64 F ∧ W3.grownBy wr (some B) ∧ Mut6 wr B [.int .i64 S1, .int .i64 c1, .slice va vn vk, .int .i64 (sumR (ms2.take k)), .int .i64 cK, v] ∧ wr.ownsRow W3.heap.size 3 1 v (catC (ms2.take k)).length ((catC (ms2.take k)).map (Value.int .i64)) ∧ (k = 0 ∨ cK = (ms2.headD noMx).cols) ∧ ((F = 0 ∧ E3 = 0 ∧ ∀ (j : Nat) x y, j < k → ms2[j]? = some x → ms2[0]? = some y → x.cols = y.cols) ∨ (F = 2 ∧ E3 = 0 ∧ sameC ms2 = false) ∨ (F = E3 ∧ E3 ≠ 0 ∧ k = 0))) (fun _ iv _ => n - (intOf iv).toNat)
    case atStart =>
      refine ⟨0, 0, E3, 0, .slice none 0 0, Nat.zero_le _, rfl, rfl, rfl, World.grownBy.refl _ _, HM3.out, World.ownsRow_nil _ _ _ _, .inl rfl, ?_⟩
      by_cases q : E3 = 0
      · exact .inl ⟨q, q, fun j x y hj _ _ => by omega⟩
      · exact .inr (.inr ⟨rfl, q, rfl⟩)
    case round =>
      obtain ⟨k, xk, G, cK, v, hk, hxk, rfl, rfl, hgr, hmu, how, hck, hor⟩ := hrel
      obtain ⟨ja, jn, jk, rfl⟩ := own_shape how
      have HXK := hide hxk
      have HGR := hide hgr
      have HMU := hide hmu
      have HOW := hide how
      have HCK := hide hck
      have HOR := hide hor
      have HBV := hide (show Below V.heap.size V wr from HC3.out.grown hgr HC3.out.size (fun q hq => by rw [← Option.some.inj hq]; exact LB.out))
      have HBW := hide (below_next HWV.out HBV.out)
      have hx0 : 0 ≤ xk := by omega
      have hx1 : xk ≤ 2000000 := by omega
      clear hxk hgr hmu how hck hor
      have fin : ∀ (hex : E4 = G) (hall : E4 = 0 → k = n), (∃ (S c : Int) (v : Value), Value.int .i64 G = .int .i64 E4 ∧ W3.grownBy wr (some B) ∧ Mut6 wr B [.int .i64 S1, .int .i64 c1, .slice va vn vk, .int .i64 S, .int .i64 c, v] ∧ (∃ a n k, v = .slice a n k) ∧ (E4 = 0 → S = sumR ms2 ∧ c = (ms2.headD noMx).cols ∧ wr.ownsRow W3.heap.size 3 1 v (catC ms2).length ((catC ms2).map (Value.int .i64)))) := fun hex hall => ⟨_, cK, .slice ja jn jk, by rw [hex], HGR.out, HMU.out, ⟨_, _, _, rfl⟩, fun hz => by
        have hkn := hall hz
        have ht : ms2.take k = ms2 := List.take_of_length_le (by rw [HL2.out]; omega)
        rw [ht]
        refine ⟨rfl, ?_, by have h := HOW.out; rw [ht] at h; exact h⟩
        refine HCK.out.resolve_left (fun h => ?_)
        have h1 : E3 = 0 := by have h2 := HE4.out; rw [hz] at h2; unfold halfE at h2; by_cases q : E3 = 0; exact q; rw [if_pos q] at h2; exact absurd h2.symm q
        have := HNP.out (HE30.out h1)
        omega⟩
      have FIN := hide fin
      clear fin
      by_cases hlt : xk < (n : Int)
      · have hkn : k < n := by have := HXK.out; omega
        rcases HOR.out with ⟨hz, hs0, hal⟩ | ⟨hz, hs0, hsc⟩ | ⟨hz, hs0, _⟩
        rotate_left
        · have HFE := hide (FIN.out (by rw [HE4.out, hz]; unfold halfE; rw [if_neg (by simp [hs0]), if_pos hsc]) (fun h => by rw [HE4.out] at h; unfold halfE at h; rw [if_neg (by simp [hs0]), if_pos hsc] at h; cases h))
          have hq : (G == 0) = false := by rw [hz]; rfl
          clear hz hs0 hsc hkn
          go_wp2
          go_meet
          exact HFE.out
        · have HFE := hide (FIN.out (by rw [HE4.out, hz]; unfold halfE; rw [if_pos hs0]) (fun h => by rw [HE4.out] at h; unfold halfE at h; rw [if_pos hs0] at h; exact absurd h hs0))
          have hq : (G == 0) = false := by rw [hz]; simpa using hs0
          clear hz hs0 hkn
          go_wp2
          go_meet
          exact HFE.out
        subst hz
        have HAL := hide hal
        have HS0 := hide hs0
        clear hal hs0
        have hxn : xk.toNat = k := by have := HXK.out; omega
        obtain ⟨d, hd⟩ : ∃ x, ds[k]? = some x := ⟨ds[k]'(by have := HN.out; omega), List.getElem?_eq_getElem _⟩
        obtain ⟨d0, hd0⟩ : ∃ x, ds[0]? = some x := ⟨ds[0]'(by have := HN.out; omega), List.getElem?_eq_getElem _⟩
        obtain ⟨b, off, cp, sa, sn, sk, ta, tn, tk, ev, k0, k1, k2, k3, k4, k5, hs, ht⟩ := H0.out.at hd
        injection ev with ev1 ev2 ev3
        clear ev2 ev3
        subst ev1
        obtain ⟨b', off', cp', _, _, _, _, _, _, ev, y0, y1, y2, y3, y4, y5, _, _⟩ := H0.out.at hd0
        injection ev with ev1 ev2 ev3
        clear ev2 ev3
        have ev1 := Option.some.inj ev1
        injection ev1 with ev1 ev2
        subst ev1 ev2
        rw [Nat.zero_mul, Nat.add_zero] at y4
        have HNK := hide (show NilOk (.slice ta tn tk) from HK.out _ _ _ _ rfl k hkn _ (.inr k5))
        rw [← hxn] at k3 k4 k5
        have HKK := hide (fun W (h : Below w.heap.size w W) => And.intro (cell_below h k3) (And.intro (cell_below h k4) (And.intro (cell_below h k5) (cell_below h y4))))
        have HSI := hide ht
        obtain ⟨x, hx⟩ : ∃ x, d.2 = x := ⟨_, rfl⟩
        obtain ⟨y, hy⟩ : ∃ y, d0.2 = y := ⟨_, rfl⟩
        rw [hx, hy] at HKK
        rw [hx] at HSI
        have HX := hide (show ms2[k]? = some x by rw [← HMS2.out, map_at hd, ← hx])
        have HY := hide (show ms2[0]? = some y by rw [← HMS2.out, map_at hd0, ← hy])
        have hgx := HGD2.out (HE30.out HS0.out) x (List.mem_of_getElem? HX.out)
        obtain ⟨R, Cx, gx⟩ := hgx
        have hr0 : 0 ≤ x.rows := by have := gx.r; omega
        have hr1 : x.rows ≤ 24 := by have := gx.r; have := gx.hR; omega
        have hxl : x.cells.length ≤ 288 := by rw [gx.l]; have := Nat.mul_le_mul gx.hR gx.hC; omega
        have hbB : b ≠ B := by
          have h1 := World.block_lt_of_cell? w _ y0
          have h2 := HWV.out.size
          have h3 := LB.out
          simp only [] at h1
          omega
        have hsb := sumR_bd (ms := ms2.take k) (fun z hz => by obtain ⟨R, C, g⟩ := HGD2.out (HE30.out HS0.out) z (List.mem_of_mem_take hz); have := g.r; have := g.hR; omega)
        have hsl : (ms2.take k).length ≤ 2000000 := by rw [List.length_take, HL2.out]; omega
        obtain ⟨S, hS⟩ : ∃ S, sumR (ms2.take k) = S := ⟨_, rfl⟩
        rw [hS] at hsb HMU
        have hS0 : 0 ≤ S := hsb.1
        have hS1 : S ≤ 48000000 := by omega
        have HS := hide hS
        have hcl := catC_len (l := ms2.take k) (fun z hz => HGD2.out (HE30.out HS0.out) z (List.mem_of_mem_take hz))
        obtain ⟨N0, hN0⟩ : ∃ N0, (catC (ms2.take k)).length = N0 := ⟨_, rfl⟩
        rw [hN0] at HOW hcl
        have hN0b : N0 ≤ 576000000 := by omega
        have HN0 := hide hN0
        obtain ⟨cb, hcb⟩ : ∃ c, (x.cols != y.cols) = c := ⟨_, rfl⟩
        have HCB := hide hcb
        have HKN := hide hkn
        have HLT := hide hlt
        have HBBn := hide hbB
        have HLn1 := hide (show ms2.length = n from HL2.out)
        clear hd hd0 hs ht hx hy gx hsb hsl hS hcl hN0 k0 k1 k2 k3 k4 k5 y0 y1 y2 y3 y4 y5 hxn FIN
        obtain ⟨d0', d1', d2', d3'⟩ := HKK.out wr HBW.out
        have hn0 : (0 : Int) < (n : Int) := by have := HKN.out; omega
        go_wp2
        go_cut [118] from 97 to 149 (fun c wx => c = .bool cb ∧ Below wr.heap.size wr wx)
        case first =>
          go_quiet (fail)
          go_wp2
          go_meet
          exact ⟨rfl, below_drewN _ _⟩
        case rest =>
        obtain ⟨rfl, hbq⟩ := hcut
        obtain ⟨Wq, hWq⟩ : ∃ x, x = wc := ⟨_, rfl⟩
        subst hWq
        have HBQ := hide (below_next HBW.out hbq)
        have HGQ := hide (grown_below HGR.out hbq)
        have HMQ := hide (HMU.out.below hbq (Nat.lt_of_lt_of_le HB3.out HGR.out.size))
        have HOQ := hide (own_below HOW.out hbq)
        obtain ⟨GG, hGG⟩ : ∃ g : Int, g = if cb = true then 2 else 0 := ⟨_, rfl⟩
        have HGG := hide hGG
        clear hbq d0' d1' d2' d3' hcb hGG hlt
        go_upto_if 118 with fail
        go_cut [5] from 97 to 149 (fun ev wx => ev = .int .i64 GG ∧ Wq = wx)
        case first =>
          cases cb with
          | true =>
            go_wp2
            go_meet
            exact ⟨by rw [HGG.out]; rfl, rfl⟩
          | false =>
            go_wp2
            go_meet
            exact ⟨by rw [HGG.out]; rfl, rfl⟩
        case rest =>
        obtain ⟨rfl, rfl⟩ := hcut
        obtain ⟨d0', d1', d2', d3'⟩ := HKK.out Wq HBQ.out
        have z0 := HMQ.out.1 3 _ rfl
        have z1 := HMQ.out.1 4 _ rfl
        have z2 := HMQ.out.1 5 _ rfl
        have z3 := HMQ.out.2 3
        have z4 := HMQ.out.2 4
        have z5 := HMQ.out.2 5
        go_wp2
        obtain ⟨Wa, hWa⟩ : ∃ Wa, Wa = Wq.setCell ⟨B, 4, none⟩ (.int .i64 y.cols) := ⟨_, rfl⟩
        have HMa : Hid (Mut6 Wa B [.int .i64 S1, .int .i64 c1, .slice va vn vk, .int .i64 S, .int .i64 y.cols, .slice ja jn jk]) := by rw [hWa]; exact hide (HMQ.out.put 4 _)
        have HOa : Hid (Wa.ownsRow W3.heap.size 3 1 (.slice ja jn jk) N0 ((catC (ms2.take k)).map (Value.int .i64))) := by rw [hWa]; exact hide (own_set HOQ.out HB3.out _ _)
        have HGa : Hid (W3.grownBy Wa (some B)) := by rw [hWa]; exact hide (grown_set HGQ.out _ _)
        have HBa : Hid (Below w.heap.size w Wa) := by rw [hWa]; exact hide (HBQ.out.setCell (Nat.le_trans HWV.out.size LB.out) _)
        rw [← hWa]
        clear hWa z0 z1 z2 z3 z4 z5 d0' d1' d2' d3'
        obtain ⟨d0', d1', d2', d3'⟩ := HKK.out Wa HBa.out
        have z0 := HMa.out.1 3 _ rfl
        have z1 := HMa.out.1 4 _ rfl
        have z2 := HMa.out.1 5 _ rfl
        have z3 := HMa.out.2 3
        have z4 := HMa.out.2 4
        have z5 := HMa.out.2 5
        have hlt := HLT.out
        refine region_tail 12 (by kernel_rfl) (by kernel_rfl) ?_
        simp only [List.take_succ_cons, List.take_zero, List.drop_succ_cons, List.drop_zero]
        repeat still_step
        refine wpStill_nil ?_
        go_wp2
        obtain ⟨Wb, hWb⟩ : ∃ Wb, Wb = (Wa.setCell ⟨B, 3, none⟩ (.int .i64 (S + x.rows))).drew := ⟨_, rfl⟩
        have HMb : Hid (Mut6 Wb B [.int .i64 S1, .int .i64 c1, .slice va vn vk, .int .i64 (S + x.rows), .int .i64 y.cols, .slice ja jn jk]) := by rw [hWb]; exact hide (HMa.out.put 3 _).drew
        have HOb : Hid (Wb.ownsRow W3.heap.size 3 1 (.slice ja jn jk) N0 ((catC (ms2.take k)).map (Value.int .i64))) := by rw [hWb]; exact hide (own_drew (own_set HOa.out HB3.out _ _))
        have HGb : Hid (W3.grownBy Wb (some B)) := by rw [hWb]; exact hide (grown_drew (grown_set HGa.out _ _))
        have HBb : Hid (Below w.heap.size w Wb) := by rw [hWb]; exact hide (below_dr (HBa.out.setCell (Nat.le_trans HWV.out.size LB.out) _))
        rw [← hWb]
        clear hWb z0 z1 z2 z3 z4 z5 d0' d1' d2' d3' HMa HOa HGa HBa
        obtain ⟨d0', d1', d2', d3'⟩ := HKK.out Wb HBb.out
        have z0 := HMb.out.1 3 _ rfl
        have z1 := HMb.out.1 4 _ rfl
        have z2 := HMb.out.1 5 _ rfl
        have z3 := HMb.out.2 3
        have z4 := HMb.out.2 4
        have z5 := HMb.out.2 5
        obtain ⟨a0, cap0, es, hs2, hs3, hs4⟩ := HSI.out.below HBb.out
        injection es with es1 es2 es3
        subst es1 es2 es3
        obtain ⟨i0, ei, hz0, hz1, hz2⟩ := info_parts infoInt
        have HEI := hide (And.intro ei (And.intro hz0 (And.intro hz1 hz2)))
        have HS4 := hide hs4
        have HOR2 := hide (show ((GG = 0 ∧ E3 = 0 ∧ ∀ (j : Nat) x y, j < k + 1 → ms2[j]? = some x → ms2[0]? = some y → x.cols = y.cols) ∨ (GG = 2 ∧ E3 = 0 ∧ sameC ms2 = false) ∨ (GG = E3 ∧ E3 ≠ 0 ∧ k + 1 = 0)) by
          by_cases q : x.cols = y.cols
          · have qc : cb = false := by rw [← HCB.out]; exact eqF q
            refine .inl ⟨by rw [HGG.out, qc]; rfl, HS0.out, fun j z u hj hz hu => ?_⟩
            rcases Nat.lt_or_ge j k with h | h
            · exact HAL.out j z u h hz hu
            · have q1 : z = x := Option.some.inj (by rw [← hz, show j = k by omega, HX.out])
              have q2 : u = y := Option.some.inj (by rw [← hu, HY.out])
              rw [q1, q2]; exact q
          · have qc : cb = true := by rw [← HCB.out]; exact eqT q
            exact .inr (.inl ⟨by rw [HGG.out, qc]; rfl, HS0.out, (sameC_no HX.out HY.out q).symm⟩))
        have HHD := hide (show y.cols = (ms2.headD noMx).cols by rw [head_at HY.out])
        have HXE := hide (show x.cells.length = x.cells.length from rfl)
        clear hs4 ei hz0 hz1 hz2 hs2 hs3
        obtain ⟨Nx, hNx⟩ : ∃ q, x.cells.length = q := ⟨_, rfl⟩
        have HNx := hide hNx
        rw [hNx] at d2' hxl HNK
        clear hNx HXE
        refine region_tail 9 (by kernel_rfl) (by kernel_rfl) ?_
        simp only [List.take_succ_cons, List.take_zero, List.drop_succ_cons, List.drop_zero]
        cases ta with
        | none =>
          obtain ⟨q1, q2⟩ := HNK.out _ _ rfl
          have HXE : Hid (x.cells = []) := hide (List.eq_nil_of_length_eq_zero (by rw [HNx.out]; exact q1))
          rw [q1, q2] at d2'
          clear q1 q2
          repeat still_step
          refine wpStill_nil ?_
          refine wpList_append_own_none rfl _ _ 22 rfl W3.heap.size 3 i0 1 Tryd.underlying22 HEI.out.1 _ N0 _ rfl (own_drew HOb.out) rfl ?_
          go_wp2
          go_roundw
          case rel => exact ⟨k + 1, _, GG, y.cols, .slice ja jn jk, by have := HKN.out; omega, by have := HXK.out; omega, rfl, rfl, grown_drew (grown_set HGb.out _ _), by rw [take_end HX.out, sumR_snoc, HS.out]; exact (HMb.out.put 5 _).drew, by rw [take_end HX.out, catC_snoc, HXE.out, List.append_nil, HN0.out]; exact own_drew (own_set HOb.out HB3.out _ _), .inr HHD.out, HOR2.out⟩
          case measure => have := HXK.out; have := HKN.out; simp [intOf]; omega
        | some ad =>
          repeat still_step
          refine wpStill_nil ?_
          go_wp2_with (at_builtin; refine wpList_append_own _ rfl _ _ 22 rfl W3.heap.size 3 i0 (.int .i64 0) 1 8 Tryd.underlying22 HEI.out.1 HEI.out.2.1 HEI.out.2.2.1 HEI.out.2.2.2 rfl (by decide) _ N0 _ rfl (own_drew HOb.out) ad Nx tk (x.cells.map (Value.int .i64)) rfl (by simp [HNx.out]) ?c1 ?c2 ?c3 ?c4 ?c5 ?_)
          case c1 =>
            intro j u hj
            rcases HS4.out with h0 | ⟨bb, oo, ha, hcc⟩
            · rw [h0] at hj; simp at hj
            · have ha := Option.some.inj ha
              rw [ha, Addr.add_lit]
              rw [List.getElem?_map] at hj
              obtain ⟨v, hv, rfl⟩ := Option.map_eq_some_iff.1 hj
              exact hcc j v hv
          case c2 => intro u hu; obtain ⟨v, _, rfl⟩ := List.mem_map.1 hu; rfl
          case c3 => unfold maxLen; omega
          case c4 => omega
          case c5 => exact HGb.out.size
          intro v' w' hown' hgrow _
          obtain ⟨wa, wn, wk, rfl⟩ := own_shape hown'
          have hgb : Wb.grownBy w' (Value.slice ja jn jk).ownBlock := ⟨hgrow.os, hgrow.tape, hgrow.output, hgrow.size, hgrow.block⟩
          have hown : ∀ q, (Value.slice ja jn jk).ownBlock = some q → W3.heap.size ≤ q := fun q hq => (World.ownsRow.lt HOb.out q hq).1
          have hBo : some B ≠ (Value.slice ja jn jk).ownBlock := fun q => by have := hown B q.symm; have := HB3.out; omega
          have HMc := hide (HMb.out.grown hgb (Nat.lt_of_lt_of_le HB3.out HGb.out.size) hBo)
          have HGc := hide (grown_more HGb.out hgb hown)
          have HOc := hide hown'
          have x0 := HMc.out.1 3 _ rfl
          have x1 := HMc.out.1 4 _ rfl
          have x2 := HMc.out.1 5 _ rfl
          have x3 := HMc.out.2 3
          have x4 := HMc.out.2 4
          have x5 := HMc.out.2 5
          clear hown' hgrow hgb hown hBo z0 z1 z2 z3 z4 z5 d0' d1' d2' d3'
          go_wp2
          go_roundw
          case rel => exact ⟨k + 1, _, GG, y.cols, .slice wa wn wk, by have := HKN.out; omega, by have := HXK.out; omega, rfl, rfl, grown_set HGc.out _ _, by rw [take_end HX.out, sumR_snoc, HS.out]; exact HMc.out.put 5 _, by rw [take_end HX.out, catC_snoc, List.length_append, List.map_append, HN0.out, HNx.out]; exact own_set HOc.out HB3.out _ _, .inr HHD.out, HOR2.out⟩
          case measure => have := HXK.out; have := HKN.out; simp [intOf]; omega
      · have hkn : k = n := by have := HXK.out; omega
        have HFE := hide (FIN.out (by
          rcases HOR.out with ⟨hz, hs0, hal⟩ | ⟨hz, hs0, hsc⟩ | ⟨hz, hs0, _⟩
          · have hsy := sameC_yes (ms := ms2) (by rw [HL2.out]; have := HNP.out (HE30.out hs0); omega) (fun j x y hj hx hy => hal j x y (by rw [HL2.out] at hj; omega) hx hy)
            rw [HE4.out, hz]; unfold halfE; rw [if_neg (by simp [hs0]), if_neg (by rw [← hsy]; decide)]
          · rw [HE4.out, hz]; unfold halfE; rw [if_neg (by simp [hs0]), if_pos hsc]
          · rw [HE4.out, hz]; unfold halfE; rw [if_pos hs0]) (fun _ => hkn))
        clear hkn
        go_wp2
        go_meet
        exact HFE.out
  case rest =>
  obtain ⟨S2, c2, v2, rfl, hgr, hmu, ⟨ya, yn, yk, rfl⟩, hfin⟩ := hcut
  obtain ⟨W4, hW4⟩ : ∃ x, x = wc := ⟨_, rfl⟩
  subst hW4
  have HEJ := hide (show E4 = JE by
    rw [← HXJ.out.2]
    exact joins_says ds S1 E2 E3 E4 (by rw [HE2.out, HE1.out, HMS1.out]) (fun h => by rw [HMS1.out]; exact (HF3.out h).1) HE3.out (by rw [HE4.out, HMS2.out]))
  have HM4 := hide hmu
  have HC4 := hide (show Below V.heap.size V W4 from HC3.out.grown hgr HC3.out.size (fun q hq => by rw [← Option.some.inj hq]; exact LB.out))
  have HB4 := hide (Nat.lt_of_lt_of_le HB3.out hgr.size)
  have HYS := hide (show JE = 0 → X.1.rows = S1 ∧ X.1.cols = c1 ∧ X.2.rows = S2 ∧ X.2.cols = c2 ∧ IsInts W4 (.slice va vn vk) X.1.cells ∧ IsInts W4 (.slice ya yn yk) X.2.cells from fun h => by
    have h4 : E4 = 0 := by rw [HEJ.out]; exact h
    obtain ⟨f1, f2, f3⟩ := hfin h4
    have h3 : E3 = 0 := by
      have q := HE4.out
      rw [h4] at q
      unfold halfE at q
      by_cases r : E3 = 0
      · exact r
      · rw [if_pos r] at q; exact absurd q.symm r
    have h2 : E2 = 0 := by
      have q := HE3.out
      rw [h3] at q
      by_cases r : E2 = 0 ∧ 24 < S1
      · rw [if_pos r] at q; cases q
      · rw [if_neg r] at q; exact q.symm
    obtain ⟨g1, g2, g3⟩ := HF3.out h2
    have hj := joins_gives (ds := ds) (by rw [HXJ.out.2]; exact h)
    rw [HXJ.out.1, HMS1.out, HMS2.out] at hj
    have e1 := HE30.out h3
    have l1 := catC_len (l := ms1) (HGD1.out e1)
    have l2 := catC_len (l := ms2) (HGD2.out e1)
    have l3 := HL1.out
    have l4 := HL2.out
    have i1 := own_ints g3 (by unfold maxLen; omega)
    have i2 := own_ints f3 (by unfold maxLen; omega)
    refine ⟨by rw [hj, g1], by rw [hj, g2], by rw [hj, f1], by rw [hj, f2], ?_, by rw [hj]; exact i2⟩
    rw [hj]
    refine i1.beside hgr ?_
    by_cases q : catC ms1 = []
    · exact .inl q
    · refine .inr (fun r => ?_)
      have := (World.ownsRow.lt g3 B r).1
      have := HS2.out
      omega)
  have t0 := HM4.out.1 0 _ rfl; have f0 := HM4.out.2 0; have t1 := HM4.out.1 1 _ rfl; have f1 := HM4.out.2 1; have t2 := HM4.out.1 2 _ rfl; have f2 := HM4.out.2 2; have t3 := HM4.out.1 3 _ rfl; have f3 := HM4.out.2 3; have t4 := HM4.out.1 4 _ rfl; have f4 := HM4.out.2 4; have t5 := HM4.out.1 5 _ rfl; have f5 := HM4.out.2 5
  clear hgr hmu hfin
  go_upto_if 151 with fail
  go_cut [5] from 12 to 164 (fun ev wx => ∃ (ra : Option Addr) (rn rk : Nat) (ta : Option Addr) (tn tk : Nat), ev = .int .i64 JE ∧ Below V.heap.size V wx ∧ Box wx B [.int .i64 X.1.rows, .int .i64 X.1.cols, .slice ra rn rk, .int .i64 X.2.rows, .int .i64 X.2.cols, .slice ta tn tk] ∧ IsInts wx (.slice ra rn rk) X.1.cells ∧ IsInts wx (.slice ta tn tk) X.2.cells)
  case first => as_aux_lemma =>
    by_cases q : E4 = 0
    · have q1 : (E4 != 0) = false := by simp [q]
      have HQ := hide (show JE = 0 by rw [← HEJ.out]; exact q)
      clear q
      go_wp2
      go_meet
      obtain ⟨y1, y2, y3, y4, y5, y6⟩ := HYS.out HQ.out
      exact ⟨va, vn, vk, ya, yn, yk, by rw [HEJ.out], HC4.out, by rw [y1, y2, y3, y4]; exact HM4.out.1, y5, y6⟩
    · have q1 : (E4 != 0) = true := by simpa using q
      have HQ := hide (show X = (noMx, noMx) by rw [← HXJ.out.1]; unfold joinX; rw [if_neg (by rw [HXJ.out.2, ← HEJ.out]; exact q)])
      have HBE := hide (show Below V.heap.size V ((((((W4.setCell ⟨B, 0, none⟩ (.int .i64 0)).setCell ⟨B, 1, none⟩ (.int .i64 0)).setCell ⟨B, 2, none⟩ (.slice none 0 0)).setCell ⟨B, 3, none⟩ (.int .i64 0)).setCell ⟨B, 4, none⟩ (.int .i64 0)).setCell ⟨B, 5, none⟩ (.slice none 0 0)) from bel_set (bel_set (bel_set (bel_set (bel_set (bel_set (HC4.out) LB.out) LB.out) LB.out) LB.out) LB.out) LB.out)
      have HBO := hide (show Box ((((((W4.setCell ⟨B, 0, none⟩ (.int .i64 0)).setCell ⟨B, 1, none⟩ (.int .i64 0)).setCell ⟨B, 2, none⟩ (.slice none 0 0)).setCell ⟨B, 3, none⟩ (.int .i64 0)).setCell ⟨B, 4, none⟩ (.int .i64 0)).setCell ⟨B, 5, none⟩ (.slice none 0 0)) B [.int .i64 0, .int .i64 0, .slice none 0 0, .int .i64 0, .int .i64 0, .slice none 0 0] from set_six HM4.out.1 _ _ _ _ _ _)
      clear q
      go_wp2
      go_meet
      refine ⟨none, 0, 0, none, 0, 0, by rw [HEJ.out], HBE.out, ?_, ?_, ?_⟩
      · rw [HQ.out]; exact HBO.out
      · rw [HQ.out]; exact IsInts.nil _
      · rw [HQ.out]; exact IsInts.nil _
  case rest =>
  obtain ⟨ra, rn, rk, ta, tn, tk, rfl, hbc, hbo, hi1, hi2⟩ := hcut
  obtain ⟨W5, hW5⟩ : ∃ x, x = wc := ⟨_, rfl⟩
  subst hW5
  have HC5 := hide hbc
  have HBO := hide hbo
  have HII := hide (And.intro hi1 hi2)
  have HER := hide (error_same (k := JE) (n := JE) rfl W5 (HH.out.below (below_next HWV.out hbc)))
  rw [← HEV.out] at HER
  clear hbc hbo hi1 hi2 t0 f0 t1 f1 t2 f2 t3 f3 t4 f4 t5 f5
  go_wp2_with fail
  refine HER.out.mono ?_
  rintro e u6 ⟨rfl, hb⟩
  have HC6 := hide (below_next HC5.out hb)
  have HB6 := hide (HBO.out.below hb)
  have HI6 := hide (And.intro (HII.out.1.below hb) (HII.out.2.below hb))
  have HX6 := hide (HBX.out.below HC6.out)
  have HP6 := hide (And.intro (HPI.out.1.below HC6.out) (HPI.out.2.below HC6.out))
  have HW6 := hide (show Below u6.heap.size u6 ((u6.alloc (.cells #[.int .i64 X.1.rows, .int .i64 X.1.cols, .slice pa pn pk, .int .i64 X.2.rows, .int .i64 X.2.cols, .slice qa qn qk] 26)).alloc (.cells #[.int .i64 X.1.rows, .int .i64 X.1.cols, .slice ra rn rk, .int .i64 X.2.rows, .int .i64 X.2.cols, .slice ta tn tk] 26)) from bel_alloc (below_one _ _))
  have HG1 := hide (show IsGds ((u6.alloc (.cells #[.int .i64 X.1.rows, .int .i64 X.1.cols, .slice pa pn pk, .int .i64 X.2.rows, .int .i64 X.2.cols, .slice qa qn qk] 26)).alloc (.cells #[.int .i64 X.1.rows, .int .i64 X.1.cols, .slice ra rn rk, .int .i64 X.2.rows, .int .i64 X.2.cols, .slice ta tn tk] 26)) (.slice (some ⟨u6.heap.size, 0, none⟩) 1 1) [X] from gds_lone (d := X) ((Box.new u6 [.int .i64 X.1.rows, .int .i64 X.1.cols, .slice pa pn pk, .int .i64 X.2.rows, .int .i64 X.2.cols, .slice qa qn qk] 26 rfl).below (below_one _ _)) (HP6.out.1.below HW6.out) (HP6.out.2.below HW6.out))
  have HG2 := hide (show IsGds ((u6.alloc (.cells #[.int .i64 X.1.rows, .int .i64 X.1.cols, .slice pa pn pk, .int .i64 X.2.rows, .int .i64 X.2.cols, .slice qa qn qk] 26)).alloc (.cells #[.int .i64 X.1.rows, .int .i64 X.1.cols, .slice ra rn rk, .int .i64 X.2.rows, .int .i64 X.2.cols, .slice ta tn tk] 26)) (.slice (some ⟨u6.heap.size + 1, 0, none⟩) 1 1) [X] from gds_lone (d := X) (Box.new (u6.alloc (.cells #[.int .i64 X.1.rows, .int .i64 X.1.cols, .slice pa pn pk, .int .i64 X.2.rows, .int .i64 X.2.cols, .slice qa qn qk] 26)) [.int .i64 X.1.rows, .int .i64 X.1.cols, .slice ra rn rk, .int .i64 X.2.rows, .int .i64 X.2.cols, .slice ta tn tk] 26 (World.size_alloc _ _)) (HI6.out.1.below HW6.out) (HI6.out.2.below HW6.out))
  have HS := hide (bts_same _ _ [X] _ HG1.out HG2.out)
  have x0 := HX6.out 0 _ rfl; have x1 := HX6.out 1 _ rfl; have x2 := HX6.out 2 _ rfl; have x3 := HX6.out 3 _ rfl; have x4 := HX6.out 4 _ rfl; have x5 := HX6.out 5 _ rfl
  have y0 := (HB6.out.below (below_one u6 (.cells #[.int .i64 X.1.rows, .int .i64 X.1.cols, .slice pa pn pk, .int .i64 X.2.rows, .int .i64 X.2.cols, .slice qa qn qk] 26))) 0 _ rfl; have y1 := (HB6.out.below (below_one u6 (.cells #[.int .i64 X.1.rows, .int .i64 X.1.cols, .slice pa pn pk, .int .i64 X.2.rows, .int .i64 X.2.cols, .slice qa qn qk] 26))) 1 _ rfl; have y2 := (HB6.out.below (below_one u6 (.cells #[.int .i64 X.1.rows, .int .i64 X.1.cols, .slice pa pn pk, .int .i64 X.2.rows, .int .i64 X.2.cols, .slice qa qn qk] 26))) 2 _ rfl; have y3 := (HB6.out.below (below_one u6 (.cells #[.int .i64 X.1.rows, .int .i64 X.1.cols, .slice pa pn pk, .int .i64 X.2.rows, .int .i64 X.2.cols, .slice qa qn qk] 26))) 3 _ rfl; have y4 := (HB6.out.below (below_one u6 (.cells #[.int .i64 X.1.rows, .int .i64 X.1.cols, .slice pa pn pk, .int .i64 X.2.rows, .int .i64 X.2.cols, .slice qa qn qk] 26))) 4 _ rfl; have y5 := (HB6.out.below (below_one u6 (.cells #[.int .i64 X.1.rows, .int .i64 X.1.cols, .slice pa pn pk, .int .i64 X.2.rows, .int .i64 X.2.cols, .slice qa qn qk] 26))) 5 _ rfl
  clear hb HER
  go_wp2_with fail
  refine HS.out.mono ?_
  rintro e u7 ⟨rfl, hb⟩
  have HC7 := hide (below_next (below_next (below_next HWV.out HC6.out) HW6.out) hb)
  clear hb HS x0 y0 x1 y1 x2 y2 x3 y3 x4 y4 x5 y5
  go_wp2
  go_ret
  exact ⟨rfl, HC7.out⟩
end Go.Proofs.YtokohpabmmcioaeDoor
