/- What Encode of package wire comes to, all of it. -/
import Derived.Test.YtaajlggpjholeahDoorWrC2
import Derived.Test.YtaajlggpjholeahDoorWrN
namespace Go.Proofs.YtaajlggpjholeahDoor
open Go.RowKit
/-- The numbers of a message. -/
def numL (k mi : Int) (b : Mx) : List Nat := headN k mi b ++ cellN b
theorem two_bys (w : World) (s0 s1 : Int) (t : TypeId) (h0 : 0 ≤ s0) (h1 : s0 < 255) (h2 : 0 ≤ s1) (h3 : s1 < 255) : IsBys (w.alloc (.cells #[.int .u8 s0, .int .u8 s1] t)) (.slice (some ⟨w.heap.size, 0, none⟩) 2 2) [s0, s1] := by
  refine ⟨_, 2, rfl, Nat.le_refl _, by unfold maxLen; omega, fun x hx => by simp at hx; omega, .inr ⟨w.heap.size, 0, rfl, fun i x hx => ?_⟩⟩
  have hb := WBk.new w #[.int .u8 s0, .int .u8 s1] t
  match i, hx with
  | 0, hx => obtain rfl := Option.some.inj hx; exact hb.c rfl
  | 1, hx => obtain rfl := Option.some.inj hx; exact hb.c rfl
theorem some_nilOk (a : Addr) (n k : Nat) : NilOk (.slice (some a) n k) := by
  intro n k e
  injection e with e1
  cases e1
theorem numL_len {k mi : Int} {b : Mx} : (numL k mi b).length = 4 + b.cells.length := by simp [numL, headN, cellN]; omega
theorem numL_cell {k mi : Int} {b : Mx} {i : Nat} {x : Int} (h : b.cells[i]? = some x) : (numL k mi b)[4 + i]? = some (zig x) := by
  unfold numL
  rw [List.getElem?_append_right (by simp [headN]), show 4 + i - (headN k mi b).length = i by simp [headN]]
  simp [cellN, h]
theorem wrI_len (L : List Nat) (i : Nat) : (wrI L i).length ≤ 9 * i := by
  have := wr_len (L.take i)
  have h2 : (L.take i).length ≤ i := List.length_take_le _ _
  unfold wrI
  omega
theorem wrI_all {L : List Nat} {i : Nat} (h : L.length ≤ i) : wrI L i = wrNs L := by unfold wrI; rw [List.take_of_length_le h]
theorem OwnY.apart {w : World} {base : Nat} {v : Value} {l : List Int} (h : OwnY w base v l) : v.ownBlock ≠ some w.heap.size := fun e => by
  have := (World.ownsRow.lt h.1 _ e).2
  omega
theorem WBk.asideY {w w' : World} {B : Nat} {cs : Array Value} {t : TypeId} {v s : Value} (h : WBk w B cs t) (ha : AsideY w w' v s) (hne : v.ownBlock ≠ some B) : WBk w' B cs t := (ha B h.lt hne).1.trans h
theorem mxN_cell {m : Mx} {i : Nat} {x : Int} (h : m.cells[i]? = some x) : (mxN m)[2 + i]? = some (zig x) := by
  unfold mxN
  rw [show 2 + i = i + 1 + 1 by omega, List.getElem?_cons_succ, List.getElem?_cons_succ, List.getElem?_map, h]
  rfl
theorem mxN_len (m : Mx) : (mxN m).length = m.cells.length + 2 := by simp [mxN]
theorem mxN_ok {m : Mx} (h : fault m = 0) : ∀ n ∈ mxN m, okN n := by
  obtain ⟨⟨r1, r2, r3, r4⟩, _, hc⟩ := fault_zero h
  intro n hn
  unfold mxN at hn
  have h1 : n ≤ 5000000000 := by
    rcases List.mem_cons.1 hn with e | hn
    · omega
    rcases List.mem_cons.1 hn with e | hn
    · omega
    obtain ⟨x, hx, rfl⟩ := List.mem_map.1 hn
    have := hc x hx
    unfold zig
    split <;> omega
  unfold okN
  exact Nat.lt_of_le_of_lt h1 (by decide)
set_option maxHeartbeats 16000000 in
set_option maxRecDepth 100000 in
theorem wappmat_any (v : Value) (l : List Int) (base : Nat) (mv : Value) (m : Mx) (w0 w : World) (hv : OwnY w base v l) (hbs : base ≤ w.heap.size) (hm : IsMx w0 mv m) (h0 : Below w0.heap.size w0 w) (h0b : w0.heap.size ≤ base) (hf : fault m = 0) (hl : l.length ≤ 100) : Calls Tryd.prog 23 #[v, mv] w fun e w' => ∃ s, e = .returned s ∧ OwnY w' base s (l ++ wrNs (mxN m)) ∧ base ≤ w'.heap.size ∧ ∀ w0 : World, Below w0.heap.size w0 w → w0.heap.size ≤ base → Below w0.heap.size w0 w' := by
  obtain ⟨s, rfl, hs⟩ := hm
  obtain ⟨⟨r1, r2, r3, r4⟩, hcl, hce⟩ := fault_zero hf
  have hrc := rc_bd m.rows m.cols ⟨r1, r2, r3, r4⟩
  obtain ⟨r, hr⟩ : ∃ r, m.rows = r := ⟨_, rfl⟩
  obtain ⟨c, hc⟩ : ∃ c, m.cols = c := ⟨_, rfl⟩
  obtain ⟨a, cap, rfl, h2, h3, h4⟩ := hs
  obtain ⟨n, hn⟩ : ∃ n, m.cells.length = n := ⟨_, rfl⟩
  have hn288 : n ≤ 288 := by omega
  have H4 := hide h4
  have HN := hide hn
  have HCE := hide hce
  have HOK := hide (mxN_ok hf)
  have HL := hide (show (mxN m).length = 2 + n by rw [mxN_len, hn]; omega)
  have HH := hide (show (mxN m)[0]? = some r.toNat ∧ (mxN m)[1]? = some c.toNat from ⟨by rw [← hr]; rfl, by rw [← hc]; rfl⟩)
  rw [hn] at h2 ⊢
  rw [hr, hc]
  rw [hr] at r1 r2
  rw [hc] at r3 r4
  obtain ⟨L, hL⟩ : ∃ L, mxN m = L := ⟨_, rfl⟩
  rw [hL] at HOK HL HH ⊢
  have HLE := hide hL
  have HLL := hide hl
  obtain ⟨W1, hW1⟩ : ∃ x, x = w.alloc (.cells #[.int .i64 r, .int .i64 c, .slice a n cap] 24) := ⟨_, rfl⟩
  have HW1 := hide hW1
  have hb1 : Below w.heap.size w W1 := by rw [hW1]; exact below_one _ _
  have HM1 := hide (show WBk W1 w.heap.size #[.int .i64 r, .int .i64 c, .slice a n cap] 24 by rw [hW1]; exact WBk.new _ _ _)
  have HO1 := hide (hv.below hb1)
  have HAP := hide hv.apart
  have HB0 := hide (bel_on h0 hb1)
  have HBS := hide hbs
  have H0B := hide h0b
  have HK := hide (show ∀ w0 : World, Below w0.heap.size w0 w → w0.heap.size ≤ base → Below w0.heap.size w0 W1 from fun w0 h _ => bel_on h hb1)
  have HS1 := hide (Nat.le_trans hbs hb1.size)
  have HC1 := hide (wappnum_any v l base r.toNat r W1 HO1.out HS1.out (by omega) (HOK.out _ (List.mem_of_getElem? HH.out.1)) (by omega))
  obtain ⟨y0, y1, y2⟩ : W1.cell? ⟨w.heap.size, 0, none⟩ = some (.int .i64 r) ∧ W1.cell? ⟨w.heap.size, 1, none⟩ = some (.int .i64 c) ∧ W1.cell? ⟨w.heap.size, 2, none⟩ = some (.slice a n cap) := ⟨HM1.out.c rfl, HM1.out.c rfl, HM1.out.c rfl⟩
  clear h4 hn hce hcl hrc hr hc hL hW1 hv hbs h0 h0b hb1 hf hl
  go_enter Tryd.func23, Tryd.ntmps23
  go_wp2_with fail
  rw [← HW1.out]
  refine HC1.out.mono ?_
  rintro e w2 ⟨s2, rfl, ho2, hs2, hb2, ha2, hz2⟩
  have HM2 := hide (HM1.out.asideY ha2 HAP.out)
  have HAP2 := hide ((ha2 _ HM1.out.lt HAP.out).2)
  have HO2 := hide ho2
  have HS2 := hide hs2
  have HB2 := hide hb2
  have HZ2 := hide hz2
  obtain ⟨z0, z1, z2⟩ : w2.cell? ⟨w.heap.size, 0, none⟩ = some (.int .i64 r) ∧ w2.cell? ⟨w.heap.size, 1, none⟩ = some (.int .i64 c) ∧ w2.cell? ⟨w.heap.size, 2, none⟩ = some (.slice a n cap) := ⟨HM2.out.c rfl, HM2.out.c rfl, HM2.out.c rfl⟩
  have HC2 := hide (wappnum_any s2 _ base c.toNat c w2 HO2.out HS2.out (by omega) (HOK.out _ (List.mem_of_getElem? HH.out.2)) (by rw [List.length_append]; have := HLL.out; have : (sev r.toNat).length ≤ 9 := sevF_len 9 _; omega))
  clear ho2 hs2 hb2 ha2 hz2
  go_wp2_with fail
  refine HC2.out.mono ?_
  rintro e w3 ⟨s3, rfl, ho3, hs3, hb3, ha3, hz3⟩
  have HM3 := hide (HM2.out.asideY ha3 HAP2.out)
  have HO3 := hide (show OwnY w3 base s3 (l ++ wrI L 2) by
    have e : wrI L 2 = sev r.toNat ++ sev c.toNat := by
      unfold wrI
      rw [wr_take HH.out.2, wr_take HH.out.1]
      simp [wrNs]
    rw [e, ← List.append_assoc]
    exact ho3)
  have HS3 := hide hs3
  have HB3 := hide (show ∀ w0 : World, Below w0.heap.size w0 w → w0.heap.size ≤ base → Below w0.heap.size w0 w3 from fun w0 h1 h2 => hb3 w0 (HB2.out w0 (HK.out w0 h1 h2) h2) h2)
  have HB03 := hide (show Below w0.heap.size w0 w3 from hb3 w0 (HB2.out w0 HB0.out H0B.out) H0B.out)
  obtain ⟨x0, x1, x2⟩ : w3.cell? ⟨w.heap.size, 0, none⟩ = some (.int .i64 r) ∧ w3.cell? ⟨w.heap.size, 1, none⟩ = some (.int .i64 c) ∧ w3.cell? ⟨w.heap.size, 2, none⟩ = some (.slice a n cap) := ⟨HM3.out.c rfl, HM3.out.c rfl, HM3.out.c rfl⟩
  clear ho3 hs3 hb3 ha3 hz3 y0 y1 y2 z0 z1 z2
  go_wp2
  go_loopw [0, 6, 18] (fun bv _ iv wr => ∃ (i : Nat) (xi : Int), i ≤ n ∧ xi = (i : Int) ∧ iv = .int .i64 xi ∧ OwnY wr base bv (l ++ wrI L (2 + i)) ∧ base ≤ wr.heap.size ∧ Below w0.heap.size w0 wr ∧ ∀ w0 : World, Below w0.heap.size w0 w → w0.heap.size ≤ base → Below w0.heap.size w0 wr) (fun _ _ iv _ => n - (intOf iv).toNat)
  case atStart => exact ⟨0, 0, Nat.zero_le _, rfl, rfl, HO3.out, HS3.out, HB03.out, HB3.out⟩
  case round =>
    obtain ⟨i, xi, hi, hxi, rfl, hro, hsz, hbw, hbk⟩ := hrel
    have HRZ := hide hro
    have HBZ := hide hbw
    have HBK := hide hbk
    have HSZ := hide hsz
    have HXI := hide hxi
    have hx0 : 0 ≤ xi := by omega
    have hx1 : xi ≤ 288 := by omega
    clear hro hbw hbk hsz hxi
    by_cases hlt : xi < (n : Int)
    · obtain ⟨x, hx⟩ : ∃ x, m.cells[i]? = some x := ⟨_, List.getElem?_eq_getElem (by rw [HN.out]; have := HXI.out; omega)⟩
      obtain ⟨b1, o1, ha1, hc1⟩ := H4.out.resolve_left (fun e => by rw [e] at hx; simp at hx)
      subst ha1
      have d1 := (HBZ.out.cell (World.block_lt_of_cell? w0 _ (hc1 i x hx))).trans (hc1 i x hx)
      rw [show i = xi.toNat by have := HXI.out; omega] at d1
      obtain ⟨e1, e2⟩ := HCE.out x (List.mem_of_getElem? hx)
      have HG := hide (show L[2 + i]? = some (zig x) by rw [← HLE.out]; exact mxN_cell hx)
      have HC := hide (wappnum_any u0 (l ++ wrI L (2 + i)) base (zig x) (zig x : Int) wr HRZ.out HSZ.out rfl (HOK.out _ (List.mem_of_getElem? HG.out)) (by rw [List.length_append]; have := wrI_len L (2 + i); have := HLL.out; omega))
      have HNO := hide (wnumof_any x wr e1 e2)
      obtain ⟨zx, hzx⟩ : ∃ z, (zig x : Int) = z := ⟨_, rfl⟩
      rw [hzx] at HC HNO
      clear hc1 hx hzx e1 e2
      go_wp2_with (first
        | (go_at_call 38; refine HNO.out.mono ?_; rintro e w2 ⟨rfl, rfl⟩)
        | (go_at_call 22; refine HC.out.mono ?_; rintro e w4 ⟨sv, rfl, ho4, hs4, hb4, _, _⟩; have HO4 := hide ho4; have HB4 := hide (And.intro (hb4 w0 HBZ.out H0B.out) (And.intro hs4 (show ∀ w0 : World, Below w0.heap.size w0 w → w0.heap.size ≤ base → Below w0.heap.size w0 w4 from fun w0 h1 h2 => hb4 w0 (HBK.out w0 h1 h2) h2))); clear ho4 hs4 hb4))
      go_roundw
      case rel => exact ⟨i + 1, _, by have := HXI.out; omega, by have := HXI.out; omega, rfl, by have h := HO4.out; unfold wrI at h ⊢; rw [← Nat.add_assoc, wr_take HG.out, ← List.append_assoc]; exact h, HB4.out.2.1, HB4.out.1, HB4.out.2.2⟩
      case measure => have := HXI.out; simp [intOf]; omega
    · have HW := hide (show OwnY wr base u0 (l ++ wrNs L) by rw [← wrI_all (L := L) (i := 2 + i) (by rw [HL.out]; have := HXI.out; omega)]; exact HRZ.out)
      go_wp2
      exact bodyPost_ret (v := u0) (by simp [results, Tryd.results23, go_sem]) rfl ⟨u0, rfl, HW.out, HSZ.out, HBK.out⟩
set_option maxHeartbeats 16000000 in
set_option maxRecDepth 100000 in
theorem wenc_any (v : Value) (k mi : Int) (b : Mx) (w : World) (hv : IsMsg w v k mi b) : Calls Tryd.prog 7 #[v] w (fun e w' => EncEnd w w' k mi b e) := by
  obtain ⟨s, rfl, hs⟩ := id hv
  obtain ⟨r, hr⟩ : ∃ r, b.rows = r := ⟨_, rfl⟩
  obtain ⟨c, hc⟩ : ∃ c, b.cols = c := ⟨_, rfl⟩
  obtain ⟨a, cap, rfl, h2, h3, h4⟩ := hs
  obtain ⟨n, hn⟩ : ∃ n, b.cells.length = n := ⟨_, rfl⟩
  have H4 := hide h4
  have HN := hide hn
  have HRC := hide (And.intro hr hc)
  have HB0 := hide (below_one w (.cells #[.int .i64 k, .int .i64 mi, .int .i64 r, .int .i64 c, .slice a n cap] 26))
  have HCH := hide (wchk_any _ k mi b (w.alloc (.cells #[.int .i64 k, .int .i64 mi, .int .i64 r, .int .i64 c, .slice a n cap] 26)) (hv.below HB0.out))
  have HM0 := hide (Blk5.new w (.int .i64 k) (.int .i64 mi) (.int .i64 r) (.int .i64 c) (.slice a n cap))
  rw [hr, hc, hn] at HCH
  rw [hn] at h2 ⊢
  rw [hr, hc]
  have HSA := hide (show (w.alloc (.cells #[.int .i64 k, .int .i64 mi, .int .i64 r, .int .i64 c, .slice a n cap] 26)).heap.size = w.heap.size + 1 by rw [World.size_alloc])
  clear h4 hv hr hc hn
  by_cases hm : msgF k mi b = 0
  · obtain ⟨k1, k2, m1, m2, hf0⟩ := msgF_in hm
    obtain ⟨⟨r1, r2, r3, r4⟩, hcl, hce⟩ := fault_zero hf0
    have hrc := rc_bd b.rows b.cols ⟨r1, r2, r3, r4⟩
    have hn288 : n ≤ 288 := by have := HN.out; omega
    have HCE := hide hce
    have HOK := hide (show ∀ x ∈ numL k mi b, okN x from fun x hx => by
      rcases List.mem_append.1 hx with q | q
      · exact (msg_okN hm).1 x q
      · exact (msg_okN hm).2 x q)
    have HL := hide (show (numL k mi b).length = 4 + n by rw [numL_len, HN.out])
    have HEN := hide (show errV (msgF k mi b) = .nilIface by rw [hm, err_eq rfl])
    have HX := hide (show encX k mi b = wrNs (numL k mi b) ++ sumsG 0 0 (wrNs (numL k mi b)) by unfold encX; rw [if_pos hm]; rfl)
    have HH := hide (show (numL k mi b)[0]? = some k.toNat ∧ (numL k mi b)[1]? = some mi.toNat ∧ (numL k mi b)[2]? = some r.toNat ∧ (numL k mi b)[3]? = some c.toNat from ⟨rfl, rfl, by rw [← HRC.out.1]; rfl, by rw [← HRC.out.2]; rfl⟩)
    have hr0 : 0 ≤ r := by rw [← HRC.out.1]; exact r1
    have hc0 : 0 ≤ c := by rw [← HRC.out.2]; exact r3
    rw [HEN.out] at HCH
    have HFT := hide hf0
    have HLN := hide (show (wrNs (numL k mi b)).length ≤ 2628 by have := wr_len (numL k mi b); have := HL.out; omega)
    have HZ := hide (show sev k.toNat ++ sev mi.toNat ++ wrNs (mxN b) = wrNs (numL k mi b) by unfold numL headN cellN mxN; simp [wrNs])
    obtain ⟨Z, hZ⟩ : ∃ Z, wrNs (numL k mi b) = Z := ⟨_, rfl⟩
    rw [hZ] at HX HLN HZ
    have HK0 := hide (HOK.out _ (List.mem_of_getElem? HH.out.1))
    have HK1 := hide (HOK.out _ (List.mem_of_getElem? HH.out.2.1))
    have HMB := hide (show IsMx w (.agg #[.int .i64 r, .int .i64 c, .slice a n cap]) b from ⟨_, by rw [HRC.out.1, HRC.out.2], ⟨a, cap, by rw [HN.out], by rw [HN.out]; exact h2, h3, H4.out⟩⟩)
    clear hrc hce hcl hf0 hm r1 r2 r3 r4 hZ
    go_enter Tryd.func7, Tryd.ntmps7
    go_wp2_with fail
    refine HCH.out.mono ?_
    rintro e w1 ⟨rfl, hb1⟩
    have HM1 := hide (HM0.out.bel hb1 HM0.out.lt)
    have HB1 := hide (bel_on HB0.out hb1)
    have HWS := hide (show w.heap.size + 1 ≤ w1.heap.size by have := hb1.size; have := HSA.out; omega)
    have HC1 := hide (wappnum_any (.slice none 0 0) [] w1.heap.size k.toNat k w1 (OwnY.nil _ _) (Nat.le_refl _) (by omega) HK0.out (by simp))
    obtain ⟨q0, q1, q2, q3, q4⟩ := HM1.out.c
    clear hb1
    go_wp2_with fail
    refine HC1.out.mono ?_
    rintro e w2 ⟨s2, rfl, ho2, hs2, hb2, _, _⟩
    have HO2 := hide ho2
    have HB2 := hide (hb2 w1 (Below.refl _ _) (Nat.le_refl _))
    have HC2 := hide (wappnum_any s2 _ w1.heap.size mi.toNat mi w2 ho2 hs2 (by omega) HK1.out (by have : (sev k.toNat).length ≤ 9 := sevF_len 9 _; simp; omega))
    have HM2 := hide (HM1.out.bel HB2.out HM1.out.lt)
    obtain ⟨y0, y1, y2, y3, y4⟩ := HM2.out.c
    clear ho2 hs2 hb2 q0 q1 q2 q3 q4
    go_wp2_with fail
    refine HC2.out.mono ?_
    rintro e w3 ⟨s3, rfl, ho3, hs3, hb3, _, _⟩
    have HO3 := hide ho3
    have HB3 := hide (hb3 w1 HB2.out (Nat.le_refl _))
    have HC3 := hide (wappmat_any s3 _ w1.heap.size _ b w w3 ho3 hs3 HMB.out (bel_on HB1.out HB3.out) HB1.out.size HFT.out (by have h1 : (sev k.toNat).length ≤ 9 := sevF_len 9 _; have h2 : (sev mi.toNat).length ≤ 9 := sevF_len 9 _; simp; omega))
    have HM3 := hide (HM1.out.bel HB3.out HM1.out.lt)
    obtain ⟨x0, x1, x2, x3, x4⟩ := HM3.out.c
    clear ho3 hs3 hb3 y0 y1 y2 y3 y4
    go_wp2_with fail
    refine HC3.out.mono ?_
    rintro e w4 ⟨s4, rfl, ho4, hs4, hb4⟩
    have HW := hide (show OwnY w4 w1.heap.size s4 Z by rw [← HZ.out]; simpa using ho4)
    have HBZ := hide (hb4 w1 HB3.out (Nat.le_refl _))
    have HSU := hide (wsums_any s4 Z w4 HW.out.isBys)
    clear ho4 hs4 hb4 x0 x1 x2 x3 x4
    go_wp2_with (first
      | (go_at_call 24; refine HSU.out.mono ?_; rintro e w5 ⟨s0, s1, rfl, hs, p0, p1, p2, p3, hb5⟩; have HS := hide hs; have HB5 := hide hb5; have HU := hide (two_bys w5 s0 s1 60 p0 p1 p2 p3); clear hs hb5)
      | (at_builtin; refine app_bys rfl _ _ rfl w1.heap.size s4 (.slice (some ⟨w5.heap.size, 0, none⟩) 2 2) Z [s0, s1] rfl (HW.out.below (bel_on HB5.out (below_one _ _))) rfl HU.out (some_nilOk _ _ _) ?h1 ?h2 ?_))
    case h1 => have := HLN.out; simp; omega
    case h2 => have h1 := HBZ.out.size; have h2 := HB5.out.size; first | omega | (rw [World.size_alloc]; omega)
    intro v' w6 hown hgr
    have HR := hide (show OwnY w6 w1.heap.size v' (encX k mi b) by rw [HX.out, HS.out]; exact hown)
    have HBF := hide (bel_on HB1.out (hgr w1 (bel_on (bel_on HBZ.out HB5.out) (below_one _ _)) (Nat.le_refl _)))
    clear hown hgr
    go_wp2
    exact bodyPost_ret (v := .tuple #[v', .nilIface]) (by simp [results, Tryd.results7, go_sem]) rfl ⟨v', by rw [HEN.out], HR.out.isBys, HR.out.nilOk, HBF.out⟩
  · have HX := hide (show encX k mi b = [] by unfold encX; rw [if_neg hm])
    have HEN := hide (err_ne hm)
    obtain ⟨E, hE⟩ : ∃ E, msgF k mi b = E := ⟨_, rfl⟩
    rw [hE] at HEN
    have HE := hide hE
    rw [hE, HEN.out] at HCH
    clear hm hE
    go_enter Tryd.func7, Tryd.ntmps7
    go_wp2_with (go_at_call 21; refine HCH.out.mono ?_; rintro e w1 ⟨rfl, hb1⟩; have HB1 := hide (bel_on HB0.out hb1); clear hb1)
    exact bodyPost_ret (v := .tuple #[.slice none 0 0, .iface 32 (.int .i64 E)]) (by simp [results, Tryd.results7, go_sem]) rfl ⟨_, by rw [HE.out, HEN.out], by rw [HX.out]; exact IsBys.nil _, fun n k e => by injection e with e1 e2 e3; exact ⟨e2.symm, e3.symm⟩, HB1.out⟩
end Go.Proofs.YtaajlggpjholeahDoor
