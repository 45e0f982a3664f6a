/- The walk of the law MailPlays: a box of package mail answers any calls as the law reckons. Conditions: the library's variable errors.errorType is as its text lays it; the room that a slice that comes in may have. -/
import Derived.Test.YtgedldbkghkahahDoorMbL
import Derived.Test.YtgedldbkghkahahDoorErr
import Derived.Deep.CutBlock
import Derived.Deep.CutRange
namespace Go.Proofs.YtgedldbkghkahahDoor
open Go.RowKit
theorem op_at {l : List (Int × Int × Int × Mx)} {i : Nat} (h : i < l.length) : ∃ x, l[i]? = some x := ⟨l[i], List.getElem?_eq_getElem h⟩
set_option maxHeartbeats 32000000 in
set_option maxRecDepth 100000 in
theorem plays_walk (xn : Int) (v : Value) (l : List (Int × Int × Int × Mx)) (w : World) (hv : IsOps w v l) (hH : Handle w) : Calls Tryd.prog 6 #[.int .i64 xn, v] w fun e w' => e = .returned (.bool true) ∧ Below w.heap.size w w' := by
  have HH := hide hH
  obtain ⟨a, cap, rfl, g2, g3, g4⟩ := hv
  obtain ⟨N, hN⟩ : ∃ n, l.length = n := ⟨_, rfl⟩
  have HN := hide hN
  have H4 := hide g4
  have hlen : N ≤ 9223372036854775807 := by have := hN; unfold maxLen at g3; omega
  rw [hN] at g2 ⊢
  by_cases c : xn < 1 ∨ 16 < xn
  · have HX := hide (mnew_no xn c w)
    have HE := hide (error_same (k := 1) (n := 1) rfl w HH.out)
    rw [err_ne (by decide)] at HE
    clear hH g4 hN
    have c' := c
    clear c
    rcases c' with c | c
    · go_enter Tryd.func6, Tryd.ntmps6
      go_wp2_with (first | (go_at_call 16; refine HX.out.mono ?_; rintro e w1 ⟨rfl, hw1⟩; rw [hw1]) | (go_at_call 9; refine HE.out.mono ?_; rintro e w2 ⟨rfl, hb2⟩))
      go_ret
      exact ⟨rfl, hb2⟩
    · have c2 : ¬ xn < 1 := by omega
      go_enter Tryd.func6, Tryd.ntmps6
      go_wp2_with (first | (go_at_call 16; refine HX.out.mono ?_; rintro e w1 ⟨rfl, hw1⟩; rw [hw1]) | (go_at_call 9; refine HE.out.mono ?_; rintro e w2 ⟨rfl, hb2⟩))
      go_ret
      exact ⟨rfl, hb2⟩
  obtain ⟨n, hn⟩ : ∃ n : Nat, xn = (n : Int) := ⟨xn.toNat, by omega⟩
  have b1 : 1 ≤ xn := by omega
  have b2 : xn ≤ 16 := by omega
  have hn16 : n ≤ 16 := by omega
  have HX := hide (mnew_any n xn hn (by omega) hn16 w)
  have HNN := hide hn
  clear hH g4 hN c hn
  go_enter Tryd.func6, Tryd.ntmps6
  go_wp2_with fail
  refine HX.out.mono ?_
  rintro e w1 ⟨B, C, P0, rfl, hbx, hp0, hb1⟩
  have HM0 := hide (show MInv w w1 B C n false (.slice none 0 0) [] from ⟨P0, w1.heap.size, hbx, LIs.nil _ _, hp0, fun e => absurd e (Nat.lt_irrefl _), hb1, fun q hq => by cases hq⟩)
  clear hbx hp0 hb1 HX
  go_wp2
  go_loopw [7, 8, 9] (fun lv cv iv wr => ∃ (k : Nat) (xi : Int) (cl : Bool) (qs : List ((Int × Int × Mx) × Value)), k ≤ N ∧ xi = (k : Int) ∧ iv = .int .i64 xi ∧ cv = .bool cl ∧ MInv w wr B C n cl lv qs) (fun _ _ iv _ => N - (intOf iv).toNat)
  case atStart => exact ⟨0, 0, false, [], Nat.zero_le _, rfl, rfl, rfl, HM0.out⟩
  case round =>
    obtain ⟨k, xi, cl, qs, hk, hxi, rfl, rfl, hmi⟩ := hrel
    have HXI := hide hxi
    have HMI := hide hmi
    have hx0 : 0 ≤ xi := by omega
    have hx1 : xi ≤ 9223372036854775807 := by omega
    obtain ⟨la, lk, hle⟩ := hmi.shape
    obtain ⟨qn, hqn⟩ : ∃ x, qs.length = x := ⟨_, rfl⟩
    have hq16 : qn ≤ 16 := by rw [← hqn]; exact Nat.le_trans hmi.le hn16
    rw [hqn] at hle
    subst hle
    have HQN := hide hqn
    clear hxi hmi hqn HM0
    by_cases hlt : xi < (N : Int)
    · obtain ⟨x, hx⟩ := op_at (l := l) (i := k) (by have := HN.out; have := HXI.out; omega)
      obtain ⟨ob, oo, ha, hop⟩ := H4.out.resolve_left (fun e => by rw [e] at hx; simp at hx)
      subst ha
      obtain ⟨os, hoa, his, hnil, hcl⟩ := hop k x hx
      obtain ⟨kd, mk, mi, mb⟩ := x
      obtain ⟨r, hr⟩ : ∃ r, mb.rows = r := ⟨_, rfl⟩
      obtain ⟨c, hc⟩ : ∃ c, mb.cols = c := ⟨_, rfl⟩
      obtain ⟨ya, yc, hye, _⟩ := id his
      obtain ⟨yn, hyn⟩ : ∃ x, mb.cells.length = x := ⟨_, rfl⟩
      dsimp only at hye hnil hcl his
      rw [hyn] at hye
      subst hye
      obtain ⟨d0, d1, d2, d3, d4, d5⟩ := hoa
      dsimp only at d0 d1 d2 d3 d4
      rw [hr] at d3
      rw [hc] at d4
      have HBW := hide HMI.out.bel
      replace d0 := (HBW.out.cell (World.block_lt_of_cell? w _ d0)).trans d0
      replace d1 := (HBW.out.cell (World.block_lt_of_cell? w _ d1)).trans d1
      replace d2 := (HBW.out.cell (World.block_lt_of_cell? w _ d2)).trans d2
      replace d3 := (HBW.out.cell (World.block_lt_of_cell? w _ d3)).trans d3
      replace d4 := (HBW.out.cell (World.block_lt_of_cell? w _ d4)).trans d4
      replace d5 := (HBW.out.cell (World.block_lt_of_cell? w _ d5)).trans d5
      rw [show k = xi.toNat by have := HXI.out; omega] at d0 d1 d2 d3 d4 d5
      have HRC := hide (And.intro hr (And.intro hc hyn))
      have HIS := hide his
      have HNIL := hide hnil
      have HCL := hide hcl
      clear hx hop his hnil hcl hr hc hyn
      obtain ⟨W1, hW1⟩ : ∃ x, x = wr.alloc (.cells #[.int .i64 kd, .int .i64 mk, .int .i64 mi, .int .i64 r, .int .i64 c, .slice ya yn yc] 52) := ⟨_, rfl⟩
      have HBO := hide (below_one wr (.cells #[.int .i64 kd, .int .i64 mk, .int .i64 mi, .int .i64 r, .int .i64 c, .slice ya yn yc] 52))
      have HM1 := hide (HMI.out.below HBO.out)
      rw [← hW1] at HBO HM1
      have HW1 := hide hW1
      clear hW1
      go_upto_block 2 with fail
      rw [← HW1.out]
      go_cut [7, 8, 11, 12, 13, 14, 15, 16, 17, 18, 19, 20] from 53 to 125 (fun lv cv okv _ _ _ _ _ _ _ _ _ wx => ∃ (cl : Bool) (qs : List ((Int × Int × Mx) × Value)), cv = .bool cl ∧ okv = .bool true ∧ MInv w wx B C n cl lv qs)
      case first =>
        by_cases c1 : kd = 1
        · have n1 : (kd == 1) = true := by simpa using c1
          clear c1
          obtain ⟨P1, g1, hbx, hli, hp1, hg1, hb1, hq1⟩ := HMI.out
          have hO := Joins.cell_of_block (by rw [HW1.out]; exact heap_alloc_new wr _ : W1.heap[wr.heap.size]? = some (.cells #[.int .i64 kd, .int .i64 mk, .int .i64 mi, .int .i64 r, .int .i64 c, .slice ya yn yc] 52 (0, 0)))
          have o1 : W1.cell? ⟨wr.heap.size, 1, none⟩ = some (.int .i64 mk) := by rw [hO]; rfl
          have o2 : W1.cell? ⟨wr.heap.size, 2, none⟩ = some (.int .i64 mi) := by rw [hO]; rfl
          have o3 : W1.cell? ⟨wr.heap.size, 3, none⟩ = some (.int .i64 r) := by rw [hO]; rfl
          have o4 : W1.cell? ⟨wr.heap.size, 4, none⟩ = some (.int .i64 c) := by rw [hO]; rfl
          have o5 : W1.cell? ⟨wr.heap.size, 5, none⟩ = some (.slice ya yn yc) := by rw [hO]; rfl
          have HOC := hide (And.intro o1 (And.intro o2 (And.intro o3 (And.intro o4 o5))))
          have HSZ := hide (show wr.heap.size < W1.heap.size by rw [HW1.out, World.size_alloc]; exact Nat.lt_succ_self _)
          have HBA := hide (below_one W1 (.cells #[.int .i64 mk, .int .i64 mi, .int .i64 r, .int .i64 c, .slice ya yn yc] 26))
          have HBE := hide (bel_on HBA.out (below_one (W1.alloc (.cells #[.int .i64 mk, .int .i64 mi, .int .i64 r, .int .i64 c, .slice ya yn yc] 26)) (.cells #[] 3)))
          have o6 := cel_b HBE.out o5
          have HOZ := hide (show OwnZ ((W1.alloc (.cells #[.int .i64 mk, .int .i64 mi, .int .i64 r, .int .i64 c, .slice ya yn yc] 26)).alloc (.cells #[] 3)) (W1.heap.size + 1) (.slice (some ⟨W1.heap.size + 1, 0, none⟩) 0 0) [] by have := OwnZ.lit0 (W1.alloc (.cells #[.int .i64 mk, .int .i64 mi, .int .i64 r, .int .i64 c, .slice ya yn yc] 26)); rw [World.size_alloc] at this; exact this)
          have HIE := hide (HIS.out.below (bel_on (bel_on HBW.out HBO.out) HBE.out))
          have HBKM := hide (Blk5.new W1 (.int .i64 mk) (.int .i64 mi) (.int .i64 r) (.int .i64 c) (.slice ya yn yc))
          have HST := hide (And.intro hbx (And.intro hli (And.intro hp1 (And.intro hb1 (And.intro hq1 hg1)))))
          clear hbx hli hp1 hg1 hb1 hq1 hO d0 d1 d2 d3 d4 d5
          go_wp2_with (at_builtin; refine app_zs (w := (W1.alloc (.cells #[.int .i64 mk, .int .i64 mi, .int .i64 r, .int .i64 c, .slice ya yn yc] 26)).alloc (.cells #[] 3)) rfl _ _ rfl (W1.heap.size + 1) (.slice (some ⟨W1.heap.size + 1, 0, none⟩) 0 0) (.slice ya yn yc) [] mb.cells rfl HOZ.out rfl HIE.out HNIL.out ?h1 (by simp) ?_)
          case h1 => have := HCL.out; simp; omega
          intro s1 w4 ho4 hb4
          have HO4 := hide (show OwnZ w4 (W1.heap.size + 1) s1 mb.cells from ho4)
          have HB4 := hide (hb4 W1 HBE.out (Nat.le_succ _))
          have HBM4 := hide (hb4 (W1.alloc (.cells #[.int .i64 mk, .int .i64 mi, .int .i64 r, .int .i64 c, .slice ya yn yc] 26)) (below_one _ _) (by rw [World.size_alloc]; exact Nat.le_refl _))
          have hbk4 := HBKM.out.bel HBM4.out HBKM.out.lt
          have HBK4 := hide hbk4
          obtain ⟨m0, m1, m2, m3, m4⟩ := hbk4.c
          have f4 := hbk4.f 4
          obtain ⟨sa, sk, hse⟩ := HO4.out.shape
          rw [HRC.out.2.2] at hse
          subst hse
          clear ho4 hb4 hbk4 o1 o2 o3 o4 o5 o6
          obtain ⟨V, hV⟩ : ∃ x, x = w4.setCell ⟨W1.heap.size, 4, none⟩ (.slice sa yn sk) := ⟨_, rfl⟩
          have HBV1 := hide (show Below W1.heap.size W1 V by rw [hV]; exact Below.setCell HB4.out (by exact Nat.le_refl _) _)
          have HBV := hide (bel_on HBO.out HBV1.out)
          have HBKV := hide (show Blk5 V W1.heap.size (.int .i64 mk) (.int .i64 mi) (.int .i64 r) (.int .i64 c) (.slice sa yn sk) by rw [hV]; exact HBK4.out.set4 (.slice sa yn sk))
          have HOV := hide (show OwnZ V (W1.heap.size + 1) (.slice sa yn sk) mb.cells by rw [hV]; exact World.ownsRow.kept (row := some W1.heap.size) HO4.out (grw_set _ _ _ _) (.inr (fun e => by have h1 := (World.ownsRow.lt HO4.out _ e).1; omega)))
          have HX := hide (mput_any P1 B C n cl (msQ qs) (mk, mi, mb) (.agg #[.int .i64 mk, .int .i64 mi, .int .i64 r, .int .i64 c, .slice sa yn sk]) V (HST.out.1.keep (Kept.of (X := fun _ => False) HBV.out) (fun _ _ e => e)) ⟨_, by rw [HRC.out.1, HRC.out.2.1], HOV.out.isInts⟩ (fun a0 a1 a2 a3 s e => by
            injection e with e
            simp at e
            rw [← e.2.2.2.2]
            exact HOV.out.nilM) (by have := HCL.out; exact Nat.le_trans this (by decide)))
          obtain ⟨E, hE⟩ : ∃ E, putE cl n (msQ qs) = E := ⟨_, rfl⟩
          obtain ⟨EV, hEV⟩ : ∃ x, errV E = x := ⟨_, rfl⟩
          have HE := hide hE
          have HEV := hide hEV
          rw [hE, hEV] at HX
          have HVV := hide hV
          clear hE hEV hV
          go_wp2_with fail
          rw [← HVV.out]
          refine HX.out.mono ?_
          rintro e u1 ⟨rfl, ⟨P2, hbx2, hp2⟩, hk2⟩
          have HBX2 := hide hbx2
          have HP2 := hide hp2
          have HK2 := hide hk2
          have HCW := hide (show C < wr.heap.size from HST.out.1.lt C HST.out.1.pC)
          have HOC2 := hide (show ∀ (i : Nat) (v : Value), W1.cell? ⟨wr.heap.size, i, none⟩ = some v → u1.cell? ⟨wr.heap.size, i, none⟩ = some v from fun i v h => hk2.cell (p := ⟨wr.heap.size, i, none⟩) (by have := HCW.out; show ¬ wr.heap.size = C; omega) (cel_b HBV1.out h))
          have HBK5 := hide (show Blk5 u1 W1.heap.size (.int .i64 mk) (.int .i64 mi) (.int .i64 r) (.int .i64 c) (.slice sa yn sk) from (hk2.block _ HBKV.out.lt (by have h1 := HCW.out; have h2 := HSZ.out; show ¬ W1.heap.size = C; omega)).trans HBKV.out)
          obtain ⟨gU, hLU, hgU⟩ := HST.out.2.1.carry ((Kept.of (X := fun b => b = C) HBV.out).trans hk2 (fun _ _ e => e)) (fun hg e => (HST.out.2.2.2.2.2 hg).1 (by rw [e]; exact HST.out.1.pC))
          have HLU := hide hLU
          have HGU := hide (show (gU < wr.heap.size ∧ ¬ P1 gU ∧ w.heap.size ≤ gU) ∨ gU = u1.heap.size from by
            rcases hgU with ⟨e1, e2⟩ | e
            · rw [e1]; exact .inl ⟨e2, HST.out.2.2.2.2.2 e2⟩
            · exact .inr e)
          have HUS := hide (show V.heap.size ≤ u1.heap.size from hk2.size)
          have HVS := hide (show W1.heap.size + 1 ≤ V.heap.size from HBKV.out.lt)
          clear hLU hgU hbx2 hp2 hk2 HX m0 m1 m2 m3 m4 f4
          go_upto_if 68 with fail
          obtain ⟨qs2, hqs2⟩ : ∃ x, putQ cl n qs ((mk, mi, mb), .slice ya yn yc) = x := ⟨_, rfl⟩
          have HQ2 := hide hqs2
          clear hqs2
          obtain ⟨o1, o2, o3, o4, o5⟩ := HOC.out
          replace o1 := HOC2.out _ _ o1
          replace o2 := HOC2.out _ _ o2
          replace o3 := HOC2.out _ _ o3
          replace o4 := HOC2.out _ _ o4
          replace o5 := HOC2.out _ _ o5
          go_cut [7, 14] from 69 to 77 (fun lv ev wx => ∃ (g2 : Nat), ev = .int .i64 E ∧ LIs wx lv g2 (flQ qs2) qs2.length ∧ (g2 = gU ∨ u1.heap.size ≤ g2) ∧ Kept (fun b => b = gU) u1 wx)
          case first =>
            have hmsl : (msQ qs).length = qn := by rw [msQ_len, HQN.out]
            cases cl with
            | true =>
              have HEE := hide (show 5 = E by rw [← HE.out]; unfold putE; rw [if_pos rfl])
              have HQQ := hide (show qs2 = qs by rw [← HQ2.out]; unfold putQ; rw [HE.out, ← HEE.out, if_neg (by decide)])
              go_wp2
              go_meet
              exact ⟨gU, by rw [← HEE.out], by rw [HQQ.out, HQN.out]; have := HLU.out; rw [HQN.out] at this; exact this, .inl rfl, Kept.refl _ _⟩
            | false =>
              by_cases cf : (qn : Int) = xn
              · have HEE := hide (show 3 = E by rw [← HE.out]; unfold putE; rw [if_neg (by decide), if_pos (by rw [hmsl]; have := HNN.out; omega)])
                have HQQ := hide (show qs2 = qs by rw [← HQ2.out]; unfold putQ; rw [HE.out, ← HEE.out, if_neg (by decide)])
                have nf : ((qn : Int) == xn) = true := by simpa using cf
                clear cf hmsl
                go_wp2
                go_meet
                exact ⟨gU, by rw [← HEE.out], by rw [HQQ.out, HQN.out]; have := HLU.out; rw [HQN.out] at this; exact this, .inl rfl, Kept.refl _ _⟩
              · have HEE := hide (show 0 = E by rw [← HE.out]; unfold putE; rw [if_neg (by decide), if_neg (by rw [hmsl]; have := HNN.out; omega)])
                have HQQ := hide (show qs2 = qs ++ [((mk, mi, mb), .slice ya yn yc)] by rw [← HQ2.out]; unfold putQ; rw [HE.out, ← HEE.out, if_pos rfl])
                have nf : ((qn : Int) == xn) = false := by simpa using cf
                have HLB := hide (show LIs (u1.alloc (.cells #[.int .i64 mk, .int .i64 mi, .int .i64 r, .int .i64 c, .slice ya yn yc] 26)) (.slice la qn lk) gU (flQ qs) qn by have := HLU.out; rw [HQN.out] at this; exact this.keep (Kept.of (X := fun _ => False) (below_one _ _)) (fun _ e => e))
                have HRN := hide (show (u1.alloc (.cells #[.int .i64 mk, .int .i64 mi, .int .i64 r, .int .i64 c, .slice ya yn yc] 26)).rangeAt u1.heap.size 0 [.int .i64 mk, .int .i64 mi, .int .i64 r, .int .i64 c, .slice ya yn yc] from range_new (heap_alloc_new u1 _) (fun j u hu => by simpa using hu))
                clear cf hmsl
                go_wp2_with (at_builtin; refine app_msg (w := u1.alloc (.cells #[.int .i64 mk, .int .i64 mi, .int .i64 r, .int .i64 c, .slice ya yn yc] 26)) rfl _ _ rfl (.slice la qn lk) gU qn u1.heap.size (flQ qs) [.int .i64 mk, .int .i64 mi, .int .i64 r, .int .i64 c, .slice ya yn yc] rfl HLB.out rfl HRN.out rfl (by simp [Value.oneCell']) (by omega) ?_)
                intro v' g' w5 hl5 hg5 hk5
                have HL5 := hide hl5
                have HG5 := hide hg5
                have HK5 := hide hk5
                clear hl5 hg5 hk5
                go_wp2
                go_meet
                refine ⟨g', by rw [← HEE.out], ?_, ?_, (Kept.of (below_one _ _)).trans HK5.out (fun _ _ e => e)⟩
                · rw [HQQ.out, flQ_snoc, List.length_append, HQN.out]
                  have := HL5.out
                  rw [show fl5 ((mk, mi, mb), Value.slice ya yn yc) = [.int .i64 mk, .int .i64 mi, .int .i64 r, .int .i64 c, .slice ya yn yc] by unfold fl5; rw [HRC.out.1, HRC.out.2.1]]
                  exact this
                · rcases HG5.out with q | q
                  · exact .inl q
                  · exact .inr (by omega)
          case rest =>
            obtain ⟨g2x, rfl, hl2, hgx, hkx⟩ := hcut
            obtain ⟨lv, hlv⟩ : ∃ x, x = u7 := ⟨_, rfl⟩
            obtain ⟨pa2, pk2, hpe⟩ := hl2.shape
            obtain ⟨pn2, hpn2⟩ : ∃ x, qs2.length = x := ⟨_, rfl⟩
            have hPg : ¬ P2 gU := fun e => by
              rcases HGU.out with q | q
              · rcases HP2.out gU e with z | z
                · exact q.2.1 z
                · have h1 := HVS.out; have h2 := HSZ.out; omega
              · have := HBX2.out.lt gU e; omega
            have hWg : W1.heap.size ≠ gU := by
              have h1 := HVS.out; have h2 := HSZ.out; have h3 := HUS.out
              rcases HGU.out with q | q <;> omega
            have hbkx : Blk5 wc W1.heap.size (.int .i64 mk) (.int .i64 mi) (.int .i64 r) (.int .i64 c) (.slice sa yn sk) := (hkx.block _ HBK5.out.lt hWg).trans HBK5.out
            obtain ⟨SB, hS1, hS2, hS3⟩ : ∃ SB, (sa = some ⟨SB, 0, none⟩ ∨ yn = 0) ∧ wc.there SB 0 yn ∧ ((W1.heap.size + 1 ≤ SB ∧ SB < V.heap.size) ∨ SB = wc.heap.size) := by
              rcases HOV.out.row with e | ⟨sb, kk, e1, e2, e3, e4⟩
              · have : yn = 0 := by rw [← HRC.out.2.2, e]; rfl
                exact ⟨wc.heap.size, .inr this, fun j hj => by omega, .inr rfl⟩
              · have ea := (Value.slice.inj e1).1
                rw [HRC.out.2.2] at e4
                refine ⟨sb, .inl ea, ?_, .inl ⟨e2, e3⟩⟩
                have hb1 := HK2.out.block sb e3 (by have h1 := HCW.out; have h2 := HSZ.out; show ¬ sb = C; omega)
                have hb2 := hkx.block sb (by have := HUS.out; omega) (by
                  have h2 := HSZ.out; have h3 := HUS.out
                  rcases HGU.out with q | q
                  · show ¬ sb = gU; omega
                  · show ¬ sb = gU; omega)
                intro j hj
                rw [World.cell?_of_block (a := ⟨sb, 0 + j, none⟩) (hb2.trans hb1), World.frozen?_of_block (a := ⟨sb, 0 + j, none⟩) (hb2.trans hb1)]
                exact e4 j hj
            have HFIN := hide (show ∀ W6, Kept (fun b => b = SB) wc W6 → MInv w W6 B C n cl u7 qs2 from fun W6 hk6 => by
              have z1 := HSZ.out
              have z2 := HVS.out
              have z3 := HUS.out
              have z4 := hkx.size
              have z5 := hk6.size
              have z6 := HST.out.2.2.2.1.size
              have hPS : ∀ b, P2 b → b ≠ SB := fun b hb e => by
                rcases hS3 with q | q
                · rcases HP2.out b hb with z | z
                  · have := HST.out.1.lt b z; omega
                  · omega
                · have := HBX2.out.lt b hb; omega
              refine ⟨P2, g2x, ?_, hl2.keep hk6 (fun hg e => ?_), fun b hb => ?_, fun hg => ?_, ?_, ?_⟩
              · have := (HBX2.out.keep hkx (fun b hb e => hPg (by rw [← e]; exact hb))).keep hk6 hPS
                rw [← HQ2.out, putQ_ms]
                exact this
              · have e' : g2x = SB := e
                rcases hS3 with q | q
                · rcases hgx with y | y
                  · rcases HGU.out with x | x <;> omega
                  · omega
                · omega
              · rcases HP2.out b hb with z | z
                · exact HST.out.2.2.1 b z
                · have := HBV.out.size; omega
              · rcases hgx with y | y
                · rw [y]
                  refine ⟨hPg, ?_⟩
                  rcases HGU.out with x | x
                  · exact x.2.2
                  · have := HBV.out.size; omega
                · refine ⟨fun e => by have := HBX2.out.lt _ e; omega, by have := HBV.out.size; omega⟩
              · have y1 := bel_on HST.out.2.2.2.1 HBV.out
                have y2 := Kept.below y1 HK2.out y1.size (fun k e => by rw [e]; exact HST.out.2.2.1 _ HST.out.1.pC)
                have y3 := Kept.below y2 hkx y2.size (fun k e => by
                  have e' : k = gU := e
                  rw [e']
                  rcases HGU.out with x | x
                  · exact x.2.2
                  · have := HBV.out.size; omega)
                exact Kept.below y3 hk6 y3.size (fun k e => by
                  have e' : k = SB := e
                  rw [e']
                  have := HBV.out.size
                  rcases hS3 with q | q <;> omega)
              · rw [← HQ2.out]
                unfold putQ
                split
                · intro q hq
                  rcases List.mem_append.1 hq with z | z
                  · exact HST.out.2.2.2.2.1 q z
                  · rw [List.mem_singleton.1 z]; exact HIS.out
                · exact HST.out.2.2.2.2.1)
            have HS1 := hide hS1
            have HBKX := hide hbkx
            have HTH := hide hS2
            have HSW := hide (show W1.heap.size ≠ SB by
              have z3 := HUS.out; have z4 := hkx.size; have z2 := HVS.out
              rcases hS3 with q | q <;> omega)
            clear hl2 hgx hkx hPg hWg hbkx hS1 hS2 hS3 hlv lv o1 o2 o3 o4 o5
            rw [hpn2] at hpe
            subst hpe
            clear hpn2
            go_wp2
            have hyn : yn ≤ 17592186043904 := by rw [← HRC.out.2.2]; exact HCL.out
            have hskl : yn ≤ sk := by
              obtain ⟨_, _, he, h2, _⟩ := HOV.out.isInts
              have e2 := (Value.slice.inj he).2.1
              have e3 := (Value.slice.inj he).2.2
              omega
            go_loopw [15] (fun jv w6 => ∃ (j : Nat) (xj : Int), j ≤ yn ∧ xj = (j : Int) ∧ jv = .int .i64 xj ∧ Kept (fun b => b = SB) wc w6 ∧ w6.there SB 0 yn) (fun jv _ => yn - (intOf jv).toNat)
            case atStart => exact ⟨0, 0, Nat.zero_le _, rfl, rfl, Kept.refl _ _, HTH.out⟩
            case round =>
              obtain ⟨j, xj, hj, hxj, rfl, hk6, hth⟩ := hrel
              have HXJ := hide hxj
              have HK6 := hide hk6
              have HT6 := hide hth
              have hj0 : 0 ≤ xj := by omega
              have hj1 : xj ≤ 17592186043904 := by omega
              have hb6 : Blk5 wr W1.heap.size (.int .i64 mk) (.int .i64 mi) (.int .i64 r) (.int .i64 c) (.slice sa yn sk) := (hk6.block _ HBKX.out.lt HSW.out).trans HBKX.out
              obtain ⟨_, _, _, _, t4⟩ := hb6.c
              clear hxj hk6 hth hb6
              by_cases hlt4 : xj < (yn : Int)
              · obtain hsa := HS1.out.resolve_right (by omega)
                subst hsa
                obtain ⟨hsome, hfr⟩ := HT6.out j (by have := HXJ.out; omega)
                obtain ⟨ov, hov⟩ := Option.isSome_iff_exists.1 hsome
                rw [Nat.zero_add, show j = xj.toNat by have := HXJ.out; omega] at hov hfr
                have HK7 := hide ((HK6.out).trans (Kept.set (X := fun b => b = SB) wr rfl xj.toNat (.int .i64 7)) (fun _ _ e => e))
                have HT7 := hide (show (wr.setCell ⟨SB, xj.toNat, none⟩ (.int .i64 7)).there SB 0 yn from fun i hi => by
                  obtain ⟨q1, q2⟩ := HT6.out i hi
                  refine ⟨?_, by rw [World.frozen?_setCell]; exact q2⟩
                  by_cases e : 0 + i = xj.toNat
                  · rw [e, World.cell?_setCell_same (h := hov)]; rfl
                  · rw [World.cell?_setCell_other (h := fun z => e (by injection z with _ z _; exact z.symm))]; exact q1)
                clear hsome
                go_wp2
                go_roundw
                case rel => exact ⟨j + 1, _, by have := HXJ.out; omega, by have := HXJ.out; omega, rfl, HK7.out, HT7.out⟩
                case measure => have := HXJ.out; simp [intOf]; omega
              · have HM6 := hide (HFIN.out wr HK6.out)
                have HER := hide (error_same (k := E) (n := E) rfl wr (HH.out.below HM6.out.bel))
                rw [HEV.out] at HER
                go_wp2_with fail
                refine HER.out.mono ?_
                rintro e w8 ⟨rfl, hb8⟩
                have HM8 := hide (HM6.out.below hb8)
                clear hb8 HER
                go_wp2
                go_meet
                exact ⟨cl, qs2, rfl, rfl, HM8.out⟩
        · have n1 : (kd == 1) = false := by simpa using c1
          by_cases c2 : kd = 2
          · have n2 : (kd == 2) = true := by simpa using c2
            clear c1 c2 d0 d1 d2 d3 d4 d5
            obtain ⟨P1, g1, hbx, hli, hp1, hg1, hb1, hq1⟩ := HM1.out
            cases qs with
            | nil =>
              obtain rfl : qn = 0 := HQN.out.symm
              obtain ⟨E, hE⟩ : ∃ E : Int, E = if cl = true then 5 else 4 := ⟨_, rfl⟩
              have hE0 : E ≠ 0 := by rw [hE]; split <;> decide
              have HX := hide (mtake_of P1 B C n cl [] (.iface 32 (.int .i64 E)) 0 0 ⟨0, 0, []⟩ W1 (hbx.lt C hbx.pC) hbx.lt (fun W hb => by
                have hbW := hbx.keep (Kept.of (X := fun _ => False) hb) (fun _ _ e => e)
                cases cl with
                | true => rw [hE, if_pos rfl]; exact (qtake_shut P1 B C n W hbW).mono (fun e w' q => by obtain ⟨u, h1, _, h2⟩ := q; exact ⟨u, h1, h2⟩)
                | false => rw [hE, if_neg (by decide)]; exact (qtake_none P1 B C n W hbW).mono (fun e w' q => by obtain ⟨u, h1, _, h2⟩ := q; exact ⟨u, h1, h2⟩)))
              have HTU := hide (fun (W : World) (P' : Nat → Prop) (h1 : BoxIs W P' B C n cl (msQ [])) (h2 : ∀ b, P' b → P1 b ∨ W1.heap.size ≤ b) (h3 : Kept (fun b => b = B ∨ b = C) W1 W) => MInv.turn (qs := []) hbx hli hp1 hg1 hb1 hq1 h1 h2 h3)
              have HEE := hide hE
              have HE0 := hide hE0
              clear hbx hli hp1 hg1 hb1 hq1 hE hE0
              go_wp2_with fail
              refine HX.out.mono ?_
              rintro e w3 ⟨u, rfl, hmu, hbx3, hk3⟩
              have HM3 := hide (HTU.out w3 P1 hbx3 (fun _ e => .inl e) (hk3.mono (fun _ _ e => .inr e)))
              obtain ⟨ua, un, uc, rfl⟩ := hmu.shape
              have HB4 := hide (bel_on (below_one w3 (.cells #[.int .i64 0, .int .i64 0, .int .i64 0, .int .i64 0, .slice ua un uc] 26)) (below_one (w3.alloc (.cells #[.int .i64 0, .int .i64 0, .int .i64 0, .int .i64 0, .slice ua un uc] 26)) (.cells #[.int .i64 0, .int .i64 0, .int .i64 0, .int .i64 0, .slice none 0 0] 26)))
              have HM4 := hide (HM3.out.below HB4.out)
              have hbk := (Blk5.new w3 (.int .i64 0) (.int .i64 0) (.int .i64 0) (.int .i64 0) (.slice ua un uc)).bel (below_one _ (.cells #[.int .i64 0, .int .i64 0, .int .i64 0, .int .i64 0, .slice none 0 0] 26)) (Blk5.new w3 _ _ _ _ _).lt
              obtain ⟨q0, q1, q2, q3, q4⟩ := hbk.c
              have HSM := hide (messages_any _ _ 0 0 0 0 ⟨0, 0, []⟩ ⟨0, 0, []⟩ _ (hmu.below HB4.out) (show IsMsg ((w3.alloc (.cells #[.int .i64 0, .int .i64 0, .int .i64 0, .int .i64 0, .slice ua un uc] 26)).alloc (.cells #[.int .i64 0, .int .i64 0, .int .i64 0, .int .i64 0, .slice none 0 0] 26)) (.agg #[.int .i64 0, .int .i64 0, .int .i64 0, .int .i64 0, .slice none 0 0]) 0 0 ⟨0, 0, []⟩ from ⟨_, rfl, IsInts.nil _⟩))
              rw [sameG_self] at HSM
              clear hmu hbx3 hk3 hbk HX HTU
              have HER := hide (fun (W : World) (hb : Below w.heap.size w W) => error_same (k := E) (n := E) rfl W (HH.out.below hb))
              rw [err_ne HE0.out] at HER
              cases cl with
              | true =>
                obtain rfl : E = 5 := by rw [HEE.out, if_pos rfl]
                go_wp2_with fail
                refine HSM.out.mono ?_
                rintro e w5 ⟨rfl, hb5⟩
                have HM5 := hide (HM4.out.below hb5)
                clear hb5 q0 q1 q2 q3 q4
                go_wp2_with fail
                refine (HER.out w5 HM5.out.bel).mono ?_
                rintro e w6 ⟨rfl, hb6⟩
                have HM6 := hide (HM5.out.below hb6)
                clear hb6
                go_wp2
                go_meet
                exact ⟨true, [], rfl, rfl, HM6.out⟩
              | false =>
                obtain rfl : E = 4 := by rw [HEE.out, if_neg (by decide)]
                go_wp2_with fail
                refine HSM.out.mono ?_
                rintro e w5 ⟨rfl, hb5⟩
                have HM5 := hide (HM4.out.below hb5)
                clear hb5 q0 q1 q2 q3 q4
                go_wp2_with fail
                refine (HER.out w5 HM5.out.bel).mono ?_
                rintro e w6 ⟨rfl, hb6⟩
                have HM6 := hide (HM5.out.below hb6)
                clear hb6
                go_wp2
                go_meet
                exact ⟨false, [], rfl, rfl, HM6.out⟩
            | cons q t =>
              obtain ⟨⟨x1, x2, mx⟩, qv⟩ := q
              obtain ⟨x3, hx3⟩ : ∃ r, mx.rows = r := ⟨_, rfl⟩
              obtain ⟨x4, hx4⟩ : ∃ r, mx.cols = r := ⟨_, rfl⟩
              have hqi := hq1 _ (List.mem_cons_self ..)
              dsimp only at hqi
              obtain ⟨sa, sc, hqe, _⟩ := id hqi
              obtain ⟨sn, hsn⟩ : ∃ x, mx.cells.length = x := ⟨_, rfl⟩
              rw [hsn] at hqe
              subst hqe
              have HQI := hide hqi
              have HX := hide (mtake_of P1 B C n cl (msQ t) .nilIface x1 x2 mx W1 (hbx.lt C hbx.pC) hbx.lt (fun W hb => qtake_some P1 B C n cl (x1, x2, mx) (msQ t) W (hbx.keep (Kept.of (X := fun _ => False) hb) (fun _ _ e => e))))
              obtain ⟨off, cp, hlv, hcp, hg, e0, e1, e2, e3, e4⟩ := hli.first rfl
              have hqn0 : 0 < qn := by rw [← HQN.out]; exact Nat.zero_lt_succ _
              rw [HQN.out] at hlv hcp
              have hla := (Value.slice.inj hlv).1
              have hlk := (Value.slice.inj hlv).2.2
              subst hla hlk
              dsimp only at e0 e1 e2 e3 e4
              rw [hx3] at e2
              rw [hx4] at e3
              have HG := hide (hg1 hg)
              have HPC := hide (hbx.pC)
              have HPB := hide (hbx.pB)
              have HLI := hide hli
              have HP1 := hide hp1
              have HQT := hide (show QOk w t from fun q hq => hq1 q (List.mem_cons_of_mem _ hq))
              have HB1 := hide hb1
              have HGL := hide hg
              have HRX := hide (And.intro hx3 hx4)
              have hCg : g1 ≠ C := fun e => (hg1 hg).1 (by rw [e]; exact hbx.pC)
              have HCG := hide hCg
              clear hbx hli hp1 hg1 hb1 hq1 hg hqi hsn hx3 hx4 hlv hCg
              have HEC := hide (And.intro e0 (And.intro e1 (And.intro e2 (And.intro e3 e4))))
              clear e0 e1 e2 e3 e4
              go_wp2_with fail
              refine HX.out.mono ?_
              rintro e w3 ⟨u, rfl, hmu, hbx3, hk3⟩
              obtain ⟨ua, un, uc, rfl⟩ := hmu.shape
              rw [HRX.out.1, HRX.out.2] at hmu ⊢
              have HB4 := hide (bel_on (below_one w3 (.cells #[.int .i64 x1, .int .i64 x2, .int .i64 x3, .int .i64 x4, .slice ua un uc] 26)) (below_one (w3.alloc (.cells #[.int .i64 x1, .int .i64 x2, .int .i64 x3, .int .i64 x4, .slice ua un uc] 26)) (.cells #[.int .i64 0, .int .i64 0, .int .i64 0, .int .i64 0, .slice none 0 0] 26)))
              have HB5 := hide (bel_on (below_one w3 (.cells #[.int .i64 x1, .int .i64 x2, .int .i64 x3, .int .i64 x4, .slice ua un uc] 26)) (below_one (w3.alloc (.cells #[.int .i64 x1, .int .i64 x2, .int .i64 x3, .int .i64 x4, .slice ua un uc] 26)) (.cells #[.int .i64 x1, .int .i64 x2, .int .i64 x3, .int .i64 x4, .slice sa sn sc] 26)))
              have hkg := fun {p : Addr} {v : Value} (hp : p.block = g1) (hc : W1.cell? p = some v) => cel_b HB4.out (hk3.cell (p := p) (v := v) (by rw [hp]; exact HCG.out) hc)
              have e0 := hkg rfl HEC.out.1
              have e1 := hkg rfl HEC.out.2.1
              have e2 := hkg rfl HEC.out.2.2.1
              have e3 := hkg rfl HEC.out.2.2.2.1
              have e4 := hkg rfl HEC.out.2.2.2.2
              have HL5 := hide ((HLI.out.keep hk3 (fun _ => HCG.out)).keep (Kept.of (X := fun _ => False) HB5.out) (fun _ e => e))
              have HM5 := hide (hmu.below HB5.out)
              have HK3 := hide hk3
              have HBX3 := hide (hbx3.keep (Kept.of (X := fun _ => False) HB5.out) (fun _ _ e => e))
              have HBW3 := hide (Kept.below HB1.out ((HK3.out.trans (Kept.of (X := fun _ => False) HB5.out) (fun _ _ e => absurd e id))) HB1.out.size (fun k e => by rw [e]; exact HP1.out _ HPC.out))
              obtain ⟨qn', hqn'⟩ : ∃ m, qn = m + 1 := ⟨qn - 1, by omega⟩
              subst hqn'
              have hln : t.length = qn' := by have := HQN.out; simp at this; omega
              have hLx := HL5.out
              rw [show ((((x1, x2, mx), Value.slice sa sn sc) :: t : List ((Int × Int × Mx) × Value))).length = qn' + 1 by rw [List.length_cons, hln]] at hLx
              obtain ⟨ca, cc, hsl, hLc⟩ := hLx.cut
              rw [flQ_drop] at hLc
              have HLC := hide hLc
              have HLN := hide hln
              clear hkg hmu hbx3 hk3 HX hLx hLc hln
              have HSM := hide (messages_any _ _ x1 x2 x1 x2 mx mx _ HM5.out (show IsMsg _ (.agg #[.int .i64 x1, .int .i64 x2, .int .i64 x3, .int .i64 x4, .slice sa sn sc]) x1 x2 mx from ⟨_, by rw [HRX.out.1, HRX.out.2], HQI.out.below HBW3.out⟩))
              rw [sameG_self] at HSM
              have HMF := hide (show MInv w _ B C n cl (.slice ca qn' cc) t from ⟨P1, g1, HBX3.out, by rw [HLN.out]; exact HLC.out, HP1.out, fun _ => HG.out, HBW3.out, HQT.out⟩)
              go_wp2_with fail
              refine HSM.out.mono ?_
              rintro e w5 ⟨rfl, hb5⟩
              have HM6 := hide (HMF.out.below hb5)
              clear hb5 HSM
              have HER := hide (error_same (k := 0) (n := 0) rfl w5 (HH.out.below HM6.out.bel))
              rw [err_eq rfl] at HER
              go_wp2_with fail
              refine HER.out.mono ?_
              rintro e w6 ⟨rfl, hb6⟩
              have HM7 := hide (HM6.out.below hb6)
              clear hb6 HER
              go_wp2
              go_meet
              exact ⟨cl, t, rfl, rfl, HM7.out⟩
          · have n2 : (kd == 2) = false := by simpa using c2
            by_cases c3 : kd = 3
            · have n3 : (kd == 3) = true := by simpa using c3
              clear c1 c2 c3 d0 d1 d2 d3 d4 d5
              obtain ⟨P1, g1, hbx, hli, hp1, hg1, hb1, hq1⟩ := HM1.out
              have HX := hide (qclose_any P1 B C n cl (msQ qs) W1 hbx)
              have HTU := hide (fun (W : World) (P' : Nat → Prop) (h1 : BoxIs W P' B C n true (msQ qs)) (h2 : ∀ b, P' b → P1 b ∨ W1.heap.size ≤ b) (h3 : Kept (fun b => b = B ∨ b = C) W1 W) => MInv.turn hbx hli hp1 hg1 hb1 hq1 h1 h2 h3)
              clear hbx hli hp1 hg1 hb1 hq1
              go_wp2_with fail
              refine HX.out.mono ?_
              rintro e w3 ⟨rfl, hbx3, hk3⟩
              have HM3 := hide (HTU.out w3 P1 hbx3 (fun _ e => .inl e) hk3)
              clear hbx3 hk3 HX HTU
              go_wp2
              go_meet
              exact ⟨true, qs, rfl, rfl, HM3.out⟩
            · have n3 : (kd == 3) = false := by simpa using c3
              clear c1 c2 c3
              go_wp2
              go_meet
              exact ⟨cl, qs, rfl, rfl, HM1.out⟩
      case rest =>
        obtain ⟨cl2, qs2, rfl, rfl, hmi2⟩ := hcut
        have HM2 := hide hmi2
        obtain ⟨la2, lk2, hle2⟩ := hmi2.shape
        obtain ⟨qn2, hqn2⟩ : ∃ x, qs2.length = x := ⟨_, rfl⟩
        have hq162 : qn2 ≤ 16 := by rw [← hqn2]; exact Nat.le_trans hmi2.le hn16
        rw [hqn2] at hle2
        have hle3 := hle2
        subst hle3
        obtain ⟨P2, g2', hbx2, _⟩ := hmi2
        have HX := hide (qlen_any P2 B C n cl2 (msQ qs2) _ hbx2)
        rw [msQ_len, hqn2] at HX
        clear hbx2 hqn2 hle2
        go_wp2_with fail
        refine HX.out.mono ?_
        rintro e uu ⟨rfl, huu⟩
        obtain rfl := huu.symm
        clear huu HX
        go_wp2
        go_roundw
        case rel => exact ⟨k + 1, _, cl2, qs2, by have := HXI.out; omega, by have := HXI.out; omega, rfl, rfl, HM2.out⟩
        case measure => have := HXI.out; simp [intOf]; omega
    · go_wp2
      go_ret
      exact ⟨rfl, HMI.out.bel⟩
end Go.Proofs.YtgedldbkghkahahDoor
