/- What firstWithin of package cut comes to: the first cuts within a limit; parts of a list of ints; lists of ints that grow. -/
import Derived.Test.YtlbcmebifmebgafDoorCtC3
namespace Go.Proofs.YtlbcmebifmebgafDoor
open Go.RowKit
theorem elemCt : Tryd.prog.underlying 22 = some (.slice (Tryd.prog.elem 22)) := by kernel_rfl
theorem sizeCt (w : World) : (Go.sizeOf (Tryd.prog.elem 22)).run Tryd.prog w = .ok 1 w := by kernel_rfl
theorem ct_part {w : World} {a : Option Addr} {cap : Nat} {zs : List Int} (h2 : zs.length ≤ cap) (h3 : cap ≤ maxLen) (h4 : zs = [] ∨ ∃ b off, a = some ⟨b, off, none⟩ ∧ ∀ i x, zs[i]? = some x → w.cell? ⟨b, off + i, none⟩ = some (.int .i64 x)) (l m : Nat) (hlm : l ≤ m) (hm : m ≤ zs.length) :
    IsInts w (.slice (if cap = l then a else a.map (·.add (l * 1))) (m - l) (cap - l)) ((zs.drop l).take (m - l)) := by
  have hll : ((zs.drop l).take (m - l)).length = m - l := by simp; omega
  refine ⟨_, _, by rw [hll], by rw [hll]; omega, by omega, ?_⟩
  rcases Nat.eq_zero_or_pos (m - l) with hC | hC
  · exact .inl (by apply List.eq_nil_of_length_eq_zero; omega)
  · obtain ⟨b, off, rfl, hc⟩ := h4.resolve_left (fun e => by rw [e] at hm; simp at hm; omega)
    refine .inr ⟨b, off + l, ?_, fun j x hx => ?_⟩
    · rw [if_neg (by omega)]
      show some (Addr.add _ _) = _
      rw [Addr.add_lit, Nat.mul_one]
    · have hj : j < m - l := by
        rcases Nat.lt_or_ge j (m - l) with h | h
        · exact h
        · rw [List.getElem?_eq_none (by omega)] at hx; cases hx
      rw [List.getElem?_take_of_lt hj, List.getElem?_drop] at hx
      rw [Nat.add_assoc]
      exact hc _ _ hx
theorem ct_lh {w : World} {a : Option Addr} {n cap : Nat} {zs : List Int} (h : IsInts w (.slice a n cap) zs) (l m : Nat) (lo hi : Int) (hlo : lo = (l : Int)) (hhi : hi = (m : Int)) (hlm : l ≤ m) (hm : m ≤ zs.length) :
    ∃ a' n' c', (∀ W, (Instr.slice 22 (.slice a n cap) (some (.int .i64 lo)) (some (.int .i64 hi)) none).run Tryd.prog W = .ok (.slice a' n' c') W) ∧ IsInts w (.slice a' n' c') ((zs.drop l).take (m - l)) := by
  obtain ⟨a0, cap0, e, h2, h3, h4⟩ := h
  injection e with e1 e2 e3
  subst e1 e2 e3
  have q1 : lo.toNat = l := by omega
  have q2 : hi.toNat = m := by omega
  refine ⟨_, _, _, fun W => ?_, ct_part h2 h3 h4 l m hlm hm⟩
  rw [run_slice_lh (P := Tryd.prog) (w := W) 22 a zs.length cap elemCt .i64 .i64 lo hi (by omega) (by omega) (by omega), sizeCt, q1, q2]
  rfl
theorem ct_l {w : World} {a : Option Addr} {n cap : Nat} {zs : List Int} (h : IsInts w (.slice a n cap) zs) (l : Nat) (lo : Int) (hlo : lo = (l : Int)) (hm : l ≤ zs.length) :
    ∃ a' n' c', (∀ W, (Instr.slice 22 (.slice a n cap) (some (.int .i64 lo)) none none).run Tryd.prog W = .ok (.slice a' n' c') W) ∧ IsInts w (.slice a' n' c') (zs.drop l) := by
  obtain ⟨a0, cap0, e, h2, h3, h4⟩ := h
  injection e with e1 e2 e3
  subst e1 e2 e3
  have q1 : lo.toNat = l := by omega
  have hp := ct_part h2 h3 h4 l zs.length hm (Nat.le_refl _)
  rw [List.take_of_length_le (by simp)] at hp
  refine ⟨_, _, _, fun W => ?_, hp⟩
  rw [run_slice_l (P := Tryd.prog) (w := W) 22 a zs.length cap elemCt .i64 lo (by omega) (by omega), sizeCt, q1]
  rfl
/-- A list of ints of the call's own, that grows. -/
def OwnZ (w : World) (base : Nat) (v : Value) (zs : List Int) : Prop := w.ownsRow base 3 1 v zs.length (zs.map (Value.int .i64))
theorem OwnZ.made (w : World) (n : Nat) (hn : n ≤ 1000) : OwnZ (w.alloc (.cells (zeros n) 3)) w.heap.size (.slice (some ⟨w.heap.size, 0, none⟩) 0 n) [] := World.ownsRow_made _ _ _ (Nat.le_refl _) (by unfold maxLen; omega) (zeros_size n)
theorem OwnZ.nil (w : World) (base : Nat) : OwnZ w base (.slice none 0 0) [] := World.ownsRow_nil _ _ _ _
theorem OwnZ.alloc {w : World} {base : Nat} {v : Value} {zs : List Int} (h : OwnZ w base v zs) (o : Obj) : OwnZ (w.alloc o) base v zs := World.ownsRow.alloc h o
theorem OwnZ.below {w w' : World} {base : Nat} {v : Value} {zs : List Int} (h : OwnZ w base v zs) (hb : Below w.heap.size w w') : OwnZ w' base v zs := by
  refine World.ownsRow.kept (row := none) h ⟨hb.os, hb.tape, hb.output, hb.size, fun k hk _ => hb.block k hk⟩ ?_
  cases e : v.ownBlock with
  | none => exact .inl rfl
  | some k => exact .inr (by simp)
theorem OwnZ.isInts {w : World} {base : Nat} {v : Value} {zs : List Int} (h : OwnZ w base v zs) : IsInts w v zs := by
  have hc := fun g e => World.ownsRow.cells h (g := g) e
  obtain ⟨h1, h2⟩ := h
  rcases h2 with ⟨rfl, e⟩ | ⟨g, cap, cur, rfl, _, _, h3, h4, _, _⟩
  · obtain rfl : zs = [] := List.eq_nil_of_length_eq_zero e
    exact IsInts.nil w
  · refine ⟨some ⟨g, 0, none⟩, cap, rfl, h3, h4, .inr ⟨g, 0, rfl, fun i x hx => ?_⟩⟩
    have := hc g rfl i (.int .i64 x) (by simp [hx])
    rw [Addr.add_lit] at this; exact this
theorem OwnZ.shape {w : World} {base : Nat} {v : Value} {zs : List Int} (h : OwnZ w base v zs) : ∃ a k, v = .slice a zs.length k := by
  obtain ⟨a, cap, h1, _⟩ := h.isInts; exact ⟨a, cap, h1⟩
theorem OwnZ.step {w : World} {base : Nat} {v : Value} {zs : List Int} {x : Int} (h : w.ownsRow base 3 1 v (zs.length + 1) (zs.map (Value.int .i64) ++ [Value.int .i64 x])) : OwnZ w base v (zs ++ [x]) := by
  unfold OwnZ
  rw [List.length_append, List.map_append]
  exact h
theorem one_cells (w : World) (x : Int) : ∀ (k : Nat) (u' : Value), [Value.int .i64 x][k]? = some u' → (w.alloc (.cells #[.int .i64 x] 3)).cell? ((⟨w.heap.size, 0, none⟩ : Addr).add k) = some u' := by
  intro k u' hk
  match k, hk with
  | 0, hk => simp at hk; subst hk; simp [Addr.add]
theorem one_one (x : Int) : ∀ (u' : Value), u' ∈ [Value.int .i64 x] → u'.oneCell' = true := by intro u' hu'; simp at hu'; subst hu'; rfl
def ctI (t : List Nat) : List Int := t.map (fun (e : Nat) => (e : Int))
theorem ctI_snoc (t : List Nat) (e : Nat) : ctI (t ++ [e]) = ctI t ++ [(e : Int)] := by simp [ctI]
theorem ctI_len (t : List Nat) : (ctI t).length = t.length := by simp [ctI]
open Classical in
set_option maxHeartbeats 8000000 in
set_option maxRecDepth 100000 in
theorem within_any (v : Value) (cs : List Int) (R : Nat) (r L : Int) (w : World) (hv : IsInts w v cs) (hc : ∀ c ∈ cs, 0 ≤ c ∧ c ≤ 1000000) (hl : cs.length ≤ 12) (hr : r = (R : Int)) (hR : R ≤ 6) (hx : Fx (preS cs) cs.length R 0 L) :
    Calls Tryd.prog 18 #[v, .int .i64 r, .int .i64 L] w fun e w' => ∃ s, e = .returned s ∧ ∃ t, IsInts w' s (ctI t) ∧ First (preS cs) cs.length L R 0 t ∧ Below w.heap.size w w' := by
  obtain ⟨a, n0, k, rfl⟩ := hv.shape
  have hc0 : ∀ c ∈ cs, 0 ≤ c := fun c h => (hc c h).1
  have hmk := run_mk0 r R hr (by omega)
  have HR := hide (And.intro hr hR)
  have HC := hide hc
  have HC0 := hide hc0
  have HV := hide hv
  have HX := hide hx
  obtain ⟨n, hn⟩ : ∃ n, cs.length = n := ⟨_, rfl⟩
  have HN := hide (And.intro hn hl)
  rw [hn] at HX ⊢
  have HO0 := hide (OwnZ.made w R (by omega))
  obtain ⟨e0, ei, hz0, hz1, hz2⟩ := info_parts infoInt
  have HEI := hide (And.intro ei (And.intro hz0 (And.intro hz1 hz2)))
  have hr0 : 0 ≤ r := by omega
  have hr6 : r ≤ 6 := by omega
  clear hv hc hl hr hR hx hc0 hn ei hz0 hz1 hz2
  go_enter Tryd.func18, Tryd.ntmps18
  go_wp2
  clear hmk
  go_loopw [7, 8, 9] (fun sv ev lv wr => ∃ (q x : Nat) (xx xl : Int) (ts : List Nat), q ≤ R ∧ ts.length + q = R ∧ xl = (q : Int) - 1 ∧ lv = .int .i64 xl ∧ xx = (x : Int) ∧ x ≤ n ∧ ev = .int .i64 xx ∧ OwnZ wr w.heap.size sv (ctI ts) ∧ Below w.heap.size w wr ∧ Fx (preS cs) n q x L ∧ (∀ t, First (preS cs) n L q x t → First (preS cs) n L R 0 (ts ++ t))) (fun _ _ lv _ => (intOf lv + 1).toNat)
  case atStart => exact ⟨R, 0, 0, _, [], Nat.le_refl _, by simp, by have := HR.out.1; omega, rfl, rfl, Nat.zero_le _, rfl, HO0.out, below_one _ _, HX.out, fun t ht => ht⟩
  case round =>
    obtain ⟨q, x, xx, xl, ts, hq, hts, hxl, rfl, hxx, hxn, rfl, hro, hbw, hfx, hfi⟩ := hrel
    have HRO := hide hro
    have HBW := hide hbw
    have HFX := hide hfx
    have HFI := hide hfi
    have HXL := hide hxl
    have HXX := hide hxx
    have hb1 : -1 ≤ xl := by omega
    have hb2 : xl ≤ 6 := by have := HR.out.2; omega
    have hb3 : 0 ≤ xx := by omega
    have hb4 : xx ≤ 12 := by have := HN.out; omega
    have HXN := hide hxn
    clear hro hbw hfx hfi hxl hxx hxn
    by_cases hlt : 0 ≤ xl
    · obtain ⟨p, rfl⟩ : ∃ p, q = p + 1 := ⟨q - 1, by have := HXL.out; omega⟩
      obtain ⟨f, hf1, hf2, hf3⟩ := fx_succ.1 HFX.out
      have HF := hide (And.intro hf1 (And.intro hf3.fw hf3.room))
      clear hf1 hf2 hf3
      obtain ⟨sa, sk, hse⟩ := HRO.out.shape
      subst hse
      go_wp2
      go_loopw [8] (fun ev w2 => ∃ (y : Nat) (xy : Int), x < y ∧ y ≤ n ∧ xy = (y : Int) ∧ ev = .int .i64 xy ∧ w2 = wr ∧ ∀ z, x < z → z < y → ¬ Fw (preS cs) n p z L) (fun ev _ => n - (intOf ev).toNat)
      case atStart => exact ⟨x + 1, _, by omega, by have := HF.out; omega, by have := HXX.out; omega, rfl, rfl, fun z h1 h2 => by omega⟩
      case round =>
        obtain ⟨y, xy, hy1, hy2, hxy, rfl, rfl, hno⟩ := hrel
        have HNO := hide hno
        have HXY := hide hxy
        have hb5 : 0 ≤ xy := by omega
        have hb6 : xy ≤ 12 := by have := HN.out; omega
        obtain ⟨pa, pn, pk, hsl, hpi⟩ := ct_l (HV.out.below HBW.out) y xy hxy (by have := HN.out; omega)
        have HFT := hide (fits_any _ (cs.drop y) p xl L wr hpi (fun c h => HC.out c (List.mem_of_mem_drop h)) (by have := HN.out; simp; omega) (by have := HXL.out; omega))
        have HIF := hide (fits_iff HC0.out p y L (by have := HN.out; omega))
        rw [HN.out.1] at HIF
        clear hno hxy hpi
        by_cases hfit : fitsP (cs.drop y) p L
        · have HFW := hide (HIF.out.1 hfit)
          rw [decide_eq_true hfit] at HFT
          clear hfit
          obtain ⟨hs1, hs2⟩ := first_step (preS_mono HC0.out) HFX.out HFW.out HNO.out
          have HNX := hide hs2
          have HFN := hide (show ∀ t, First (preS cs) n L p y t → First (preS cs) n L R 0 (ts ++ [y] ++ t) from fun t ht => by
            rw [List.append_assoc]
            exact HFI.out _ ⟨y, t, rfl, by omega, HFW.out, HNO.out, ht⟩)
          have HBS := hide HBW.out.size
          have HTL := hide (show (ctI ts).length ≤ 6 by rw [ctI_len]; have := HR.out.2; omega)
          clear hs1 hs2
          go_wp2_with (first | (go_at_call 23; refine HFT.out.mono ?_; rintro e w' ⟨rfl, rfl⟩) | (at_builtin; refine wpList_append_own _ rfl _ _ 22 rfl w.heap.size 3 e0 (.int .i64 0) 1 8 Tryd.underlying22 HEI.out.1 HEI.out.2.1 HEI.out.2.2.1 HEI.out.2.2.2 rfl (by decide) _ _ _ rfl (HRO.out.alloc _) ⟨w'.heap.size, 0, none⟩ 1 1 [.int .i64 xy] rfl rfl (one_cells _ _) (one_one _) ?c3 ?c4 ?c5 ?_))
          case c3 => unfold maxLen; have := HTL.out; omega
          case c4 => have := HTL.out; omega
          case c5 => have := HBS.out; simp; omega
          intro v' w' hown' hgrow _
          have HO2 := hide (show OwnZ w' w.heap.size v' (ctI (ts ++ [y])) by rw [ctI_snoc, ← HXY.out]; exact OwnZ.step hown')
          have HB2 := hide (show Below w.heap.size w w' from (bel_al HBW.out).grown hgrow (by simp; have := HBS.out; omega) (fun k hk => (World.ownsRow.lt HRO.out k hk).1))
          clear hown' hgrow
          go_wp2
          go_roundw
          case rel => exact ⟨p, y, _, _, ts ++ [y], by omega, by simp; omega, by have := HXL.out; omega, rfl, HXY.out, hy2, rfl, HO2.out, HB2.out, HNX.out, HFN.out⟩
          case measure => have := HXL.out; simp [intOf]; omega
        · have HNF := hide (fun h => hfit (HIF.out.2 h))
          rw [decide_eq_false hfit] at HFT
          clear hfit
          have hyn : y < n := by
            have := HF.out
            rcases Nat.lt_trichotomy f y with h | h | h
            · exact absurd this.2.1 (HNO.out f this.1 h)
            · subst h; exact absurd this.2.1 HNF.out
            · omega
          go_wp2_with (go_at_call 23; refine HFT.out.mono ?_; rintro e w' ⟨rfl, rfl⟩)
          go_roundw
          case rel => exact ⟨y + 1, _, by omega, by omega, by have := HXY.out; omega, rfl, (by first | rfl | trivial), fun z h1 h2 => by
            rcases Nat.lt_or_ge z y with h | h
            · exact HNO.out z h1 h
            · obtain rfl : z = y := by omega
              exact HNF.out⟩
          case measure => have := HXY.out; simp [intOf]; omega
    · obtain rfl : q = 0 := by have := HXL.out; omega
      have HI := hide HRO.out.isInts
      have HFE := hide (HFI.out [] rfl)
      rw [List.append_nil] at HFE
      go_wp2
      exact bodyPost_ret (v := u7) (by simp [results, Tryd.results18, go_sem]) rfl ⟨_, rfl, ts, HI.out, HFE.out, HBW.out⟩
end Go.Proofs.YtlbcmebifmebgafDoor
