/- The walk of the law PlanSwaps: what can be done still can, when a Backward goes ahead of a Forward of another part at the last stage. Written by tools/gen_wpswaps.py. -/
import Derived.Test.YtgkoelmmcmmicagWPDone
import Derived.Test.YtgkoelmmcmmicagPick
import Derived.OrdersHeld
import Derived.BigQuiet
namespace Go.Proofs.Ytgkoelmmcmmicag
open Go.RowKit
theorem turnL_full (M : Nat) : ∀ i, (turnL M M i).length = i
  | 0 => rfl
  | i + 1 => by
    unfold turnL
    rw [if_neg (by omega), List.append_nil, List.length_append, turnL_full M i]; rfl
theorem stageX_len (S M s : Nat) : (stageX S M true s).length = 2 * M := by
  unfold stageX
  rw [show firstN S M true s = M by unfold firstN; rw [if_pos (.inl rfl)], List.length_append, fwdL_len, turnL_full]; omega
theorem planX_len (S M : Nat) (wave : Bool) : (planX S M wave).length = S := by simp [planX]
theorem planX_at {S M : Nat} {wave : Bool} {s : Nat} (h : s < S) : (planX S M wave)[s]? = some (stageX S M wave s) := by simp [planX, h]
theorem cell_off {W : World} {g p q : Nat} {x v : Value} (hne : p ≠ q) (h : W.cell? ⟨g, q, none⟩ = some x) : (W.setCell ⟨g, p, none⟩ v).cell? ⟨g, q, none⟩ = some x :=
  (World.cell?_setCell_other (h := fun e => hne (congrArg Addr.off e)) ..).trans h
theorem cell_at {W : World} {g p : Nat} {x v : Value} (h : W.cell? ⟨g, p, none⟩ = some x) : (W.setCell ⟨g, p, none⟩ v).cell? ⟨g, p, none⟩ = some v := World.cell?_setCell_same (h := h) ..
theorem cell_far {W : World} {g p : Nat} {a : Addr} {x v : Value} (hne : a.block ≠ g) (h : W.cell? a = some x) : (W.setCell ⟨g, p, none⟩ v).cell? a = some x :=
  (World.cell?_setCell_other (h := fun e => hne (congrArg Addr.block e).symm) ..).trans h
/-- Two acts that change about. -/
def swW (W : World) (g k : Nat) (a b : Int × Int) : World := (((W.setCell ⟨g, (k + 1) * 2, none⟩ (.int .i64 b.1)).setCell ⟨g, (k + 1) * 2 + 1, none⟩ (.int .i64 b.2)).setCell ⟨g, k * 2, none⟩ (.int .i64 a.1)).setCell ⟨g, k * 2 + 1, none⟩ (.int .i64 a.2)
theorem swW_far {W : World} {g k : Nat} {a b : Int × Int} {p : Addr} {x : Value} (hne : p.block ≠ g) (h : W.cell? p = some x) : (swW W g k a b).cell? p = some x := cell_far hne (cell_far hne (cell_far hne (cell_far hne h)))
theorem swW_acts {W : World} {g n lc k : Nat} {l : List (Int × Int)} {a b : Int × Int} (h : IsActs W (.slice (some ⟨g, 0, none⟩) n lc) l) (ha : l[k + 1]? = some a) (hb : l[k]? = some b) : IsActs (swW W g k a b) (.slice (some ⟨g, 0, none⟩) n lc) ((l.set (k + 1) b).set k a) := by
  obtain ⟨q, cap, h1, h2, h3, h4⟩ := h
  have e1 := (Value.slice.inj h1).1
  have hk1 := (List.getElem?_eq_some_iff.1 ha).1
  rcases h4 with h4 | ⟨b', off, e2, hc⟩
  · rw [h4] at ha; simp at ha
  · rw [e2] at e1
    obtain ⟨rfl, rfl⟩ : g = b' ∧ 0 = off := by have := Option.some.inj e1; exact ⟨congrArg Addr.block this, congrArg Addr.off this⟩
    refine ⟨q, cap, by rw [List.length_set, List.length_set]; exact h1, by rw [List.length_set, List.length_set]; exact h2, h3, .inr ⟨g, 0, e2, fun i x hx => ?_⟩⟩
    obtain ⟨a1, a2⟩ := hc (k + 1) a ha
    obtain ⟨b1, b2⟩ := hc k b hb
    rw [Nat.zero_add] at a1 a2 b1 b2 ⊢
    by_cases c1 : i = k
    · subst c1
      rw [List.getElem?_set_self (by rw [List.length_set]; omega)] at hx
      obtain rfl := Option.some.inj hx
      exact ⟨cell_off (by omega) (cell_at (cell_off (by omega) (cell_off (by omega) b1))), cell_at (cell_off (by omega) (cell_off (by omega) (cell_off (by omega) b2)))⟩
    · rw [List.getElem?_set_ne (fun e => c1 e.symm)] at hx
      by_cases c2 : i = k + 1
      · subst c2
        rw [List.getElem?_set_self hk1] at hx
        obtain rfl := Option.some.inj hx
        exact ⟨cell_off (by omega) (cell_off (by omega) (cell_off (by omega) (cell_at a1))), cell_off (by omega) (cell_off (by omega) (cell_at (cell_off (by omega) a2)))⟩
      · rw [List.getElem?_set_ne (fun e => c2 e.symm)] at hx
        obtain ⟨d1, d2⟩ := hc i x hx
        rw [Nat.zero_add] at d1 d2
        exact ⟨cell_off (by omega) (cell_off (by omega) (cell_off (by omega) (cell_off (by omega) d1))), cell_off (by omega) (cell_off (by omega) (cell_off (by omega) (cell_off (by omega) d2)))⟩
theorem IsActs.far {W W' : World} {g : Nat} {z : Value} {l : List (Int × Int)} (h : IsActs W z l) (ho : OffB z l (some g)) (hk : ∀ (p : Addr) x, p.block ≠ g → W.cell? p = some x → W'.cell? p = some x) : IsActs W' z l := by
  obtain ⟨q, cap, h1, h2, h3, h4⟩ := h
  refine ⟨q, cap, h1, h2, h3, ?_⟩
  rcases h4 with h4 | ⟨b, off, rfl, hc⟩
  · exact .inl h4
  · rcases ho with ho | ho
    · exact .inl ho
    · have hne : b ≠ g := fun e => ho ⟨b, off, none⟩ _ _ h1 (by rw [← e])
      exact .inr ⟨b, off, rfl, fun i x hx => ⟨hk _ _ hne (hc i x hx).1, hk _ _ hne (hc i x hx).2⟩⟩
theorem swW_below {w W : World} {g k : Nat} {a b : Int × Int} (h : Below w.heap.size w W) (hg : w.heap.size ≤ g) : Below w.heap.size w (swW W g k a b) := (((h.setCell hg _).setCell hg _).setCell hg _).setCell hg _
theorem swP_of {S M k : Nat} {a b : Int × Int} (hS : 1 ≤ S) (ha : (stageX S M true (S - 1))[k + 1]? = some a) (hb : (stageX S M true (S - 1))[k]? = some b) : swP (planX S M true) (k + 1) = (planX S M true).set (S - 1) (((stageX S M true (S - 1)).set (k + 1) b).set k a) := by
  have e : lastA (planX S M true) = stageX S M true (S - 1) := by unfold lastA; rw [planX_len]; exact stA_at (planX_at (by omega))
  unfold swP
  rw [e, planX_len]
  unfold swL
  rw [show k + 1 - 1 = k by omega, ha, hb]
theorem swC_of {S M k : Nat} {a b : Int × Int} (hS : 1 ≤ S) (ha : (stageX S M true (S - 1))[k + 1]? = some a) (hb : (stageX S M true (S - 1))[k]? = some b) (h1 : a.1 = 2) (h2 : b.1 = 1) (h3 : a.2 ≠ b.2) : swC (lastA (planX S M true)) (k + 1) = true := by
  have e : lastA (planX S M true) = stageX S M true (S - 1) := by unfold lastA; rw [planX_len]; exact stA_at (planX_at (by omega))
  rw [e]
  unfold swC
  rw [show k + 1 - 1 = k by omega, ha, hb]
  simp [h1, h2, h3]
/-- The plan in which two acts of the last stage have changed about. -/
theorem swW_plan {W : World} {pb cap g lc k S M : Nat} {a b : Int × Int} (hS : 1 ≤ S) (hc1 : S ≤ cap) (hc2 : cap ≤ maxLen) (hne : pb ≠ g) (hcell : W.cell? ⟨pb, S - 1, none⟩ = some (.slice (some ⟨g, 0, none⟩) (2 * M) lc)) (hact : IsActs W (.slice (some ⟨g, 0, none⟩) (2 * M) lc) (stageX S M true (S - 1)))
    (hoth : ∀ (i : Nat) (l' : List (Int × Int)), i + 1 < S → (planX S M true)[i]? = some l' → ∃ s, W.cell? ⟨pb, i, none⟩ = some s ∧ IsActs W s l' ∧ OffB s l' (some g)) (ha : (stageX S M true (S - 1))[k + 1]? = some a) (hb : (stageX S M true (S - 1))[k]? = some b) : IsPlan (swW W g k a b) (.slice (some ⟨pb, 0, none⟩) S cap) (swP (planX S M true) (k + 1)) := by
  rw [swP_of hS ha hb]
  refine ⟨some ⟨pb, 0, none⟩, cap, by rw [List.length_set, planX_len], by rw [List.length_set, planX_len]; exact hc1, hc2, .inr ⟨pb, 0, rfl, fun i l hl => ?_⟩⟩
  rw [Nat.zero_add]
  by_cases c : i = S - 1
  · subst c
    rw [List.getElem?_set_self (by rw [planX_len]; omega)] at hl
    obtain rfl := Option.some.inj hl
    exact ⟨_, swW_far hne hcell, swW_acts hact ha hb⟩
  · rw [List.getElem?_set_ne (fun e => c e.symm)] at hl
    have hi : i < S := by have := (List.getElem?_eq_some_iff.1 hl).1; rw [planX_len] at this; exact this
    obtain ⟨z, z1, z2, z3⟩ := hoth i l (by omega) hl
    exact ⟨z, swW_far hne z1, z2.far z3 (fun p x hp hx => swW_far hp hx)⟩
set_option maxHeartbeats 32000000 in
set_option maxRecDepth 100000 in
theorem swaps_walk (S M a : Int) (w : World) (ha0 : -9223372036854775808 ≤ a) (ha1 : a ≤ 9223372036854775807) : Calls Try.prog 4 #[.int .i64 S, .int .i64 M, .int .i64 a] w fun e w' => e = .returned (.bool true) ∧ Below w.heap.size w w' := by
  have HF := hide (pfact_any w)
  by_cases c : makeE S M = 0
  rotate_left 1
  · obtain ⟨E, hE⟩ : ∃ E, makeE S M = E := ⟨_, rfl⟩
    have HX := hide (fun u => pwave_any S M u)
    unfold Built at HX
    rw [hE, err_ne (by rw [← hE]; exact c)] at HX
    clear c hE
    go_enter Try.func4, Try.ntmps4
    go_wp2_with (first | (go_at_call 5; refine HF.out.mono ?_; rintro e u1 ⟨rfl, hb1⟩) | (go_at_call 6; refine (HX.out _).mono ?_; rintro e u2 ⟨s1, rfl, _, _, hb2⟩))
    go_ret
    exact ⟨rfl, below_go hb1 hb2⟩
  obtain ⟨b1, b2, b3, b4⟩ := makeE_in c
  obtain ⟨s, hs⟩ : ∃ s : Nat, S.toNat = s := ⟨_, rfl⟩
  obtain ⟨m, hm⟩ : ∃ m : Nat, M.toNat = m := ⟨_, rfl⟩
  have HX := hide (fun u => pwave_any S M u)
  unfold Built at HX
  rw [c, err_eq rfl, show makeX S M true = planX s m true by unfold makeX; rw [if_neg (by omega), hs, hm]] at HX
  have HMM := hide (show M = (m : Int) by omega)
  have hs1 : 1 ≤ s := by omega
  have hs6 : s ≤ 6 := by omega
  have hm1 : 1 ≤ m := by omega
  have hm12 : m ≤ 12 := by omega
  have HPK := hide (fun W => pick_any a (2 * m - 1 : Int) W ha0 ha1 (by omega) (by omega))
  clear c hs hm b1 b2 b3 b4 ha0 ha1
  go_enter Try.func4, Try.ntmps4
  go_wp2_with fail
  refine HF.out.mono ?_
  rintro e u1 ⟨rfl, hb1⟩
  have C0 := hide hb1
  clear hb1 HF
  go_wp2_with fail
  refine (HX.out u1).mono ?_
  rintro e u2 ⟨v, rfl, hpl, hlast, hb2⟩
  have HLO := hide C0.out.size
  replace C0 := hide (below_go C0.out hb2)
  clear hb2 HX
  obtain ⟨pb, cap, g, lc, base, l, hv, hc1, hc2, hl, hcell, hne, hlo, hown, hoth⟩ := hlast (by first | rfl | trivial)
  rw [planX_len] at hv hc1 hl hcell hoth
  rw [planX_at (by omega)] at hl
  obtain rfl := Option.some.inj hl
  rw [stageX_len] at hcell hown
  obtain ⟨l, hll⟩ : ∃ l, stageX s m true (s - 1) = l := ⟨_, rfl⟩
  rw [hll] at hown
  subst hv
  obtain ⟨LN, hLN⟩ : ∃ LN, 2 * m = LN := ⟨_, rfl⟩
  rw [hLN] at hcell hown
  have hlen : l.length = LN := by rw [← hll, ← hLN]; exact stageX_len _ _ _
  have hpk := HPK.out u2
  rw [show (2 * (m : Int) - 1) = (LN : Int) - 1 by omega] at hpk
  have HPK2 := hide hpk
  have hci : u2.cell? ⟨pb, ((s : Int) - 1).toNat, none⟩ = some (.slice (some ⟨g, 0, none⟩) LN lc) := by rw [show ((s : Int) - 1).toNat = s - 1 by omega]; exact hcell
  have HGL := hide (Nat.le_trans HLO.out hlo)
  have HPL := hide hpl
  have HOK := hide (plan_ok (s := s) (m := m) hs1 hs6 hm1 hm12 true).1
  rw [← HMM.out] at HOK
  have HOWN := hide hown
  have HOTH := hide hoth
  have HCI := hide hcell
  have HNE := hide hne
  have HCAP := hide (And.intro hc1 hc2)
  have HLL := hide hll
  have HLN := hide (And.intro hLN hlen)
  have hsi : (1 : Int) ≤ (s : Int) := by omega
  have hLN24 : LN ≤ 24 := by omega
  clear hpk hown hoth hne hc1 hc2 hll hlen hLN hlast HPK hpl hlo
  go_upto_region 8 with fail
  go_cut [11] from 29 to 34 (fun kv wx => ∃ (k : Nat) (xk : Int), kv = .int .i64 xk ∧ xk = (k : Int) + 1 ∧ k + 1 < LN ∧ wx = u2)
  case first =>
    go_wp2_with (go_at_call 9; refine HPK2.out.mono ?_; rintro e w3 ⟨k, rfl, hk, rfl⟩)
    go_meet
    exact ⟨k, _, rfl, by omega, by omega, by first | rfl | trivial⟩
  case rest =>
    obtain ⟨k, xk, rfl, hxk, hk, hwc⟩ := hcut
    obtain ⟨V, hV⟩ : ∃ x, x = u2 := ⟨_, rfl⟩
    subst hwc
    clear hV
    have hx0 : 1 ≤ xk := by omega
    have hx1 : xk < (LN : Int) := by omega
    have hx24 : xk ≤ 24 := by omega
    have ek : xk.toNat = k + 1 := by omega
    obtain ⟨x, hx⟩ := act_at (l := l) (i := k + 1) (by have := HLN.out.2; omega)
    obtain ⟨y, hy⟩ := act_at (l := l) (i := k) (by have := HLN.out.2; omega)
    obtain ⟨ra, rc, hre, r2, r3, r4⟩ := HOWN.out.isActs
    have hra := (Value.slice.inj hre).1
    subst hra
    obtain ⟨g', off, hga, hcl⟩ := r4.resolve_left (fun e => by rw [e] at hx; simp at hx)
    obtain ⟨rfl, rfl⟩ : g = g' ∧ 0 = off := by have := Option.some.inj hga; exact ⟨congrArg Addr.block this, congrArg Addr.off this⟩
    obtain ⟨c1, c2⟩ := hcl (k + 1) x hx
    obtain ⟨c3, c4⟩ := hcl k y hy
    have HFZ := hide (show ∀ q, wc.frozen? ⟨g, q, none⟩ = false by
      intro q
      obtain ⟨_, o2⟩ := HOWN.out
      rcases o2 with ⟨e, _⟩ | ⟨g2, cap2, cur, e, _, hg, _⟩
      · cases e
      · have : g = g2 := by have := (Value.slice.inj e).1; exact congrArg Addr.block (Option.some.inj this)
        subst this
        exact Joins.unfrozen_of_block hg q)
    obtain ⟨ak, am⟩ := x
    obtain ⟨bk, bm⟩ := y
    dsimp only at c1 c2 c3 c4
    rw [Nat.zero_add, show (k + 1) * 2 = xk.toNat * 2 by rw [ek]] at c1 c2
    rw [Nat.zero_add, show k * 2 = (xk.toNat - 1) * 2 by rw [ek]; omega] at c3 c4
    have HXY := hide (And.intro hx hy)
    have HEK := hide (And.intro ek hxk)
    have HK := hide hk
    clear hre r2 r3 r4 hga hcl hx hy ek hxk hk
    have HXC := hide (show ∀ q, Calls Try.prog 10 #[.slice (some ⟨pb, 0, none⟩) s cap, .int .i64 M] (wc.drewN q) (fun e w' => e = .returned .nilIface ∧ Below (wc.drewN q).heap.size (wc.drewN q) w') from fun q => by
      have := pcheck_any _ _ M (wc.drewN q) (HPL.out.below (below_drewN _ q))
      rw [HOK.out, err_eq rfl] at this
      exact this)
    by_cases e1 : ak = 2
    rotate_left 1
    · have HNA := hide e1
      clear e1
      go_wp2
      have n1 : (ak == 2) = false := by simpa using HNA.out
      go_quiet (fail)
      go_wp2_with fail
      refine (HXC.out _).mono ?_
      rintro e w9 ⟨rfl, hb9⟩
      have HB9 := hide (below_go C0.out (below_go (below_drewN _ _) hb9))
      clear hb9
      go_wp2
      go_ret
      exact ⟨rfl, HB9.out⟩
    by_cases e2 : bk = 1
    rotate_left 1
    · have HNA := hide (And.intro e1 e2)
      clear e1 e2
      go_wp2
      have n1 : (ak == 2) = true := by simpa using HNA.out.1
      have n2 : (bk == 1) = false := by simpa using HNA.out.2
      go_quiet (fail)
      go_wp2_with fail
      refine (HXC.out _).mono ?_
      rintro e w9 ⟨rfl, hb9⟩
      have HB9 := hide (below_go C0.out (below_go (below_drewN _ _) hb9))
      clear hb9
      go_wp2
      go_ret
      exact ⟨rfl, HB9.out⟩
    by_cases e3 : am = bm
    · have HNA := hide (And.intro e1 (And.intro e2 e3))
      clear e1 e2 e3
      go_wp2
      have n1 : (ak == 2) = true := by simpa using HNA.out.1
      have n2 : (bk == 1) = true := by simpa using HNA.out.2.1
      have n3 : (am != bm) = false := by simp [HNA.out.2.2]
      go_quiet (fail)
      go_wp2_with fail
      refine (HXC.out _).mono ?_
      rintro e w9 ⟨rfl, hb9⟩
      have HB9 := hide (below_go C0.out (below_go (below_drewN _ _) hb9))
      clear hb9
      go_wp2
      go_ret
      exact ⟨rfl, HB9.out⟩
    · have HNA := hide (And.intro e1 (And.intro e2 e3))
      clear e1 e2 e3
      go_wp2
      have n1 : (ak == 2) = true := by simpa using HNA.out.1
      have n2 : (bk == 1) = true := by simpa using HNA.out.2.1
      have n3 : (am != bm) = true := by simpa using HNA.out.2.2
      go_quiet (fail)
      go_wp2
      refine wp_region_held_drew (S := fun _ => True) (by kernel_rfl) trivial (fun hHeld => ?_)
      obtain ⟨W0, hW0⟩ : ∃ x, x = (wc.drewN nq).drew := ⟨_, rfl⟩
      have d1 : W0.cell? ⟨g, xk.toNat * 2, none⟩ = some (.int .i64 ak) := by rw [hW0]; exact c1
      have d2 : W0.cell? ⟨g, xk.toNat * 2 + 1, none⟩ = some (.int .i64 am) := by rw [hW0]; exact c2
      have d3 : W0.cell? ⟨g, (xk.toNat - 1) * 2, none⟩ = some (.int .i64 bk) := by rw [hW0]; exact c3
      have d4 : W0.cell? ⟨g, (xk.toNat - 1) * 2 + 1, none⟩ = some (.int .i64 bm) := by rw [hW0]; exact c4
      have f1 : W0.frozen? ⟨g, xk.toNat * 2, none⟩ = false := by rw [hW0]; exact HFZ.out _
      have f2 : W0.frozen? ⟨g, xk.toNat * 2 + 1, none⟩ = false := by rw [hW0]; exact HFZ.out _
      have f3 : W0.frozen? ⟨g, (xk.toNat - 1) * 2, none⟩ = false := by rw [hW0]; exact HFZ.out _
      have f4 : W0.frozen? ⟨g, (xk.toNat - 1) * 2 + 1, none⟩ = false := by rw [hW0]; exact HFZ.out _
      have HBW := hide (show Below wc.heap.size wc W0 by rw [hW0]; exact below_dr (below_drewN _ _))
      have SWA := hide (show ∀ W1, W1 = (W0.setCell ⟨g, xk.toNat * 2, none⟩ (.int .i64 bk)).setCell ⟨g, xk.toNat * 2 + 1, none⟩ (.int .i64 bm) → W1.cell? ⟨g, (xk.toNat - 1) * 2, none⟩ = some (.int .i64 bk) ∧ W1.cell? ⟨g, (xk.toNat - 1) * 2 + 1, none⟩ = some (.int .i64 bm) ∧ W1.frozen? ⟨g, (xk.toNat - 1) * 2, none⟩ = false ∧ W1.frozen? ⟨g, (xk.toNat - 1) * 2 + 1, none⟩ = false by
        intro W1 h1
        have := HEK.out.1
        subst h1
        exact ⟨cell_off (by omega) (cell_off (by omega) d3), cell_off (by omega) (cell_off (by omega) d4), by rw [World.frozen?_setCell, World.frozen?_setCell]; exact f3, by rw [World.frozen?_setCell, World.frozen?_setCell]; exact f4⟩)
      have SWB := hide (show ∀ W2, W2 = (((W0.setCell ⟨g, xk.toNat * 2, none⟩ (.int .i64 bk)).setCell ⟨g, xk.toNat * 2 + 1, none⟩ (.int .i64 bm)).setCell ⟨g, (xk.toNat - 1) * 2, none⟩ (.int .i64 ak)).setCell ⟨g, (xk.toNat - 1) * 2 + 1, none⟩ (.int .i64 am) → IsPlan W2 (.slice (some ⟨pb, 0, none⟩) s cap) (swP (planX s m true) (k + 1)) ∧ Below w.heap.size w W2 by
        intro W2 h2
        rw [HEK.out.1, show k + 1 - 1 = k by omega] at h2
        have e : W2 = swW W0 g k (ak, am) (bk, bm) := h2
        subst e
        have hx := HXY.out.1
        have hy := HXY.out.2
        have hown := HOWN.out.isActs
        rw [← HLL.out] at hx hy hown
        rw [← HLN.out.1] at hown
        refine ⟨swW_plan hs1 HCAP.out.1 HCAP.out.2 HNE.out (by rw [HLN.out.1]; exact cell_bel HBW.out HCI.out) (hown.below HBW.out) (fun i l' hi hl' => ?_) hx hy, swW_below (below_go C0.out HBW.out) HGL.out⟩
        obtain ⟨z, z1, z2, z3⟩ := HOTH.out i l' hi hl'
        exact ⟨z, cell_bel HBW.out z1, z2.below HBW.out, z3⟩)
      have HSW := hide (show planE (swP (planX s m true) (k + 1)) M = 0 by
        have hx := HXY.out.1
        have hy := HXY.out.2
        rw [← HLL.out] at hx hy
        rw [HMM.out]
        exact swap_ok hs1 hs6 hm1 hm12 (by omega) (by have := HK.out; have := HLN.out.1; omega) (swC_of hs1 hx hy HNA.out.1 HNA.out.2.1 HNA.out.2.2))
      rw [← hW0]
      clear hW0 c1 c2 c3 c4 n1 n2 n3
      have hw : IntKind.i64.wrap (xk - 1) = xk - 1 := wrap_in (by omega) (by omega)
      have hw0 : 0 ≤ xk - 1 := by omega
      have hw1 : xk - 1 < (LN : Int) := by omega
      have hw2 : 0 ≤ xk := by omega
      refine wpAnyH_take (i := 0) (oi := { dst := some 64, op := .move (.tmp 10), type := 31, pos := "plan.go:77", after := #[], guard := none }) (v := ?vp0) rfl (by kernel_rfl) (by kernel_rfl) (by kernel_rfl) (fun _ _ _ h => h) (Or.inl ⟨by rfl, ?hyp0⟩) (by assumption) ?restp0
      case hyp0 => (intro w hSw; (try dsimp only at hSw); go_simp; (try with_reducible rfl))
      try simp only [Act.put, List.setIfInBounds_toArray, List.set_cons_zero, List.set_cons_succ]
      refine wpAnyH_take (i := 1) (oi := { dst := some 65, op := .move (.tmp 11), type := 3, pos := "plan.go:77", after := #[], guard := none }) (v := ?vp1) rfl (by kernel_rfl) (by kernel_rfl) (by kernel_rfl) (fun _ _ _ h => h) (Or.inl ⟨by rfl, ?hyp1⟩) (by assumption) ?restp1
      case hyp1 => (intro w hSw; (try dsimp only at hSw); go_simp; (try with_reducible rfl))
      try simp only [Act.put, List.setIfInBounds_toArray, List.set_cons_zero, List.set_cons_succ]
      refine wpAnyH_take (i := 2) (oi := { dst := some 66, op := .move (.tmp 10), type := 31, pos := "plan.go:77", after := #[{ on := 15, ground := .gcOnly .lateStores }], guard := none }) (v := ?vp2) rfl (by kernel_rfl) (by kernel_rfl) (by kernel_rfl) (fun _ _ _ h => h) (Or.inl ⟨by rfl, ?hyp2⟩) (by assumption) ?restp2
      case hyp2 => (intro w hSw; (try dsimp only at hSw); go_simp; (try with_reducible rfl))
      try simp only [Act.put, List.setIfInBounds_toArray, List.set_cons_zero, List.set_cons_succ]
      refine wpAnyH_take (i := 3) (oi := { dst := some 67, op := .move (.tmp 11), type := 3, pos := "plan.go:77", after := #[{ on := 15, ground := .gcOnly .lateStores }], guard := none }) (v := ?vp3) rfl (by kernel_rfl) (by kernel_rfl) (by kernel_rfl) (fun _ _ _ h => h) (Or.inl ⟨by rfl, ?hyp3⟩) (by assumption) ?restp3
      case hyp3 => (intro w hSw; (try dsimp only at hSw); go_simp; (try with_reducible rfl))
      try simp only [Act.put, List.setIfInBounds_toArray, List.set_cons_zero, List.set_cons_succ]
      refine wpAnyH_take (i := 4) (oi := { dst := some 68, op := .binOp .sub 3 (.tmp 67) (.const (.int .i64 1)) 3, type := 3, pos := "plan.go:77", after := #[{ on := 3, ground := .data }, { on := 15, ground := .gcOnly .lateStores }], guard := none }) (v := ?vp4) rfl (by kernel_rfl) (by kernel_rfl) (by kernel_rfl) (fun _ _ _ h => h) (Or.inl ⟨by rfl, ?hyp4⟩) (by assumption) ?restp4
      case hyp4 => (intro w hSw; (try dsimp only at hSw); go_simp; (try with_reducible rfl))
      try simp only [Act.put, List.setIfInBounds_toArray, List.set_cons_zero, List.set_cons_succ]
      refine wpAnyH_take (i := 5) (oi := { dst := some 69, op := .move (.tmp 10), type := 31, pos := "plan.go:77", after := #[], guard := none }) (v := ?vp5) rfl (by kernel_rfl) (by kernel_rfl) (by kernel_rfl) (fun _ _ _ h => h) (Or.inl ⟨by rfl, ?hyp5⟩) (by assumption) ?restp5
      case hyp5 => (intro w hSw; (try dsimp only at hSw); go_simp; (try with_reducible rfl))
      try simp only [Act.put, List.setIfInBounds_toArray, List.set_cons_zero, List.set_cons_succ]
      refine wpAnyH_take (i := 6) (oi := { dst := some 70, op := .move (.tmp 11), type := 3, pos := "plan.go:77", after := #[], guard := none }) (v := ?vp6) rfl (by kernel_rfl) (by kernel_rfl) (by kernel_rfl) (fun _ _ _ h => h) (Or.inl ⟨by rfl, ?hyp6⟩) (by assumption) ?restp6
      case hyp6 => (intro w hSw; (try dsimp only at hSw); go_simp; (try with_reducible rfl))
      try simp only [Act.put, List.setIfInBounds_toArray, List.set_cons_zero, List.set_cons_succ]
      refine wpAnyH_take (i := 7) (oi := { dst := some 71, op := .binOp .sub 3 (.tmp 70) (.const (.int .i64 1)) 3, type := 3, pos := "plan.go:77", after := #[{ on := 6, ground := .data }], guard := none }) (v := ?vp7) rfl (by kernel_rfl) (by kernel_rfl) (by kernel_rfl) (fun _ _ _ h => h) (Or.inl ⟨by rfl, ?hyp7⟩) (by assumption) ?restp7
      case hyp7 => (intro w hSw; (try dsimp only at hSw); go_simp; (try with_reducible rfl))
      try simp only [Act.put, List.setIfInBounds_toArray, List.set_cons_zero, List.set_cons_succ]
      refine wpAnyH_take (i := 8) (oi := { dst := some 72, op := .indexAddr 31 (.tmp 69) (.tmp 71), type := 0, pos := "plan.go:77", after := #[{ on := 5, ground := .data }, { on := 7, ground := .data }], guard := none }) (v := ?vp8) rfl (by kernel_rfl) (by kernel_rfl) (by kernel_rfl) (fun _ _ _ h => h) (Or.inl ⟨by rfl, ?hyp8⟩) (by assumption) ?restp8
      case hyp8 => (intro w hSw; (try dsimp only at hSw); go_simp; (try with_reducible rfl))
      try simp only [Act.put, List.setIfInBounds_toArray, List.set_cons_zero, List.set_cons_succ]
      refine wpAnyH_take (i := 10) (oi := { dst := some 74, op := .move (.tmp 10), type := 31, pos := "plan.go:77", after := #[], guard := none }) (v := ?vp10) rfl (by kernel_rfl) (by kernel_rfl) (by kernel_rfl) (fun _ _ _ h => h) (Or.inl ⟨by rfl, ?hyp10⟩) (by assumption) ?restp10
      case hyp10 => (intro w hSw; (try dsimp only at hSw); go_simp; (try with_reducible rfl))
      try simp only [Act.put, List.setIfInBounds_toArray, List.set_cons_zero, List.set_cons_succ]
      refine wpAnyH_take (i := 11) (oi := { dst := some 75, op := .move (.tmp 11), type := 3, pos := "plan.go:77", after := #[], guard := none }) (v := ?vp11) rfl (by kernel_rfl) (by kernel_rfl) (by kernel_rfl) (fun _ _ _ h => h) (Or.inl ⟨by rfl, ?hyp11⟩) (by assumption) ?restp11
      case hyp11 => (intro w hSw; (try dsimp only at hSw); go_simp; (try with_reducible rfl))
      try simp only [Act.put, List.setIfInBounds_toArray, List.set_cons_zero, List.set_cons_succ]
      refine wpAnyH_take (i := 12) (oi := { dst := some 76, op := .indexAddr 31 (.tmp 74) (.tmp 75), type := 0, pos := "plan.go:77", after := #[{ on := 10, ground := .data }, { on := 11, ground := .data }], guard := none }) (v := ?vp12) rfl (by kernel_rfl) (by kernel_rfl) (by kernel_rfl) (fun _ _ _ h => h) (Or.inl ⟨by rfl, ?hyp12⟩) (by assumption) ?restp12
      case hyp12 => (intro w hSw; (try dsimp only at hSw); go_simp; (try with_reducible rfl))
      try simp only [Act.put, List.setIfInBounds_toArray, List.set_cons_zero, List.set_cons_succ]
      refine wpAnyH_ready (rs := [9, 13]) (by kernel_rfl) (by simp) ?_
      refine AllReadyH.cons (o := { dst := some 73, op := .load 34 (.tmp 72), type := 34, pos := "plan.go:77", after := #[{ on := 8, ground := .data }], guard := none }) rfl (fun K hK => ?_) (AllReadyH.cons (o := { dst := some 77, op := .load 34 (.tmp 76), type := 34, pos := "plan.go:77", after := #[{ on := 12, ground := .data }], guard := none }) rfl (fun K hK => ?_) AllReadyH.nil)
      · go_simp
        refine hK.out _ _ ?hSa9 (fun hHelda9 => ?_)
        case hSa9 => trivial
        clear hK K
        try simp only [Act.put, List.setIfInBounds_toArray, List.set_cons_zero, List.set_cons_succ]
        refine wpAnyH_ready (rs := [13]) (by kernel_rfl) (by simp) ?_
        refine AllReadyH.cons (o := { dst := some 77, op := .load 34 (.tmp 76), type := 34, pos := "plan.go:77", after := #[{ on := 12, ground := .data }], guard := none }) rfl (fun K hK => ?_) AllReadyH.nil
        go_simp
        refine hK.out _ _ ?hSa13 (fun hHelda13 => ?_)
        case hSa13 => trivial
        clear hK K
        try simp only [Act.put, List.setIfInBounds_toArray, List.set_cons_zero, List.set_cons_succ]
        refine wpAnyH_take (i := 14) (oi := { dst := some 78, op := .indexAddr 31 (.tmp 64) (.tmp 65), type := 0, pos := "plan.go:77", after := #[{ on := 0, ground := .data }, { on := 1, ground := .data }, { on := 0, ground := .phase }, { on := 1, ground := .phase }, { on := 2, ground := .textOnly .lateStores }, { on := 3, ground := .textOnly .lateStores }, { on := 4, ground := .textOnly .lateStores }, { on := 5, ground := .phase }, { on := 6, ground := .phase }, { on := 7, ground := .phase }, { on := 8, ground := .phase }, { on := 9, ground := .phase }, { on := 10, ground := .textOnly .lateStores }, { on := 11, ground := .textOnly .lateStores }, { on := 12, ground := .textOnly .lateStoresUnsure }, { on := 13, ground := .phase }], guard := none }) (v := ?va14) rfl (by kernel_rfl) (by kernel_rfl) (by kernel_rfl) (fun _ _ _ h => h) (Or.inl ⟨by rfl, ?hya14⟩) (by assumption) ?resta14
        case hya14 => (intro w hSw; (try dsimp only at hSw); go_simp; (try with_reducible rfl))
        try simp only [Act.put, List.setIfInBounds_toArray, List.set_cons_zero, List.set_cons_succ]
        refine wpAnyH_ready (rs := [15]) (by kernel_rfl) (by simp) ?_
        refine AllReadyH.cons (o := { dst := none, op := .store 34 (.tmp 78) (.tmp 73), type := 0, pos := "plan.go:77", after := #[{ on := 14, ground := .data }, { on := 9, ground := .data }, { on := 0, ground := .phase }, { on := 1, ground := .phase }, { on := 2, ground := .textOnly .lateStores }, { on := 3, ground := .textOnly .lateStores }, { on := 4, ground := .textOnly .lateStores }, { on := 5, ground := .phase }, { on := 6, ground := .phase }, { on := 7, ground := .phase }, { on := 8, ground := .phase }, { on := 9, ground := .phase }, { on := 10, ground := .textOnly .lateStores }, { on := 11, ground := .textOnly .lateStores }, { on := 12, ground := .textOnly .lateStoresUnsure }, { on := 13, ground := .phase }], guard := none }) rfl (fun K hK => ?_) AllReadyH.nil
        go_simp
        refine hK.out _ _ ?hSa15 (fun hHelda15 => ?_)
        case hSa15 => trivial
        clear hK K
        try simp only [Act.put, List.setIfInBounds_toArray, List.set_cons_zero, List.set_cons_succ]
        obtain ⟨W1, hW1⟩ : ∃ x, x = (W0.setCell ⟨g, xk.toNat * 2, none⟩ (.int .i64 bk)).setCell ⟨g, xk.toNat * 2 + 1, none⟩ (.int .i64 bm) := ⟨_, rfl⟩
        obtain ⟨e1, e2, e3, e4⟩ := SWA.out W1 hW1
        rw [← hW1]
        have HW1 := hide hW1
        clear hW1
        refine wpAnyH_take (i := 16) (oi := { dst := some 79, op := .indexAddr 31 (.tmp 66) (.tmp 68), type := 0, pos := "plan.go:77", after := #[{ on := 2, ground := .data }, { on := 4, ground := .data }, { on := 0, ground := .phase }, { on := 1, ground := .phase }, { on := 2, ground := .phase }, { on := 3, ground := .phase }, { on := 4, ground := .phase }, { on := 5, ground := .phase }, { on := 6, ground := .phase }, { on := 7, ground := .phase }, { on := 8, ground := .phase }, { on := 9, ground := .phase }, { on := 10, ground := .phase }, { on := 11, ground := .phase }, { on := 12, ground := .phase }, { on := 13, ground := .phase }, { on := 14, ground := .phase }, { on := 15, ground := .phase }], guard := none }) (v := ?va16) rfl (by kernel_rfl) (by kernel_rfl) (by kernel_rfl) (fun _ _ _ h => h) (Or.inl ⟨by rfl, ?hya16⟩) (by assumption) ?resta16
        case hya16 => (intro w hSw; (try dsimp only at hSw); go_simp; (try with_reducible rfl))
        try simp only [Act.put, List.setIfInBounds_toArray, List.set_cons_zero, List.set_cons_succ]
        refine wpAnyH_ready (rs := [17]) (by kernel_rfl) (by simp) ?_
        refine AllReadyH.cons (o := { dst := none, op := .store 34 (.tmp 79) (.tmp 77), type := 0, pos := "plan.go:77", after := #[{ on := 16, ground := .data }, { on := 13, ground := .data }, { on := 15, ground := .chain }, { on := 0, ground := .phase }, { on := 1, ground := .phase }, { on := 2, ground := .phase }, { on := 3, ground := .phase }, { on := 4, ground := .phase }, { on := 5, ground := .phase }, { on := 6, ground := .phase }, { on := 7, ground := .phase }, { on := 8, ground := .phase }, { on := 9, ground := .phase }, { on := 10, ground := .phase }, { on := 11, ground := .phase }, { on := 12, ground := .phase }, { on := 13, ground := .phase }, { on := 14, ground := .phase }, { on := 15, ground := .phase }], guard := none }) rfl (fun K hK => ?_) AllReadyH.nil
        go_simp
        refine hK.out _ _ ?hSa17 (fun hHelda17 => ?_)
        case hSa17 => trivial
        clear hK K
        try simp only [Act.put, List.setIfInBounds_toArray, List.set_cons_zero, List.set_cons_succ]
        refine wpAnyH_done (by kernel_rfl) ?_ _
        rw [HW1.out]
        obtain ⟨W2, hW2⟩ : ∃ x, x = (((W0.setCell ⟨g, xk.toNat * 2, none⟩ (.int .i64 bk)).setCell ⟨g, xk.toNat * 2 + 1, none⟩ (.int .i64 bm)).setCell ⟨g, (xk.toNat - 1) * 2, none⟩ (.int .i64 ak)).setCell ⟨g, (xk.toNat - 1) * 2 + 1, none⟩ (.int .i64 am) := ⟨_, rfl⟩
        rw [← hW2]
        obtain ⟨hpl, hbw⟩ := SWB.out W2 hW2
        have HX := hide (pcheck_any _ _ M W2 hpl)
        rw [HSW.out, err_eq rfl] at HX
        have HB2 := hide hbw
        clear hW2 hpl hbw
        go_wp2_with fail
        refine HX.out.mono ?_
        rintro e w9 ⟨rfl, hb9⟩
        have HB9 := hide (below_go HB2.out hb9)
        clear hb9
        go_wp2
        go_ret
        exact ⟨rfl, HB9.out⟩
      · go_simp
        refine hK.out _ _ ?hSb13 (fun hHeldb13 => ?_)
        case hSb13 => trivial
        clear hK K
        try simp only [Act.put, List.setIfInBounds_toArray, List.set_cons_zero, List.set_cons_succ]
        refine wpAnyH_ready (rs := [9]) (by kernel_rfl) (by simp) ?_
        refine AllReadyH.cons (o := { dst := some 73, op := .load 34 (.tmp 72), type := 34, pos := "plan.go:77", after := #[{ on := 8, ground := .data }], guard := none }) rfl (fun K hK => ?_) AllReadyH.nil
        go_simp
        refine hK.out _ _ ?hSb9 (fun hHeldb9 => ?_)
        case hSb9 => trivial
        clear hK K
        try simp only [Act.put, List.setIfInBounds_toArray, List.set_cons_zero, List.set_cons_succ]
        refine wpAnyH_take (i := 14) (oi := { dst := some 78, op := .indexAddr 31 (.tmp 64) (.tmp 65), type := 0, pos := "plan.go:77", after := #[{ on := 0, ground := .data }, { on := 1, ground := .data }, { on := 0, ground := .phase }, { on := 1, ground := .phase }, { on := 2, ground := .textOnly .lateStores }, { on := 3, ground := .textOnly .lateStores }, { on := 4, ground := .textOnly .lateStores }, { on := 5, ground := .phase }, { on := 6, ground := .phase }, { on := 7, ground := .phase }, { on := 8, ground := .phase }, { on := 9, ground := .phase }, { on := 10, ground := .textOnly .lateStores }, { on := 11, ground := .textOnly .lateStores }, { on := 12, ground := .textOnly .lateStoresUnsure }, { on := 13, ground := .phase }], guard := none }) (v := ?vb14) rfl (by kernel_rfl) (by kernel_rfl) (by kernel_rfl) (fun _ _ _ h => h) (Or.inl ⟨by rfl, ?hyb14⟩) (by assumption) ?restb14
        case hyb14 => (intro w hSw; (try dsimp only at hSw); go_simp; (try with_reducible rfl))
        try simp only [Act.put, List.setIfInBounds_toArray, List.set_cons_zero, List.set_cons_succ]
        refine wpAnyH_ready (rs := [15]) (by kernel_rfl) (by simp) ?_
        refine AllReadyH.cons (o := { dst := none, op := .store 34 (.tmp 78) (.tmp 73), type := 0, pos := "plan.go:77", after := #[{ on := 14, ground := .data }, { on := 9, ground := .data }, { on := 0, ground := .phase }, { on := 1, ground := .phase }, { on := 2, ground := .textOnly .lateStores }, { on := 3, ground := .textOnly .lateStores }, { on := 4, ground := .textOnly .lateStores }, { on := 5, ground := .phase }, { on := 6, ground := .phase }, { on := 7, ground := .phase }, { on := 8, ground := .phase }, { on := 9, ground := .phase }, { on := 10, ground := .textOnly .lateStores }, { on := 11, ground := .textOnly .lateStores }, { on := 12, ground := .textOnly .lateStoresUnsure }, { on := 13, ground := .phase }], guard := none }) rfl (fun K hK => ?_) AllReadyH.nil
        go_simp
        refine hK.out _ _ ?hSb15 (fun hHeldb15 => ?_)
        case hSb15 => trivial
        clear hK K
        try simp only [Act.put, List.setIfInBounds_toArray, List.set_cons_zero, List.set_cons_succ]
        obtain ⟨W1, hW1⟩ : ∃ x, x = (W0.setCell ⟨g, xk.toNat * 2, none⟩ (.int .i64 bk)).setCell ⟨g, xk.toNat * 2 + 1, none⟩ (.int .i64 bm) := ⟨_, rfl⟩
        obtain ⟨e1, e2, e3, e4⟩ := SWA.out W1 hW1
        rw [← hW1]
        have HW1 := hide hW1
        clear hW1
        refine wpAnyH_take (i := 16) (oi := { dst := some 79, op := .indexAddr 31 (.tmp 66) (.tmp 68), type := 0, pos := "plan.go:77", after := #[{ on := 2, ground := .data }, { on := 4, ground := .data }, { on := 0, ground := .phase }, { on := 1, ground := .phase }, { on := 2, ground := .phase }, { on := 3, ground := .phase }, { on := 4, ground := .phase }, { on := 5, ground := .phase }, { on := 6, ground := .phase }, { on := 7, ground := .phase }, { on := 8, ground := .phase }, { on := 9, ground := .phase }, { on := 10, ground := .phase }, { on := 11, ground := .phase }, { on := 12, ground := .phase }, { on := 13, ground := .phase }, { on := 14, ground := .phase }, { on := 15, ground := .phase }], guard := none }) (v := ?vb16) rfl (by kernel_rfl) (by kernel_rfl) (by kernel_rfl) (fun _ _ _ h => h) (Or.inl ⟨by rfl, ?hyb16⟩) (by assumption) ?restb16
        case hyb16 => (intro w hSw; (try dsimp only at hSw); go_simp; (try with_reducible rfl))
        try simp only [Act.put, List.setIfInBounds_toArray, List.set_cons_zero, List.set_cons_succ]
        refine wpAnyH_ready (rs := [17]) (by kernel_rfl) (by simp) ?_
        refine AllReadyH.cons (o := { dst := none, op := .store 34 (.tmp 79) (.tmp 77), type := 0, pos := "plan.go:77", after := #[{ on := 16, ground := .data }, { on := 13, ground := .data }, { on := 15, ground := .chain }, { on := 0, ground := .phase }, { on := 1, ground := .phase }, { on := 2, ground := .phase }, { on := 3, ground := .phase }, { on := 4, ground := .phase }, { on := 5, ground := .phase }, { on := 6, ground := .phase }, { on := 7, ground := .phase }, { on := 8, ground := .phase }, { on := 9, ground := .phase }, { on := 10, ground := .phase }, { on := 11, ground := .phase }, { on := 12, ground := .phase }, { on := 13, ground := .phase }, { on := 14, ground := .phase }, { on := 15, ground := .phase }], guard := none }) rfl (fun K hK => ?_) AllReadyH.nil
        go_simp
        refine hK.out _ _ ?hSb17 (fun hHeldb17 => ?_)
        case hSb17 => trivial
        clear hK K
        try simp only [Act.put, List.setIfInBounds_toArray, List.set_cons_zero, List.set_cons_succ]
        refine wpAnyH_done (by kernel_rfl) ?_ _
        rw [HW1.out]
        obtain ⟨W2, hW2⟩ : ∃ x, x = (((W0.setCell ⟨g, xk.toNat * 2, none⟩ (.int .i64 bk)).setCell ⟨g, xk.toNat * 2 + 1, none⟩ (.int .i64 bm)).setCell ⟨g, (xk.toNat - 1) * 2, none⟩ (.int .i64 ak)).setCell ⟨g, (xk.toNat - 1) * 2 + 1, none⟩ (.int .i64 am) := ⟨_, rfl⟩
        rw [← hW2]
        obtain ⟨hpl, hbw⟩ := SWB.out W2 hW2
        have HX := hide (pcheck_any _ _ M W2 hpl)
        rw [HSW.out, err_eq rfl] at HX
        have HB2 := hide hbw
        clear hW2 hpl hbw
        go_wp2_with fail
        refine HX.out.mono ?_
        rintro e w9 ⟨rfl, hb9⟩
        have HB9 := hide (below_go HB2.out hb9)
        clear hb9
        go_wp2
        go_ret
        exact ⟨rfl, HB9.out⟩
end Go.Proofs.Ytgkoelmmcmmicag
