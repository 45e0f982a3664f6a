/- What EvenOf and Plans of the document's answer come to. -/
import Derived.Test.YtgkoelmmcmmicafDoorPlR2
namespace Go.Proofs.YtgkoelmmcmmicafDoor
open Go.RowKit
/-- The Backwards of one stage go part by part. -/
def evenA : Int → List (Int × Int) → Bool
  | _, [] => true
  | last, a :: t => if a.1 = 2 ∧ a.2 < last then false else evenA (if a.1 = 2 then a.2 else last) t
def evenB (p : List (List (Int × Int))) : Bool := p.all (evenA (-1))
theorem evenA_drop {l : List (Int × Int)} {i : Nat} {a : Int × Int} (h : l[i]? = some a) (last : Int) : evenA last (l.drop i) = if a.1 = 2 ∧ a.2 < last then false else evenA (if a.1 = 2 then a.2 else last) (l.drop (i + 1)) := by
  obtain ⟨hi, rfl⟩ := List.getElem?_eq_some_iff.1 h
  rw [List.drop_eq_getElem_cons hi]
  rfl
theorem evenB_no {p : List (List (Int × Int))} {s : Nat} {l : List (Int × Int)} (h : p[s]? = some l) (he : evenA (-1) l = false) : false = evenB p := by
  rw [eq_comm]; unfold evenB; rw [List.all_eq_false]; exact ⟨l, List.mem_of_getElem? h, by simp [he]⟩
theorem evenB_yes {p : List (List (Int × Int))} (h : ∀ s l, s < p.length → p[s]? = some l → evenA (-1) l = true) : true = evenB p := by
  rw [eq_comm]; unfold evenB; rw [List.all_eq_true]; intro l hl
  obtain ⟨s, hs, rfl⟩ := List.getElem_of_mem hl
  exact h s _ hs (List.getElem?_eq_getElem hs)
set_option maxHeartbeats 16000000 in
set_option maxRecDepth 100000 in
theorem reven_any (v : Value) (p : List (List (Int × Int))) (w : World) (hv : IsPlan w v p) : Calls Tryd.prog 18 #[v] w fun e w' => e = .returned (.bool (evenB p)) ∧ Below w.heap.size w w' := by
  have hlen := hv.len
  unfold maxLen at hlen
  obtain ⟨a, cap, rfl, h2, h3, h4⟩ := hv
  obtain ⟨n, hn⟩ : ∃ n, p.length = n := ⟨_, rfl⟩
  have HN := hide hn
  have H4 := hide h4
  rw [hn] at h2 hlen ⊢
  clear hn h4
  go_enter Tryd.func18, Tryd.ntmps18
  go_wp2
  go_loopw [3] (fun sv wr => ∃ (k : Nat) (xi : Int), k ≤ n ∧ xi = (k : Int) ∧ sv = .int .i64 xi ∧ Below w.heap.size w wr ∧ ∀ j l, j < k → p[j]? = some l → evenA (-1) l = true) (fun sv _ => n - (intOf sv).toNat)
  case atStart => exact ⟨0, 0, Nat.zero_le _, rfl, rfl, Below.refl _ _, fun j l hj _ => by omega⟩
  case round =>
    obtain ⟨k, xi, hk, hxi, rfl, hb, he⟩ := hrel
    have HB := hide hb
    have HE := hide he
    have HXI := hide hxi
    have hx0 : 0 ≤ xi := by omega
    have hx1 : xi ≤ 9223372036854775807 := by omega
    clear hb he hxi
    by_cases hlt : xi < (n : Int)
    · obtain ⟨l, hl⟩ := stage_at (p := p) (i := k) (by have := HN.out; have := HXI.out; omega)
      obtain ⟨b, off, ha, hcl⟩ := H4.out.resolve_left (fun e => by rw [e] at hl; simp at hl)
      subst ha
      obtain ⟨s, hs, hi⟩ := hcl k l hl
      rw [show k = xi.toNat by have := HXI.out; omega] at hs
      have hll := hi.len
      unfold maxLen at hll
      obtain ⟨la, lc, hse, l2, l3, l4⟩ := hi
      subst hse
      obtain ⟨ln, hln⟩ : ∃ x, l.length = x := ⟨_, rfl⟩
      rw [hln] at hs hll l2
      have HS := hide hs
      have HL := hide hl
      have HL4 := hide l4
      have HLN := hide hln
      clear hs hl hcl l4 hln
      go_wp2
      go_loopw [4, 5] (fun lv iv w2 => ∃ (j : Nat) (xj last : Int), j ≤ ln ∧ xj = (j : Int) ∧ iv = .int .i64 xj ∧ lv = .int .i64 last ∧ Below w.heap.size w w2 ∧ evenA (-1) l = evenA last (l.drop j)) (fun _ iv _ => ln - (intOf iv).toNat)
      case atStart => exact ⟨0, 0, -1, Nat.zero_le _, rfl, rfl, rfl, HB.out, rfl⟩
      case round =>
        obtain ⟨j, xj, last, hj, hxj, rfl, rfl, hb2, he2⟩ := hrel
        have HB2 := hide hb2
        have HE2 := hide he2
        have HXJ := hide hxj
        have hy0 : 0 ≤ xj := by omega
        have hy1 : xj ≤ 9223372036854775807 := by omega
        have hs := cell_bel hb2 HS.out
        clear hb2 he2 hxj
        by_cases hlt2 : xj < (ln : Int)
        · obtain ⟨x, hx⟩ := act_at (l := l) (i := j) (by have := HLN.out; have := HXJ.out; omega)
          obtain ⟨b2, off2, ha, hcl2⟩ := HL4.out.resolve_left (fun e => by rw [e] at hx; simp at hx)
          subst ha
          obtain ⟨d1, d2⟩ := hcl2 j x hx
          have hdr := evenA_drop hx last
          rw [show j = xj.toNat by have := HXJ.out; omega] at d1 d2
          obtain ⟨ak, am⟩ := x
          dsimp only at d1 d2 hdr
          replace d1 := cell_bel HB2.out d1
          replace d2 := cell_bel HB2.out d2
          have HBA := hide (below_go HB2.out (below_one wr (.cells #[.int .i64 ak, .int .i64 am] 66)))
          rw [← HE2.out] at hdr
          have HDR := hide hdr
          clear hcl2 hx hdr
          by_cases e1 : ak = 2
          · have n1 : (ak == 2) = true := by simp [e1]
            by_cases e2 : am < last
            · have HA := hide (evenB_no HL.out (by rw [HDR.out, if_pos ⟨e1, e2⟩]))
              clear e1
              go_wp2
              go_ret
              exact ⟨ret_bool HA.out, HBA.out⟩
            · have HU := hide (show evenA (-1) l = evenA am (l.drop (j + 1)) by rw [HDR.out, if_neg (fun e => e2 e.2), if_pos e1])
              clear e1
              go_wp2
              go_roundw
              case rel => exact ⟨j + 1, _, _, by have := HXJ.out; omega, by have := HXJ.out; omega, rfl, rfl, HBA.out, HU.out⟩
              case measure => have := HXJ.out; simp [intOf]; omega
          · have n1 : (ak == 2) = false := by simpa using e1
            have HU := hide (show evenA (-1) l = evenA last (l.drop (j + 1)) by rw [HDR.out, if_neg (fun e => e1 e.1), if_neg e1])
            clear e1
            go_wp2
            go_roundw
            case rel => exact ⟨j + 1, _, _, by have := HXJ.out; omega, by have := HXJ.out; omega, rfl, rfl, HBA.out, HU.out⟩
            case measure => have := HXJ.out; simp [intOf]; omega
        · have HU := hide (show ∀ j l, j < k + 1 → p[j]? = some l → evenA (-1) l = true by
            intro j' l' hj' hl'
            rcases Nat.lt_or_ge j' k with h | h
            · exact HE.out j' l' h hl'
            · have e : l' = l := Option.some.inj (by rw [← hl', show j' = k by omega, HL.out])
              rw [e, HE2.out, List.drop_of_length_le (by have := HLN.out; have := HXJ.out; omega)]; rfl)
          go_wp2
          go_roundw
          case rel => exact ⟨k + 1, _, by have := HXI.out; omega, by have := HXI.out; omega, rfl, HB2.out, HU.out⟩
          case measure => have := HXI.out; simp [intOf]; omega
    · have HA := hide (evenB_yes (p := p) (fun s l hs hl => HE.out s l (by have := HN.out; have := HXI.out; omega) hl))
      go_wp2
      go_ret
      exact ⟨ret_bool HA.out, HB.out⟩
theorem plan_ne {a b : List (List (Int × Int))} {s : Nat} {x y : List (Int × Int)} (hx : a[s]? = some x) (hy : b[s]? = some y) (h : x ≠ y) : a ≠ b := fun e => by rw [e, hy] at hx; exact h (Option.some.inj hx).symm
theorem acts_ne {a b : List (Int × Int)} {s : Nat} {x y : Int × Int} (hx : a[s]? = some x) (hy : b[s]? = some y) (h : x ≠ y) : a ≠ b := fun e => by rw [e, hy] at hx; exact h (Option.some.inj hx).symm
theorem list_eq {α : Type} {a b : List α} (hl : a.length = b.length) (h : ∀ (i : Nat) x y, a[i]? = some x → b[i]? = some y → x = y) : a = b := by
  apply List.ext_getElem?
  intro i
  by_cases hi : i < a.length
  · rw [List.getElem?_eq_getElem hi, List.getElem?_eq_getElem (by omega), h i _ _ (List.getElem?_eq_getElem hi) (List.getElem?_eq_getElem (by omega))]
  · rw [List.getElem?_eq_none (by omega), List.getElem?_eq_none (by omega)]
def sameP (a b : List (List (Int × Int))) : Bool := decide (a = b)
theorem sameP_no {a b : List (List (Int × Int))} (h : a ≠ b) : false = sameP a b := by unfold sameP; rw [eq_comm, decide_eq_false_iff_not]; exact h
theorem sameP_yes {a b : List (List (Int × Int))} (h : a = b) : true = sameP a b := by unfold sameP; rw [eq_comm, decide_eq_true_iff]; exact h
set_option maxHeartbeats 16000000 in
set_option maxRecDepth 100000 in
theorem rplans_any (v u : Value) (p q : List (List (Int × Int))) (w : World) (hv : IsPlan w v p) (hu : IsPlan w u q) : Calls Tryd.prog 21 #[v, u] w fun e w' => e = .returned (.bool (sameP p q)) ∧ Below w.heap.size w w' := by
  have hlen := hv.len
  have hlen' := hu.len
  unfold maxLen at hlen hlen'
  obtain ⟨a, cap, rfl, h2, h3, h4⟩ := hv
  obtain ⟨a', cap', rfl, h2', h3', h4'⟩ := hu
  obtain ⟨n, hn⟩ : ∃ n, p.length = n := ⟨_, rfl⟩
  obtain ⟨n', hn'⟩ : ∃ n, q.length = n := ⟨_, rfl⟩
  have HN := hide (And.intro hn hn')
  have H4 := hide h4
  have H4' := hide h4'
  rw [hn] at h2 hlen ⊢
  rw [hn'] at h2' hlen' ⊢
  clear hn hn' h4 h4'
  by_cases c1 : n = n'
  rotate_left 1
  · have HA := hide (sameP_no (a := p) (b := q) (fun e => c1 (by rw [← HN.out.1, ← HN.out.2, e])))
    have nb : ((n : Int) != (n' : Int)) = true := by simp; omega
    clear c1
    go_enter Tryd.func21, Tryd.ntmps21
    go_wp2
    go_ret
    exact ⟨ret_bool HA.out, Below.refl _ _⟩
  subst c1
  have nb : ((n : Int) != (n : Int)) = false := by simp
  go_enter Tryd.func21, Tryd.ntmps21
  go_wp2
  go_loopw [5] (fun sv wr => ∃ (k d : Nat) (xi : Int), k ≤ n ∧ xi = (k : Int) ∧ sv = .int .i64 xi ∧ wr = w.drewN d ∧ ∀ j x y, j < k → p[j]? = some x → q[j]? = some y → x = y) (fun sv _ => n - (intOf sv).toNat)
  case atStart => exact ⟨0, 0, 0, Nat.zero_le _, rfl, rfl, rfl, fun j x y hj _ _ => by omega⟩
  case round =>
    obtain ⟨k, d, xi, hk, hxi, rfl, rfl, he⟩ := hrel
    have HE := hide he
    have HXI := hide hxi
    have hx0 : 0 ≤ xi := by omega
    have hx1 : xi ≤ 9223372036854775807 := by omega
    clear he hxi
    by_cases hlt : xi < (n : Int)
    · obtain ⟨x, hx⟩ := stage_at (p := p) (i := k) (by have := HN.out.1; have := HXI.out; omega)
      obtain ⟨y, hy⟩ := stage_at (p := q) (i := k) (by have := HN.out.2; have := HXI.out; omega)
      obtain ⟨b, off, ha, hcl⟩ := H4.out.resolve_left (fun e => by rw [e] at hx; simp at hx)
      obtain ⟨b', off', ha', hcl'⟩ := H4'.out.resolve_left (fun e => by rw [e] at hy; simp at hy)
      subst ha ha'
      obtain ⟨s, hs, hi⟩ := hcl k x hx
      obtain ⟨s', hs', hi'⟩ := hcl' k y hy
      rw [show k = xi.toNat by have := HXI.out; omega] at hs hs'
      have hll := hi.len
      have hll' := hi'.len
      unfold maxLen at hll hll'
      obtain ⟨la, lc, hse, l2, l3, l4⟩ := hi
      obtain ⟨la', lc', hse', l2', l3', l4'⟩ := hi'
      subst hse hse'
      obtain ⟨ln, hln⟩ : ∃ z, x.length = z := ⟨_, rfl⟩
      obtain ⟨ln', hln'⟩ : ∃ z, y.length = z := ⟨_, rfl⟩
      rw [hln] at hs hll l2
      rw [hln'] at hs' hll' l2'
      have HX := hide hx
      have HY := hide hy
      have HL4 := hide l4
      have HL4' := hide l4'
      have HLN := hide (And.intro hln hln')
      clear hx hy hcl hcl' l4 l4' hln hln'
      by_cases c2 : ln = ln'
      rotate_left 1
      · have HA := hide (sameP_no (plan_ne HX.out HY.out (fun e => c2 (by rw [← HLN.out.1, ← HLN.out.2, e]))))
        have nl : ((ln : Int) != (ln' : Int)) = true := by simp; omega
        clear c2
        go_wp2
        go_quiet (fail)
        go_wp2
        go_ret
        exact ⟨ret_bool HA.out, bel_d2 _ _ _⟩
      subst c2
      have nl : ((ln : Int) != (ln : Int)) = false := by simp
      go_wp2
      go_quiet (fail)
      go_wp2
      go_loopw [6] (fun iv w2 => ∃ (j d2 : Nat) (xj : Int), j ≤ ln ∧ xj = (j : Int) ∧ iv = .int .i64 xj ∧ w2 = w.drewN d2 ∧ ∀ i s t, i < j → x[i]? = some s → y[i]? = some t → s = t) (fun iv _ => ln - (intOf iv).toNat)
      case atStart => exact ⟨0, d + nq, 0, Nat.zero_le _, rfl, rfl, by first | rfl | (rw [World.drewN_drewN]), fun i s t hi _ _ => by omega⟩
      case round =>
        obtain ⟨j, d2, xj, hj, hxj, rfl, rfl, he2⟩ := hrel
        have HE2 := hide he2
        have HXJ := hide hxj
        have hy0 : 0 ≤ xj := by omega
        have hy1 : xj ≤ 9223372036854775807 := by omega
        clear he2 hxj
        by_cases hlt2 : xj < (ln : Int)
        · obtain ⟨s, hsx⟩ := act_at (l := x) (i := j) (by have := HLN.out.1; have := HXJ.out; omega)
          obtain ⟨t, hty⟩ := act_at (l := y) (i := j) (by have := HLN.out.2; have := HXJ.out; omega)
          obtain ⟨b2, off2, ha, hcl2⟩ := HL4.out.resolve_left (fun e => by rw [e] at hsx; simp at hsx)
          obtain ⟨b3, off3, ha', hcl3⟩ := HL4'.out.resolve_left (fun e => by rw [e] at hty; simp at hty)
          subst ha ha'
          obtain ⟨d11, d12⟩ := hcl2 j s hsx
          obtain ⟨d21, d22⟩ := hcl3 j t hty
          rw [show j = xj.toNat by have := HXJ.out; omega] at d11 d12 d21 d22
          obtain ⟨sk, sm⟩ := s
          obtain ⟨tk, tm⟩ := t
          dsimp only at d11 d12 d21 d22
          have HSX := hide hsx
          have HTY := hide hty
          clear hcl2 hcl3 hsx hty
          have HNX := hide (fun (h : (sk, sm) = (tk, tm)) => show ∀ i s t, i < j + 1 → x[i]? = some s → y[i]? = some t → s = t by
            intro i s t hi hs ht
            rcases Nat.lt_or_ge i j with h' | h'
            · exact HE2.out i s t h' hs ht
            · rw [show i = j by omega, HSX.out] at hs
              rw [show i = j by omega, HTY.out] at ht
              rw [← Option.some.inj hs, ← Option.some.inj ht]; exact h)
          have HNE := hide (fun (h : (sk, sm) ≠ (tk, tm)) => sameP_no (plan_ne HX.out HY.out (acts_ne HSX.out HTY.out h)))
          by_cases e1 : sk = tk
          · by_cases e2 : sm = tm
            · have HU := hide (HNX.out (by rw [e1, e2]))
              go_wp2
              go_quiet (fail)
              go_wp2
              go_roundw
              case rel => exact ⟨j + 1, _, _, by have := HXJ.out; omega, by have := HXJ.out; omega, rfl, rfl, HU.out⟩
              case measure => have := HXJ.out; simp [intOf]; omega
            · have HA := hide (HNE.out (fun e => e2 (Prod.mk.inj e).2))
              have n2 : (sm == tm) = false := by simpa using e2
              clear e2
              go_wp2
              go_quiet (fail)
              go_wp2
              go_ret
              exact ⟨ret_bool HA.out, bel_d2 _ _ _⟩
          · have HA := hide (HNE.out (fun e => e1 (Prod.mk.inj e).1))
            have n1 : (sk == tk) = false := by simpa using e1
            clear e1
            go_wp2
            go_quiet (fail)
            go_wp2
            go_ret
            exact ⟨ret_bool HA.out, bel_d2 _ _ _⟩
        · have HU := hide (show ∀ j x y, j < k + 1 → p[j]? = some x → q[j]? = some y → x = y by
            intro j' x' y' hj' hx' hy'
            rcases Nat.lt_or_ge j' k with h | h
            · exact HE.out j' x' y' h hx' hy'
            · rw [show j' = k by omega, HX.out] at hx'
              rw [show j' = k by omega, HY.out] at hy'
              rw [← Option.some.inj hx', ← Option.some.inj hy']
              exact list_eq (by rw [HLN.out.1, HLN.out.2]) (fun i s t hs ht => HE2.out i s t (by have := HLN.out.1; have := HXJ.out; have := (List.getElem?_eq_some_iff.1 hs).1; omega) hs ht))
          go_wp2
          go_roundw
          case rel => exact ⟨k + 1, _, _, by have := HXI.out; omega, by have := HXI.out; omega, rfl, rfl, HU.out⟩
          case measure => have := HXI.out; simp [intOf]; omega
    · have HA := hide (sameP_yes (a := p) (b := q) (list_eq (by rw [HN.out.1, HN.out.2]) (fun i s t hs ht => HE.out i s t (by have := HN.out.1; have := HXI.out; have := (List.getElem?_eq_some_iff.1 hs).1; omega) hs ht)))
      go_wp2
      go_ret
      exact ⟨ret_bool HA.out, below_drewN _ _⟩
end Go.Proofs.YtgkoelmmcmmicafDoor
