/- The walk of the law MatStacks: Stack of package mat answers what the document says. Conditions: not more than two million matrices; the library's variable errors.errorType is as its text lays it. -/
import Derived.Test.YtpgmbpgclnhkgabDoorErr
import Derived.Test.YtpgmbpgclnhkgabDoorThree
import Derived.Test.YtpgmbpgclnhkgabDoorMStk
import Derived.Test.YtpgmbpgclnhkgabDoorNil
import Derived.StillTailTactics
import Derived.Laws.AppendOwnNone
namespace Go.Proofs.YtpgmbpgclnhkgabDoor
open Go.RowKit
theorem faults_app (l r : List Mx) : faults (l ++ r) = if faults l = 0 then faults r else faults l := by
  induction l with
  | nil => simp [faults]
  | cons x l ih =>
    by_cases h : fault x = 0
    · have e : ∀ q, faults (x :: q) = faults q := fun q => by show (if fault x = 0 then faults q else fault x) = _; rw [if_pos h]
      rw [List.cons_append, e, e, ih]
    · have e : ∀ q, faults (x :: q) = fault x := fun q => by show (if fault x = 0 then faults q else fault x) = _; rw [if_neg h]
      rw [List.cons_append, e, e, if_neg h]
theorem faults_snoc (l : List Mx) (x : Mx) : faults (l ++ [x]) = if faults l = 0 then fault x else faults l := by rw [faults_app, faults_one]
theorem faults_part {ms : List Mx} {k : Nat} {F : Int} (h : faults (ms.take k) = F) (hF : ¬ F = 0) : faults ms = F := by
  have := faults_app (ms.take k) (ms.drop k)
  rw [List.take_append_drop, h, if_neg hF] at this
  exact this
/-- The cells of all, one behind the other. -/
def catC (l : List Mx) : List Int := (l.map Mx.cells).flatten
theorem catC_snoc (l : List Mx) (x : Mx) : catC (l ++ [x]) = catC l ++ x.cells := by simp [catC]
theorem catC_len {l : List Mx} (h : ∀ x ∈ l, ∃ R C, Good x R C) : (catC l).length ≤ 288 * l.length := by
  induction l with
  | nil => simp [catC]
  | cons x l ih =>
    have := ih (fun y hy => h y (by simp [hy]))
    obtain ⟨R, C, g⟩ := h x (by simp)
    have h1 := Nat.mul_le_mul g.hR g.hC
    have h2 := g.l
    have e : (catC (x :: l)).length = x.cells.length + (catC l).length := by simp [catC]
    rw [e, List.length_cons]
    omega
theorem own_shape {w : World} {base : Nat} {e : TypeId} {v : Value} {n : Nat} {xs : List Value} (h : w.ownsRow base e 1 v n xs) : ∃ a n k, v = .slice a n k := by
  rcases h.2 with ⟨rfl, _⟩ | ⟨g, cap, cur, rfl, _⟩
  · exact ⟨_, _, _, rfl⟩
  · exact ⟨_, _, _, rfl⟩
theorem own_set {w : World} {base : Nat} {e : TypeId} {v : Value} {n : Nat} {xs : List Value} (h : w.ownsRow base e 1 v n xs) {B : Nat} (hB : B < base) (q : Nat) (u : Value) : (w.setCell ⟨B, q, none⟩ u).ownsRow base e 1 v n xs := by
  refine World.ownsRow.kept (row := some B) h (grown_set (World.grownBy.refl w (some B)) q u) ?_
  cases e : v.ownBlock with
  | none => exact .inl rfl
  | some k => exact .inr (fun e' => by have := (World.ownsRow.lt h k e).1; have := Option.some.inj e'; omega)
theorem own_ints {w : World} {base : Nat} {e : TypeId} {v : Value} {zs : List Int} (h : w.ownsRow base e 1 v zs.length (zs.map (Value.int .i64))) (hm : zs.length ≤ maxLen) : IsInts w v zs := by
  have hc := fun g q => World.ownsRow.cells h (g := g) q
  rcases h.2 with ⟨rfl, h0⟩ | ⟨g, cap, cur, rfl, _, _, h3, h4, _, _⟩
  · have : zs = [] := List.eq_nil_of_length_eq_zero h0
    subst this; exact IsInts.nil w
  · refine ⟨some ⟨g, 0, none⟩, cap, rfl, h3, h4, .inr ⟨g, 0, rfl, fun i x hx => ?_⟩⟩
    have := hc g rfl i (.int .i64 x) (by simp [hx])
    rw [Addr.add_lit] at this; exact this
theorem size_set (w : World) (a : Addr) (v : Value) : (w.setCell a v).heap.size = w.heap.size := by simp [World.setCell]
theorem own_drew {w : World} {base : Nat} {e : TypeId} {v : Value} {n : Nat} {xs : List Value} (h : w.ownsRow base e 1 v n xs) : w.drew.ownsRow base e 1 v n xs := by
  refine World.ownsRow.kept (row := none) h ⟨rfl, rfl, rfl, Nat.le_refl _, fun _ _ _ => rfl⟩ ?_
  cases e : v.ownBlock with
  | none => exact .inl rfl
  | some k => exact .inr (by simp)
set_option maxHeartbeats 40000000 in
set_option maxRecDepth 100000 in
theorem stacks_walk (v0 : Value) (ms : List Mx) (w : World) (h0 : IsMxs w v0 ms) (hmax : ms.length ≤ 2000000) (hK : NilsOk w v0) (hH : Handle w) : Calls Tryd.prog 5 #[v0] w fun e w' => e = .returned (.bool true) ∧ Below w.heap.size w w' := by
  have h5 := h0
  obtain ⟨a, cap, rfl, h2, h3, h4⟩ := h5
  obtain ⟨n, hn⟩ : ∃ n, ms.length = n := ⟨_, rfl⟩
  rw [hn] at h0 h2 hK ⊢
  have hn2 : n ≤ 2000000 := by omega
  have VV := hide h0
  have HH := hide hH
  have HN := hide hn
  have WW := hide (Below.refl w.heap.size w)
  have C := hide (Below.refl w.heap.size w)
  obtain ⟨P, hP⟩ : ∃ P, stackX ms = P := ⟨_, rfl⟩
  have HP := hide hP
  have HMX := hide hmax
  have V0 := hide h0
  have K0 := hide hK
  clear hK h0 hH hn hmax h4 hP
  go_enter Tryd.func5, Tryd.ntmps5
  have HX := hide (mstack_any _ ms _ (VV.out.below C.out) HMX.out)
  go_wp2_with fail
  refine HX.out.mono ?_
  intro e u1 h
  obtain ⟨pa, pn, pk, rfl, hm, hb⟩ := h.any
  rw [HP.out] at hm ⊢
  clear h
  replace C := hide (below_next C.out hb)
  clear HX hb 
  have MM := hide (hm.below (below_one u1 (.cells #[.int .i64 P.rows, .int .i64 P.cols, .slice pa pn pk] 24)))
  have D := below_next C.out (below_one u1 (.cells #[.int .i64 P.rows, .int .i64 P.cols, .slice pa pn pk] 24))
  replace HH := hide (HH.out.below D)
  replace VV := hide (VV.out.below D)
  replace WW := hide (below_next WW.out D)
  replace C := hide (Below.refl (u1.alloc (.cells #[.int .i64 P.rows, .int .i64 P.cols, .slice pa pn pk] 24)).heap.size (u1.alloc (.cells #[.int .i64 P.rows, .int .i64 P.cols, .slice pa pn pk] 24)))
  clear D
  have Tm := hide (three_newB u1 P.rows P.cols (.slice pa pn pk) 24 (B := u1.heap.size) (by simp))
  have Mm := MM
  clear MM hm
  go_wp2
  obtain ⟨V, hV⟩ : ∃ V, V = (u1.alloc (.cells #[.int .i64 P.rows, .int .i64 P.cols, .slice pa pn pk] 24)) := ⟨_, rfl⟩
  rw [← hV] at C Tm Mm HH VV WW ⊢
  clear hV
  go_loopw [5, 6] (fun ev iv wr => ∃ k : Nat, k ≤ n ∧ iv = .int .i64 k ∧ ev = .int .i64 (faults (ms.take k)) ∧ Below V.heap.size V wr) (fun _ iv _ => n - (intOf iv).toNat)
  case atStart => exact ⟨0, Nat.zero_le _, rfl, rfl, C.out⟩
  case round =>
    obtain ⟨k, hk, rfl, rfl, hbw⟩ := hrel
    replace C := hide hbw
    clear hbw
    obtain ⟨F, hF⟩ : ∃ F, faults (ms.take k) = F := ⟨_, rfl⟩
    rw [hF]
    have HF := hide hF
    clear hF
    by_cases hlt : k < n
    · have hlt' : (k : Int) < (n : Int) := by omega
      by_cases hz : F = 0
      · subst hz
        obtain ⟨x, hx⟩ : ∃ x, ms[k]? = some x := ⟨ms[k]'(by have := HN.out; omega), List.getElem?_eq_getElem _⟩
        obtain ⟨aa, cc, ea, _, _, h4⟩ := VV.out
        injection ea with ea en ec
        subst ea ec
        clear en
        obtain ⟨b, off, rfl, hcl⟩ := h4.resolve_left (fun q => by rw [q] at hx; simp at hx)
        obtain ⟨sa, sn, sc, d0, d1, d2, hsi⟩ := mx_at hcl hx C.out
        have HX := hide hx
        clear hx h4
        have HM := hide (fault_any _ x wr ⟨_, rfl, hsi.below C.out⟩)
        clear hsi hcl
        go_wp2_with fail
        refine HM.out.mono ?_
        rintro e w2 ⟨rfl, hb⟩
        have HB2 := hide (below_next C.out hb)
        clear hb HM d0 d1 d2
        go_wp2
        go_roundw
        case rel => exact ⟨k + 1, by omega, by go_num, by rw [take_snoc HX.out, faults_snoc, if_pos HF.out], HB2.out⟩
        case measure => simp [intOf]; omega
      · have HNZ := hide hz
        have HFS := hide (faults_part (ms := ms) (k := k) HF.out HNZ.out)
        have HSE := hide (show stackE ms = F by unfold stackE; rw [if_pos (by rw [HFS.out]; exact HNZ.out)]; exact HFS.out)
        have hn0' : (0 : Int) < (n : Int) := by omega
        have hw0 : wr.heap.size = wr.heap.size := by simp
        clear hw0
        have LB : Hid (_ ≤ wr.heap.size) := hide (Nat.le_trans C.out.size (Nat.le_of_eq (by simp)))
        have Uw := hide (Mut.newB wr 0 0 (.slice none 0 0) 24 (B := wr.heap.size) (by simp))
        replace C := hide (below_next C.out (below_one wr (.cells #[.int .i64 0, .int .i64 0, .slice none 0 0] 24)))
        go_wp2
        go_loopw [5, 8] (fun ev iv ww => ev = .int .i64 F ∧ iv = .int .i64 0 ∧ ww = (wr.alloc (.cells #[.int .i64 0, .int .i64 0, .slice none 0 0] 24))) (fun _ _ _ => 0)
        case atStart => exact ⟨rfl, rfl, rfl⟩
        case round =>
          obtain ⟨rfl, rfl, rfl⟩ := hrel
          go_wp2
          go_loopw [9] (fun iv ww => iv = .int .i64 0 ∧ ww = (wr.alloc (.cells #[.int .i64 0, .int .i64 0, .slice none 0 0] 24))) (fun _ _ => 0)
          case atStart => exact ⟨rfl, rfl⟩
          case round =>
            obtain ⟨rfl, rfl⟩ := hrel
            have HX := hide (error_same (k := stackE ms) (n := F) HSE.out _ (HH.out.below C.out))
            obtain ⟨zm0, zm1, zm2⟩ := Tm.out.below C.out
            obtain ⟨zw0, zw1, zw2⟩ := Uw.out.t
            have zw3 := Uw.out.f 0
            have zw4 := Uw.out.f 1
            have zw5 := Uw.out.f 2
            go_wp2_with fail
            refine HX.out.mono ?_
            rintro e u2 ⟨rfl, hb⟩
            replace C := hide (below_next C.out hb)
            replace Uw := hide (Uw.out.below hb)
            clear HX hb zm0 zm1 zm2 zw0 zw1 zw2 zw3 zw4 zw5
            have HX := hide (matrices_any _ _ P noMx _ (Mm.out.below C.out) (isMx_no _))
            obtain ⟨zm0, zm1, zm2⟩ := Tm.out.below C.out
            obtain ⟨zw0, zw1, zw2⟩ := Uw.out.t
            have zw3 := Uw.out.f 0
            have zw4 := Uw.out.f 1
            have zw5 := Uw.out.f 2
            go_wp2_with fail
            refine HX.out.mono ?_
            rintro e u3 ⟨rfl, hb⟩
            rw [show sameM P noMx = true by rw [← HP.out, stackX_no (by rw [HSE.out]; exact HNZ.out)]; exact sameM_refl _]
            replace C := hide (below_next C.out hb)
            replace Uw := hide (Uw.out.below hb)
            clear HX hb zm0 zm1 zm2 zw0 zw1 zw2 zw3 zw4 zw5
            obtain ⟨zm0, zm1, zm2⟩ := Tm.out.below C.out
            obtain ⟨zw0, zw1, zw2⟩ := Uw.out.t
            have zw3 := Uw.out.f 0
            have zw4 := Uw.out.f 1
            have zw5 := Uw.out.f 2
            go_wp2
            go_ret
            exact ⟨rfl, below_next WW.out C.out⟩
    · have hge : ¬ (k : Int) < (n : Int) := by omega
      have hkn : k = n := by omega
      have HFS : Hid (faults ms = F) := hide (by rw [← HF.out, List.take_of_length_le (by have := HN.out; omega)])
      clear hkn
      by_cases hz : F = 0
      · subst hz
        by_cases hn0 : n = 0
        · subst hn0
          have HSE := hide (show stackE ms = 2 by unfold stackE; rw [if_neg (by simp [HFS.out]), if_pos (by rw [List.eq_nil_of_length_eq_zero HN.out]; exact sameC_nil.symm)])
          have hw0 : wr.heap.size = wr.heap.size := by simp
          clear hw0
          have LB : Hid (_ ≤ wr.heap.size) := hide (Nat.le_trans C.out.size (Nat.le_of_eq (by simp)))
          have Uw := hide (Mut.newB wr 0 0 (.slice none 0 0) 24 (B := wr.heap.size) (by simp))
          replace C := hide (below_next C.out (below_one wr (.cells #[.int .i64 0, .int .i64 0, .slice none 0 0] 24)))
          go_wp2
          go_loopw [5, 8] (fun ev iv ww => ev = .int .i64 2 ∧ iv = .int .i64 0 ∧ ww = (wr.alloc (.cells #[.int .i64 0, .int .i64 0, .slice none 0 0] 24))) (fun _ _ _ => 0)
          case atStart => exact ⟨rfl, rfl, rfl⟩
          case round =>
            obtain ⟨rfl, rfl, rfl⟩ := hrel
            go_wp2
            go_loopw [9] (fun iv ww => iv = .int .i64 0 ∧ ww = (wr.alloc (.cells #[.int .i64 0, .int .i64 0, .slice none 0 0] 24))) (fun _ _ => 0)
            case atStart => exact ⟨rfl, rfl⟩
            case round =>
              obtain ⟨rfl, rfl⟩ := hrel
              have HX := hide (error_same (k := stackE ms) (n := 2) HSE.out _ (HH.out.below C.out))
              obtain ⟨zm0, zm1, zm2⟩ := Tm.out.below C.out
              obtain ⟨zw0, zw1, zw2⟩ := Uw.out.t
              have zw3 := Uw.out.f 0
              have zw4 := Uw.out.f 1
              have zw5 := Uw.out.f 2
              go_wp2_with fail
              refine HX.out.mono ?_
              rintro e u2 ⟨rfl, hb⟩
              replace C := hide (below_next C.out hb)
              replace Uw := hide (Uw.out.below hb)
              clear HX hb zm0 zm1 zm2 zw0 zw1 zw2 zw3 zw4 zw5
              have HX := hide (matrices_any _ _ P noMx _ (Mm.out.below C.out) (isMx_no _))
              obtain ⟨zm0, zm1, zm2⟩ := Tm.out.below C.out
              obtain ⟨zw0, zw1, zw2⟩ := Uw.out.t
              have zw3 := Uw.out.f 0
              have zw4 := Uw.out.f 1
              have zw5 := Uw.out.f 2
              go_wp2_with fail
              refine HX.out.mono ?_
              rintro e u3 ⟨rfl, hb⟩
              rw [show sameM P noMx = true by rw [← HP.out, stackX_no (by rw [HSE.out]; decide)]; exact sameM_refl _]
              replace C := hide (below_next C.out hb)
              replace Uw := hide (Uw.out.below hb)
              clear HX hb zm0 zm1 zm2 zw0 zw1 zw2 zw3 zw4 zw5
              obtain ⟨zm0, zm1, zm2⟩ := Tm.out.below C.out
              obtain ⟨zw0, zw1, zw2⟩ := Uw.out.t
              have zw3 := Uw.out.f 0
              have zw4 := Uw.out.f 1
              have zw5 := Uw.out.f 2
              go_wp2
              go_ret
              exact ⟨rfl, below_next WW.out C.out⟩
        · have hn0' : (0 : Int) < (n : Int) := by omega
          have hn1 : ¬ (n : Int) = 0 := by omega
          have LB : Hid (_ ≤ wr.heap.size) := hide (Nat.le_trans C.out.size (Nat.le_of_eq (by simp)))
          have Uw := hide (Mut.newB wr 0 0 (.slice none 0 0) 24 (B := wr.heap.size) (by simp))
          replace C := hide (below_next C.out (below_one wr (.cells #[.int .i64 0, .int .i64 0, .slice none 0 0] 24)))
          go_wp2
          obtain ⟨V2, hV2⟩ : ∃ V2, V2 = wr.alloc (.cells #[.int .i64 0, .int .i64 0, .slice none 0 0] 24) := ⟨_, rfl⟩
          have HS2 := hide (show V2.heap.size = wr.heap.size + 1 by rw [hV2]; simp)
          rw [← hV2] at C Uw ⊢
          clear hV2
          obtain ⟨B, hB⟩ : ∃ B, wr.heap.size = B := ⟨_, rfl⟩
          rw [hB] at Uw LB HS2 ⊢
          clear hB
          go_loopw [5, 8] (fun ev iv w2 => ∃ k2 : Nat, k2 ≤ n ∧ iv = .int .i64 k2 ∧ Below V2.heap.size V2 w2 ∧ ((ev = .int .i64 0 ∧ ∀ j x y, j < k2 → ms[j]? = some x → ms[0]? = some y → x.cols = y.cols) ∨ (ev = .int .i64 2 ∧ sameC ms = false))) (fun _ iv _ => n - (intOf iv).toNat)
          case atStart => exact ⟨0, Nat.zero_le _, rfl, Below.refl _ _, .inl ⟨rfl, fun j x y hj _ _ => by omega⟩⟩
          case round =>
            obtain ⟨k2, hk2, rfl, hb2, hor⟩ := hrel
            replace C := hide (below_next C.out hb2)
            replace Uw := hide (Uw.out.below hb2)
            have HB2 := hide hb2
            clear hb2
            by_cases hlt2 : k2 < n
            · have hlt2' : (k2 : Int) < (n : Int) := by omega
              rcases hor with ⟨rfl, hal⟩ | ⟨rfl, hsc⟩
              · have HAL := hide hal
                clear hal
                obtain ⟨x, hx⟩ : ∃ x, ms[k2]? = some x := ⟨ms[k2]'(by have := HN.out; omega), List.getElem?_eq_getElem _⟩
                obtain ⟨aa, cc, ea, _, _, h4⟩ := VV.out
                injection ea with ea en ec
                subst ea ec
                clear en
                obtain ⟨b, off, rfl, hcl⟩ := h4.resolve_left (fun q => by rw [q] at hx; simp at hx)
                obtain ⟨sa, sn, sc, d0, d1, d2, hsi⟩ := mx_at hcl hx C.out
                have HX := hide hx
                clear hx h4
                obtain ⟨y, hy⟩ : ∃ y, ms[0]? = some y := ⟨ms[0]'(by have := HN.out; omega), List.getElem?_eq_getElem _⟩
                obtain ⟨ta, tn, tc, _, e1, _, _⟩ := mx_at hcl hy C.out
                rw [Nat.zero_mul, Nat.add_zero] at e1
                have HY := hide hy
                clear hcl hy hsi
                by_cases hf : x.cols = y.cols
                · have hq := eqF hf
                  have HFE := hide hf
                  clear hf
                  go_wp2
                  go_quiet (fail)
                  go_wp2
                  exact ⟨⟨k2 + 1, by omega, by go_num, (below_next HB2.out (below_drewN _ _)), .inl ⟨rfl, fun j z u hj hz hu => by
                    rcases Nat.lt_or_ge j k2 with h | h
                    · exact HAL.out j z u h hz hu
                    · have q1 : z = x := Option.some.inj (by rw [← hz, show j = k2 by omega, HX.out])
                      have q2 : u = y := Option.some.inj (by rw [← hu, HY.out])
                      rw [q1, q2]; exact HFE.out⟩⟩, by simp [intOf]; omega⟩
                · have hq := eqT hf
                  have HFE := hide hf
                  clear hf
                  go_wp2
                  go_quiet (fail)
                  go_wp2
                  exact ⟨⟨k2 + 1, by omega, by go_num, (below_next HB2.out (below_drewN _ _)), .inr ⟨rfl, (sameC_no HX.out HY.out HFE.out).symm⟩⟩, by simp [intOf]; omega⟩
              · have HSE := hide (show stackE ms = 2 by unfold stackE; rw [if_neg (by simp [HFS.out]), if_pos hsc])
                clear hsc
                go_wp2
                go_loopw [9] (fun iv ww => iv = .int .i64 0 ∧ ww = wr) (fun _ _ => 0)
                case atStart => exact ⟨rfl, rfl⟩
                case round =>
                  obtain ⟨rfl, rfl⟩ := hrel
                  obtain ⟨y00, y01, y02⟩ := Uw.out.t
                  have y03 := Uw.out.f 0
                  have y04 := Uw.out.f 1
                  have y05 := Uw.out.f 2
                  replace C := hide (below_set3 C.out LB.out (.int .i64 0) (.int .i64 0) (.slice none 0 0))
                  replace Uw := hide (Uw.out.set 0 0 (.slice none 0 0))
                  have HX := hide (error_same (k := stackE ms) (n := 2) HSE.out _ (HH.out.below C.out))
                  obtain ⟨zm0, zm1, zm2⟩ := Tm.out.below C.out
                  obtain ⟨zw0, zw1, zw2⟩ := Uw.out.t
                  have zw3 := Uw.out.f 0
                  have zw4 := Uw.out.f 1
                  have zw5 := Uw.out.f 2
                  go_wp2_with fail
                  refine HX.out.mono ?_
                  rintro e u2 ⟨rfl, hb⟩
                  replace C := hide (below_next C.out hb)
                  replace Uw := hide (Uw.out.below hb)
                  clear HX hb zm0 zm1 zm2 zw0 zw1 zw2 zw3 zw4 zw5 y00 y01 y02 y03 y04 y05
                  have HX := hide (matrices_any _ _ P noMx _ (Mm.out.below C.out) (isMx_no _))
                  obtain ⟨zm0, zm1, zm2⟩ := Tm.out.below C.out
                  obtain ⟨zw0, zw1, zw2⟩ := Uw.out.t
                  have zw3 := Uw.out.f 0
                  have zw4 := Uw.out.f 1
                  have zw5 := Uw.out.f 2
                  go_wp2_with fail
                  refine HX.out.mono ?_
                  rintro e u3 ⟨rfl, hb⟩
                  rw [show sameM P noMx = true by rw [← HP.out, stackX_no (by rw [HSE.out]; decide)]; exact sameM_refl _]
                  replace C := hide (below_next C.out hb)
                  replace Uw := hide (Uw.out.below hb)
                  clear HX hb zm0 zm1 zm2 zw0 zw1 zw2 zw3 zw4 zw5
                  obtain ⟨zm0, zm1, zm2⟩ := Tm.out.below C.out
                  obtain ⟨zw0, zw1, zw2⟩ := Uw.out.t
                  have zw3 := Uw.out.f 0
                  have zw4 := Uw.out.f 1
                  have zw5 := Uw.out.f 2
                  go_wp2
                  go_ret
                  exact ⟨rfl, below_next WW.out C.out⟩
            · have hge2 : ¬ (k2 : Int) < (n : Int) := by omega
              rcases hor with ⟨rfl, hal⟩ | ⟨rfl, hsc⟩
              · have HSC := hide (sameC_yes (ms := ms) (by rw [HN.out]; omega) (fun j x y hj hx hy => hal j x y (by have := HN.out; omega) hx hy)).symm
                clear hal
                obtain ⟨y, hy⟩ : ∃ y, ms[0]? = some y := ⟨ms[0]'(by have := HN.out; omega), List.getElem?_eq_getElem _⟩
                have hsc := HSC.out
                unfold sameC at hsc
                rw [decide_eq_true_iff] at hsc
                have hcol : ∀ x ∈ ms, x.cols = y.cols := fun x hx => by rw [hsc.2 x hx, head_at hy]
                have hgd : ∀ x ∈ ms, ∃ R C, Good x R C := fun x hx => good_of (faults_all HFS.out x hx)
                have HG := hide (And.intro hgd (And.intro hcol hy))
                have hsz0 : B + 1 ≤ wr.heap.size := by have := HB2.out.size; have := HS2.out; omega
                clear hsc hcol hgd hy
                go_wp2
                go_loopw [9] (fun iv w3 => ∃ (k3 : Nat) (cK : Int) (v : Value), k3 ≤ n ∧ iv = .int .i64 k3 ∧ Below V.heap.size V w3 ∧ Mut w3 B (sumR (ms.take k3)) cK v ∧ w3.ownsRow (B + 1) 3 1 v (catC (ms.take k3)).length ((catC (ms.take k3)).map (Value.int .i64)) ∧ B + 1 ≤ w3.heap.size ∧ (k3 = 0 ∨ cK = y.cols)) (fun iv _ => n - (intOf iv).toNat)
                case atStart => exact ⟨0, 0, .slice none 0 0, Nat.zero_le _, rfl, C.out, Uw.out, World.ownsRow_nil _ _ _ _, hsz0, .inl rfl⟩
                case round =>
                  obtain ⟨k3, cK, v, hk3, rfl, hb3, hmu, how, hsz, hck⟩ := hrel
                  obtain ⟨va, vn, vc, rfl⟩ := own_shape how
                  have hsb := sumR_bd (ms := ms.take k3) (fun x hx => by obtain ⟨R, C, g⟩ := HG.out.1 x (List.mem_of_mem_take hx); have := g.r; have := g.hR; omega)
                  have hsl : (ms.take k3).length ≤ 2000000 := by rw [List.length_take]; omega
                  obtain ⟨S, hS⟩ : ∃ S, sumR (ms.take k3) = S := ⟨_, rfl⟩
                  rw [hS] at hsb hmu
                  have hS0 : 0 ≤ S := hsb.1
                  have hS1 : S ≤ 48000000 := by omega
                  have HS := hide hS
                  have HO := hide how
                  have HZ := hide (And.intro hsz hck)
                  replace C := hide hb3
                  replace Uw := hide hmu
                  clear hsb hsl hS how hsz hck hb3 hmu hsz0
                  by_cases hlt3 : k3 < n
                  · have hlt3' : (k3 : Int) < (n : Int) := by omega
                    obtain ⟨x, hx⟩ : ∃ x, ms[k3]? = some x := ⟨ms[k3]'(by have := HN.out; omega), List.getElem?_eq_getElem _⟩
                    obtain ⟨aa, cc, ea, _, _, h4⟩ := VV.out
                    injection ea with ea en ec
                    subst ea ec
                    clear en
                    obtain ⟨b, off, rfl, hcl⟩ := h4.resolve_left (fun q => by rw [q] at hx; simp at hx)
                    obtain ⟨sa, sn, sc, d0, d1, d2, hsi⟩ := mx_at hcl hx C.out
                    have HX := hide hx
                    clear hx h4
                    obtain ⟨R, Cx, gx⟩ := HG.out.1 x (List.mem_of_getElem? HX.out)
                    have hr0 : 0 ≤ x.rows := by have := gx.r; omega
                    have hr1 : x.rows ≤ 24 := by have := gx.r; have := gx.hR; omega
                    have hbB : b < B := by
                      obtain ⟨_, q0, _⟩ := hcl k3 x HX.out
                      have := World.block_lt_of_cell? V _ q0
                      have := LB.out
                      simp only [] at *
                      omega
                    have HSI := hide hsi
                    have HGX := hide gx
                    have HBB := hide hbB
                    have HCL := hide hcl
                    have HC0 := C
                    obtain ⟨z0, z1, z2⟩ := Uw.out.t
                    have z3 := Uw.out.f 0
                    have z4 := Uw.out.f 1
                    have z5 := Uw.out.f 2
                    clear hsi gx hcl hbB
                    go_wp2
                    obtain ⟨Wa, hWa⟩ : ∃ Wa, Wa = wr.setCell ⟨B, 1, none⟩ (.int .i64 x.cols) := ⟨_, rfl⟩
                    have Ua : Hid (Mut Wa B S x.cols (.slice va vn vc)) := by rw [hWa]; exact Uw.out.set1 _
                    have Oa : Hid (Wa.ownsRow (B + 1) 3 1 (.slice va vn vc) (catC (ms.take k3)).length ((catC (ms.take k3)).map (Value.int .i64))) := by rw [hWa]; exact own_set HO.out (by omega) _ _
                    have Ca : Hid (Below V.heap.size V Wa) := by rw [hWa]; exact C.out.setCell LB.out _
                    have Za : Hid (B + 1 ≤ Wa.heap.size) := hide (by rw [hWa, size_set]; exact HZ.out.1)
                    rw [← hWa]
                    clear hWa z0 z1 z2 z3 z4 z5 d0 d1 d2
                    obtain ⟨_, _, _, d0, d1, d2, _⟩ := mx_at HCL.out HX.out Ca.out
                    obtain ⟨z0, z1, z2⟩ := Ua.out.t
                    have z3 := Ua.out.f 0
                    have z4 := Ua.out.f 1
                    have z5 := Ua.out.f 2
                    refine region_tail 9 (by kernel_rfl) (by kernel_rfl) ?_
                    simp only [List.take_succ_cons, List.take_zero, List.drop_succ_cons, List.drop_zero]
                    repeat still_step
                    refine wpStill_nil ?_
                    go_wp2
                    obtain ⟨Wb, hWb⟩ : ∃ Wb, Wb = (Wa.setCell ⟨B, 0, none⟩ (.int .i64 (S + x.rows))).drew := ⟨_, rfl⟩
                    have Ub : Hid (Mut Wb B (S + x.rows) x.cols (.slice va vn vc)) := by rw [hWb]; exact (Ua.out.set0 _).below (below_drew _)
                    have Ob : Hid (Wb.ownsRow (B + 1) 3 1 (.slice va vn vc) (catC (ms.take k3)).length ((catC (ms.take k3)).map (Value.int .i64))) := by rw [hWb]; exact own_drew (own_set Oa.out (by omega) _ _)
                    have Cb : Hid (Below V.heap.size V Wb) := by rw [hWb]; exact below_next (Ca.out.setCell LB.out _) (below_drew _)
                    have Zb : Hid (B + 1 ≤ Wb.heap.size) := hide (by rw [hWb]; show B + 1 ≤ (Wa.setCell _ _).heap.size; rw [size_set]; exact Za.out)
                    rw [← hWb]
                    clear hWb z0 z1 z2 z3 z4 z5 d0 d1 d2 Ua Oa Ca Za
                    obtain ⟨sa, sn, sc, d0, d1, d2, hsi⟩ := mx_at HCL.out HX.out Cb.out
                    obtain ⟨z0, z1, z2⟩ := Ub.out.t
                    have z3 := Ub.out.f 0
                    have z4 := Ub.out.f 1
                    have z5 := Ub.out.f 2
                    have hnk : NilOk (.slice sa sn sc) := by
                      obtain ⟨aa0, cc0, ea0, _, _, h40⟩ := V0.out
                      injection ea0 with ea0 en0 ec0
                      subst ea0 ec0
                      obtain ⟨b0, off0, eb, hcl0⟩ := h40.resolve_left (fun q => by have := HX.out; rw [q] at this; simp at this)
                      have eb := Option.some.inj eb
                      injection eb with eb1 eb2
                      subst eb1 eb2
                      obtain ⟨s0, _, _, q2, _⟩ := hcl0 k3 x HX.out
                      have hn0 := K0.out _ _ _ _ rfl k3 hlt3 s0 q2
                      have q3 := cell_below (below_next WW.out Cb.out) q2
                      rw [d2] at q3
                      rw [Option.some.inj q3]
                      exact hn0
                    have hlen := catC_len (l := ms.take k3) (fun x hx => HG.out.1 x (List.mem_of_mem_take hx))
                    have hsl : (ms.take k3).length ≤ 2000000 := by rw [List.length_take]; omega
                    have hxl : x.cells.length ≤ 288 := by rw [HGX.out.l]; have := Nat.mul_le_mul HGX.out.hR HGX.out.hC; omega
                    obtain ⟨N0, hN0⟩ : ∃ N0, (catC (ms.take k3)).length = N0 := ⟨_, rfl⟩
                    rw [hN0] at Ob
                    have hN0b : N0 ≤ 576000000 := by omega
                    obtain ⟨a0, cap0, es, hs2, hs3, hs4⟩ := hsi
                    injection es with es1 es2 es3
                    subst es1 es2 es3
                    obtain ⟨i0, ei, hz0, hz1, hz2⟩ := info_parts infoInt
                    have HEI := hide (And.intro ei (And.intro hz0 (And.intro hz1 hz2)))
                    have HS4 := hide hs4
                    have HNK := hide hnk
                    have HN0 := hide hN0
                    clear hs4 hnk ei hz0 hz1 hz2 hN0 hlen hsl
                    refine region_tail 7 (by kernel_rfl) (by kernel_rfl) ?_
                    simp only [List.take_succ_cons, List.take_zero, List.drop_succ_cons, List.drop_zero]
                    cases sa with
                    | none =>
                      obtain ⟨q1, q2⟩ := HNK.out _ _ rfl
                      have HXE : Hid (x.cells = []) := hide (List.eq_nil_of_length_eq_zero q1)
                      rw [q1, q2] at d2
                      clear q1 q2
                      repeat still_step
                      refine wpStill_nil ?_
                      refine wpList_append_own_none rfl _ _ 22 rfl (B + 1) 3 i0 1 Tryd.underlying22 HEI.out.1 _ N0 _ rfl (own_drew Ob.out) rfl ?_
                      go_wp2
                      go_roundw
                      case rel => exact ⟨k3 + 1, x.cols, .slice va vn vc, by omega, by go_num, below_next (Cb.out.setCell LB.out _) (below_drew _), by rw [take_snoc HX.out, sumR_snoc, HS.out]; exact (Ub.out.set2 _).below (below_drew _), by rw [take_snoc HX.out, catC_snoc, HXE.out, List.append_nil, HN0.out]; exact own_drew (own_set Ob.out (by omega) _ _), by show B + 1 ≤ (Wb.setCell _ _).heap.size; rw [size_set]; exact Zb.out, .inr (HG.out.2.1 x (List.mem_of_getElem? HX.out))⟩
                      case measure => simp [intOf]; omega
                    | some ad =>
                      repeat still_step
                      refine wpStill_nil ?_
                      go_wp2_with (at_builtin; refine wpList_append_own _ rfl _ _ 22 rfl (B + 1) 3 i0 (.int .i64 0) 1 8 Tryd.underlying22 HEI.out.1 HEI.out.2.1 HEI.out.2.2.1 HEI.out.2.2.2 rfl (by decide) _ N0 _ rfl (own_drew Ob.out) ad x.cells.length sc (x.cells.map (Value.int .i64)) rfl (by simp) ?c1 ?c2 ?c3 ?c4 ?c5 ?_)
                      case c1 =>
                        intro j u hj
                        rcases HS4.out with h0 | ⟨bb, oo, ha, hcc⟩
                        · rw [h0] at hj; simp at hj
                        · have ha := Option.some.inj ha
                          rw [ha, Addr.add_lit]
                          rw [List.getElem?_map] at hj
                          obtain ⟨v, hv, rfl⟩ := Option.map_eq_some_iff.1 hj
                          exact cell_below (below_next Cb.out (below_drew _)) (hcc j v hv)
                      case c2 => intro u hu; obtain ⟨v, _, rfl⟩ := List.mem_map.1 hu; rfl
                      case c3 => unfold maxLen; omega
                      case c4 => omega
                      case c5 => exact Zb.out
                      intro v' w' hown' hgrow _
                      obtain ⟨wa, wn, wc, rfl⟩ := own_shape hown'
                      have hgb : Wb.grownBy w' (Value.slice va vn vc).ownBlock := ⟨hgrow.os, hgrow.tape, hgrow.output, hgrow.size, hgrow.block⟩
                      have Cc := hide (Cb.out.grown hgb Cb.out.size (fun k hk => by have := (World.ownsRow.lt Ob.out k hk).1; have := LB.out; omega))
                      have hBo : some B ≠ (Value.slice va vn vc).ownBlock := fun q => by have := (World.ownsRow.lt Ob.out B q.symm).1; omega
                      have hlB : B < Wb.heap.size := by have := Zb.out; omega
                      have Uc : Hid (Mut w' B (S + x.rows) x.cols (.slice va vn vc)) := ⟨⟨hgb.cell Ub.out.t.1 hBo, hgb.cell Ub.out.t.2.1 hBo, hgb.cell Ub.out.t.2.2 hBo⟩, fun j => grown_frozen hgb (Ub.out.f j) hlB hBo⟩
                      have HO2 := hide hown'
                      have HSZ := hide (show B + 1 ≤ w'.heap.size from Nat.le_trans Zb.out hgb.size)
                      obtain ⟨y0, y1, y2⟩ := Uc.out.t
                      have y3 := Uc.out.f 0
                      have y4 := Uc.out.f 1
                      have y5 := Uc.out.f 2
                      clear hown' hgrow hgb hBo hlB z0 z1 z2 z3 z4 z5 d0 d1 d2
                      go_wp2
                      go_roundw
                      case rel => exact ⟨k3 + 1, x.cols, .slice wa wn wc, by omega, by go_num, Cc.out.setCell LB.out _, by rw [take_snoc HX.out, sumR_snoc, HS.out]; exact Uc.out.set2 _, by rw [take_snoc HX.out, catC_snoc, List.length_append, List.map_append, HN0.out]; exact own_set HO2.out (by omega) _ _, by rw [size_set]; exact HSZ.out, .inr (HG.out.2.1 x (List.mem_of_getElem? HX.out))⟩
                      case measure => simp [intOf]; omega
                  · have hge3 : ¬ (k3 : Int) < (n : Int) := by omega
                    have hkn : k3 = n := by omega
                    have htk : ms.take k3 = ms := List.take_of_length_le (by have := HN.out; omega)
                    rw [htk] at HS HO
                    have hck : cK = y.cols := HZ.out.2.resolve_left (by omega)
                    have HCK := hide hck
                    clear hkn htk hck
                    by_cases h24 : 24 < S
                    · have HSE := hide (show stackE ms = 3 by unfold stackE; rw [if_neg (by simp [HFS.out]), if_neg (by simp [HSC.out]), if_pos (by rw [HS.out]; exact h24)])
                      obtain ⟨y00, y01, y02⟩ := Uw.out.t
                      have y03 := Uw.out.f 0
                      have y04 := Uw.out.f 1
                      have y05 := Uw.out.f 2
                      replace C := hide (below_set3 C.out LB.out (.int .i64 0) (.int .i64 0) (.slice none 0 0))
                      replace Uw := hide (Uw.out.set 0 0 (.slice none 0 0))
                      have HX := hide (error_same (k := stackE ms) (n := 3) HSE.out _ (HH.out.below C.out))
                      obtain ⟨zm0, zm1, zm2⟩ := Tm.out.below C.out
                      obtain ⟨zw0, zw1, zw2⟩ := Uw.out.t
                      have zw3 := Uw.out.f 0
                      have zw4 := Uw.out.f 1
                      have zw5 := Uw.out.f 2
                      go_wp2_with fail
                      refine HX.out.mono ?_
                      rintro e u2 ⟨rfl, hb⟩
                      replace C := hide (below_next C.out hb)
                      replace Uw := hide (Uw.out.below hb)
                      clear HX hb zm0 zm1 zm2 zw0 zw1 zw2 zw3 zw4 zw5 y00 y01 y02 y03 y04 y05
                      have HX := hide (matrices_any _ _ P noMx _ (Mm.out.below C.out) (isMx_no _))
                      obtain ⟨zm0, zm1, zm2⟩ := Tm.out.below C.out
                      obtain ⟨zw0, zw1, zw2⟩ := Uw.out.t
                      have zw3 := Uw.out.f 0
                      have zw4 := Uw.out.f 1
                      have zw5 := Uw.out.f 2
                      go_wp2_with fail
                      refine HX.out.mono ?_
                      rintro e u3 ⟨rfl, hb⟩
                      rw [show sameM P noMx = true by rw [← HP.out, stackX_no (by rw [HSE.out]; decide)]; exact sameM_refl _]
                      replace C := hide (below_next C.out hb)
                      replace Uw := hide (Uw.out.below hb)
                      clear HX hb zm0 zm1 zm2 zw0 zw1 zw2 zw3 zw4 zw5
                      obtain ⟨zm0, zm1, zm2⟩ := Tm.out.below C.out
                      obtain ⟨zw0, zw1, zw2⟩ := Uw.out.t
                      have zw3 := Uw.out.f 0
                      have zw4 := Uw.out.f 1
                      have zw5 := Uw.out.f 2
                      go_wp2
                      go_ret
                      exact ⟨rfl, below_next WW.out C.out⟩
                    · have HSE := hide (show stackE ms = 0 by unfold stackE; rw [if_neg (by simp [HFS.out]), if_neg (by simp [HSC.out]), if_neg (by rw [HS.out]; exact h24)])
                      have hln := catC_len (l := ms) (fun x hx => HG.out.1 x hx)
                      have hln2 := HMX.out
                      have hlm : (catC ms).length ≤ maxLen := by unfold maxLen; omega
                      have HPE := HP.out
                      unfold stackX at HPE
                      rw [if_pos HSE.out, head_at HG.out.2.2, HS.out] at HPE
                      have MW := hide (show IsMx wr (.agg #[.int .i64 S, .int .i64 cK, .slice va vn vc]) P from ⟨_, by rw [← HPE, HCK.out], by rw [← HPE]; exact own_ints HO.out hlm⟩)
                      clear hln hln2 hlm HPE
                      have HX := hide (error_same (k := stackE ms) (n := 0) HSE.out _ (HH.out.below C.out))
                      obtain ⟨zm0, zm1, zm2⟩ := Tm.out.below C.out
                      obtain ⟨zw0, zw1, zw2⟩ := Uw.out.t
                      have zw3 := Uw.out.f 0
                      have zw4 := Uw.out.f 1
                      have zw5 := Uw.out.f 2
                      go_wp2_with fail
                      refine HX.out.mono ?_
                      rintro e u2 ⟨rfl, hb⟩
                      replace MW := hide (MW.out.below hb)
                      replace C := hide (below_next C.out hb)
                      replace Uw := hide (Uw.out.below hb)
                      clear HX hb zm0 zm1 zm2 zw0 zw1 zw2 zw3 zw4 zw5
                      have HX := hide (matrices_any _ _ P P _ (Mm.out.below C.out) MW.out)
                      obtain ⟨zm0, zm1, zm2⟩ := Tm.out.below C.out
                      obtain ⟨zw0, zw1, zw2⟩ := Uw.out.t
                      have zw3 := Uw.out.f 0
                      have zw4 := Uw.out.f 1
                      have zw5 := Uw.out.f 2
                      go_wp2_with fail
                      refine HX.out.mono ?_
                      rintro e u3 ⟨rfl, hb⟩
                      rw [sameM_refl]
                      replace C := hide (below_next C.out hb)
                      replace Uw := hide (Uw.out.below hb)
                      clear HX hb zm0 zm1 zm2 zw0 zw1 zw2 zw3 zw4 zw5
                      obtain ⟨zm0, zm1, zm2⟩ := Tm.out.below C.out
                      obtain ⟨zw0, zw1, zw2⟩ := Uw.out.t
                      have zw3 := Uw.out.f 0
                      have zw4 := Uw.out.f 1
                      have zw5 := Uw.out.f 2
                      go_wp2
                      go_ret
                      exact ⟨rfl, below_next WW.out C.out⟩
              · have HSE := hide (show stackE ms = 2 by unfold stackE; rw [if_neg (by simp [HFS.out]), if_pos hsc])
                clear hsc
                go_wp2
                go_loopw [9] (fun iv ww => iv = .int .i64 0 ∧ ww = wr) (fun _ _ => 0)
                case atStart => exact ⟨rfl, rfl⟩
                case round =>
                  obtain ⟨rfl, rfl⟩ := hrel
                  obtain ⟨y00, y01, y02⟩ := Uw.out.t
                  have y03 := Uw.out.f 0
                  have y04 := Uw.out.f 1
                  have y05 := Uw.out.f 2
                  replace C := hide (below_set3 C.out LB.out (.int .i64 0) (.int .i64 0) (.slice none 0 0))
                  replace Uw := hide (Uw.out.set 0 0 (.slice none 0 0))
                  have HX := hide (error_same (k := stackE ms) (n := 2) HSE.out _ (HH.out.below C.out))
                  obtain ⟨zm0, zm1, zm2⟩ := Tm.out.below C.out
                  obtain ⟨zw0, zw1, zw2⟩ := Uw.out.t
                  have zw3 := Uw.out.f 0
                  have zw4 := Uw.out.f 1
                  have zw5 := Uw.out.f 2
                  go_wp2_with fail
                  refine HX.out.mono ?_
                  rintro e u2 ⟨rfl, hb⟩
                  replace C := hide (below_next C.out hb)
                  replace Uw := hide (Uw.out.below hb)
                  clear HX hb zm0 zm1 zm2 zw0 zw1 zw2 zw3 zw4 zw5 y00 y01 y02 y03 y04 y05
                  have HX := hide (matrices_any _ _ P noMx _ (Mm.out.below C.out) (isMx_no _))
                  obtain ⟨zm0, zm1, zm2⟩ := Tm.out.below C.out
                  obtain ⟨zw0, zw1, zw2⟩ := Uw.out.t
                  have zw3 := Uw.out.f 0
                  have zw4 := Uw.out.f 1
                  have zw5 := Uw.out.f 2
                  go_wp2_with fail
                  refine HX.out.mono ?_
                  rintro e u3 ⟨rfl, hb⟩
                  rw [show sameM P noMx = true by rw [← HP.out, stackX_no (by rw [HSE.out]; decide)]; exact sameM_refl _]
                  replace C := hide (below_next C.out hb)
                  replace Uw := hide (Uw.out.below hb)
                  clear HX hb zm0 zm1 zm2 zw0 zw1 zw2 zw3 zw4 zw5
                  obtain ⟨zm0, zm1, zm2⟩ := Tm.out.below C.out
                  obtain ⟨zw0, zw1, zw2⟩ := Uw.out.t
                  have zw3 := Uw.out.f 0
                  have zw4 := Uw.out.f 1
                  have zw5 := Uw.out.f 2
                  go_wp2
                  go_ret
                  exact ⟨rfl, below_next WW.out C.out⟩
      · have HNZ := hide hz
        have HSE := hide (show stackE ms = F by unfold stackE; rw [if_pos (by rw [HFS.out]; exact HNZ.out)]; exact HFS.out)
        have hn0' : (0 : Int) < (n : Int) := by
          rcases Nat.eq_zero_or_pos n with h | h
          · exact absurd (by have q : ms = [] := List.eq_nil_of_length_eq_zero (HN.out.trans h); rw [← HFS.out, q]; rfl) HNZ.out
          · omega
        have hw0 : wr.heap.size = wr.heap.size := by simp
        clear hw0
        have LB : Hid (_ ≤ wr.heap.size) := hide (Nat.le_trans C.out.size (Nat.le_of_eq (by simp)))
        have Uw := hide (Mut.newB wr 0 0 (.slice none 0 0) 24 (B := wr.heap.size) (by simp))
        replace C := hide (below_next C.out (below_one wr (.cells #[.int .i64 0, .int .i64 0, .slice none 0 0] 24)))
        go_wp2
        go_loopw [5, 8] (fun ev iv ww => ev = .int .i64 F ∧ iv = .int .i64 0 ∧ ww = (wr.alloc (.cells #[.int .i64 0, .int .i64 0, .slice none 0 0] 24))) (fun _ _ _ => 0)
        case atStart => exact ⟨rfl, rfl, rfl⟩
        case round =>
          obtain ⟨rfl, rfl, rfl⟩ := hrel
          go_wp2
          go_loopw [9] (fun iv ww => iv = .int .i64 0 ∧ ww = (wr.alloc (.cells #[.int .i64 0, .int .i64 0, .slice none 0 0] 24))) (fun _ _ => 0)
          case atStart => exact ⟨rfl, rfl⟩
          case round =>
            obtain ⟨rfl, rfl⟩ := hrel
            have HX := hide (error_same (k := stackE ms) (n := F) HSE.out _ (HH.out.below C.out))
            obtain ⟨zm0, zm1, zm2⟩ := Tm.out.below C.out
            obtain ⟨zw0, zw1, zw2⟩ := Uw.out.t
            have zw3 := Uw.out.f 0
            have zw4 := Uw.out.f 1
            have zw5 := Uw.out.f 2
            go_wp2_with fail
            refine HX.out.mono ?_
            rintro e u2 ⟨rfl, hb⟩
            replace C := hide (below_next C.out hb)
            replace Uw := hide (Uw.out.below hb)
            clear HX hb zm0 zm1 zm2 zw0 zw1 zw2 zw3 zw4 zw5
            have HX := hide (matrices_any _ _ P noMx _ (Mm.out.below C.out) (isMx_no _))
            obtain ⟨zm0, zm1, zm2⟩ := Tm.out.below C.out
            obtain ⟨zw0, zw1, zw2⟩ := Uw.out.t
            have zw3 := Uw.out.f 0
            have zw4 := Uw.out.f 1
            have zw5 := Uw.out.f 2
            go_wp2_with fail
            refine HX.out.mono ?_
            rintro e u3 ⟨rfl, hb⟩
            rw [show sameM P noMx = true by rw [← HP.out, stackX_no (by rw [HSE.out]; exact HNZ.out)]; exact sameM_refl _]
            replace C := hide (below_next C.out hb)
            replace Uw := hide (Uw.out.below hb)
            clear HX hb zm0 zm1 zm2 zw0 zw1 zw2 zw3 zw4 zw5
            obtain ⟨zm0, zm1, zm2⟩ := Tm.out.below C.out
            obtain ⟨zw0, zw1, zw2⟩ := Uw.out.t
            have zw3 := Uw.out.f 0
            have zw4 := Uw.out.f 1
            have zw5 := Uw.out.f 2
            go_wp2
            go_ret
            exact ⟨rfl, below_next WW.out C.out⟩
end Go.Proofs.YtpgmbpgclnhkgabDoor
