/- What tail of package wire's reader comes to, and Decode. -/
import Derived.Test.YtaajlggpjholeahDoorWrMs
import Derived.Test.YtaajlggpjholeahDoorWrC3
import Derived.Deep.RegionHeld3
import Derived.ChangeKeysEq
namespace Go.Proofs.YtaajlggpjholeahDoor
open Go.RowKit
theorem wy_drew {B : Nat} {w W : World} (h : Below B w W) : Below B w W.drew := h.drew
theorem wy_go {w W W' : World} (h : Below w.heap.size w W) (k : Below W.heap.size W W') : Below w.heap.size w W' := bel_on h k
theorem eq_two (s0 s1 b0 b1 : Int) (W : World) : (Op.equalIn 10000 60 (.agg #[.int .u8 s0, .int .u8 s1]) (.agg #[.int .u8 b0, .int .u8 b1])).run Tryd.prog W = .ok (decide (s0 = b0 ∧ s1 = b1)) W := by
  obtain ⟨i, hi, hz0, hz1, hz2⟩ := info_parts infoByte
  have hu : Tryd.prog.underlying 5 = some (.int .u8) := by kernel_rfl
  rw [run_equalIn_array (P := Tryd.prog) (w := W) 9999 (t := 60) (e := 5) (n := 2) _ _ (by kernel_rfl) hi, show Tryd.prog.cellsOf 5 = 1 by kernel_rfl]
  simp [List.range_succ, Op.eqItems, go_sem]
  by_cases h0 : s0 = b0 <;> by_cases h1 : s1 = b1 <;> simp [*]
theorem pair_of {l : List Int} (h : l.length = 2) : ∃ a b, l = [a, b] := by
  match l, h with
  | [a, b], _ => exact ⟨a, b, rfl⟩
theorem wsums_at {v : Value} {l : List Int} {w0 : World} {s0 s1 : Int} (hv : IsBys w0 v l) (hs : sumsG 0 0 l = [s0, s1]) (W : World) (hb : Below w0.heap.size w0 W) : Calls Tryd.prog 24 #[v] W fun e w' => e = .returned (.agg #[.int .u8 s0, .int .u8 s1]) ∧ Below W.heap.size W w' := by
  refine (wsums_any v l W (hv.below hb)).mono ?_
  rintro e w' ⟨t0, t1, rfl, h1, _, _, _, _, h2⟩
  rw [hs] at h1
  injection h1 with e0 h1
  injection h1 with e1
  subst e0 e1
  exact ⟨rfl, h2⟩
def TailEnd (w w' : World) (B : Nat) (v : Value) (l : List Int) (a : Nat) (e : Ending) : Prop := w.grownBy w' (some B) ∧ ((e = .returned (.bool false) ∧ ∀ k mi m, rdEnd l k mi m (l.drop a) = none) ∨ (e = .returned (.bool true) ∧ a + 2 ≤ l.length ∧ WBk w' B #[v, .int .i64 ((a + 2 : Nat) : Int)] 67 ∧ ∀ k mi m, msgF k mi m = 0 → rdEnd l k mi m (l.drop a) = some ((k, mi, m), a + 2)))
theorem rdEnd_none {l : List Int} {k mi : Int} {m : Mx} {a : Nat} {b0 b1 : Int} (h0 : l[a]? = some b0) (h1 : l[a + 1]? = some b1) (hs : sumsG 0 0 (l.take a) ≠ [b0, b1]) : rdEnd l k mi m (l.drop a) = none := by
  by_cases h : msgF k mi m = 0
  · rw [rdEnd_at h h0 h1, if_neg hs]
  · exact rdEnd_bad h
set_option maxHeartbeats 16000000 in
set_option maxRecDepth 100000 in
theorem wtail_any (v : Value) (l : List Int) (B a : Nat) (xa : Int) (w0 w : World) (hv : IsBys w0 v l) (h0 : Below w0.heap.size w0 w) (hB : WBk w B #[v, .int .i64 xa] 67) (hxa : xa = (a : Int)) (ha : a ≤ l.length) : Calls Tryd.prog 30 #[.pointer (some ⟨B, 0, none⟩)] w (fun e w' => TailEnd w w' B v l a e) := by
  have hvw := hv.below h0
  have hlen := hv.len
  unfold maxLen at hlen
  obtain ⟨va, vn, vk, rfl⟩ : ∃ a n k, v = .slice a n k := by obtain ⟨a, k, h⟩ := hv.shape; exact ⟨a, _, k, h⟩
  obtain ⟨ra, rn, rk, hsl, hri⟩ := by_l hvw a xa hxa ha
  obtain ⟨pa, pn, pk, hsh, hpi⟩ := by_h hvw a xa hxa ha
  have HTL := hide (show rn = l.length - a by obtain ⟨_, _, e, _⟩ := hri; injection e with _ e2; rw [e2, List.length_drop])
  have c0 := hB.c (i := 0) rfl
  have c1 := hB.c (i := 1) rfl
  have hx0 : 0 ≤ xa := by omega
  obtain ⟨wd, hwd⟩ : ∃ x, x = w.drew := ⟨_, rfl⟩
  have HRI := hide (show IsBys wd (.slice ra rn rk) (l.drop a) by rw [hwd]; exact hri)
  have HPI := hide (show IsBys wd (.slice pa pn pk) (l.take a) by rw [hwd]; exact hpi)
  have HBD := hide (show WBk wd B #[.slice va vn vk, .int .i64 xa] 67 by rw [hwd]; exact hB)
  have HGD := hide (show w.grownBy wd (some B) by rw [hwd]; exact ⟨rfl, rfl, rfl, Nat.le_refl _, fun _ _ _ => rfl⟩)
  have HWD := hide hwd
  have HXA := hide hxa
  have HA := hide ha
  have HLN := hide hlen
  clear hv h0 hB hri hpi hvw hwd hxa ha hlen
  by_cases c2 : rn < 2
  · have HNO := hide (show ∀ k mi m, rdEnd l k mi m (l.drop a) = none from fun k mi m => rdEnd_short (by rw [List.length_drop, ← HTL.out]; exact c2))
    have c2' : (rn : Int) < 2 := by omega
    go_enter Tryd.func30, Tryd.ntmps30
    go_wp2
    go_region
    go_wp2
    go_region
    go_wp2
    go_ret
    exact ⟨⟨rfl, rfl, rfl, Nat.le_refl _, fun _ _ _ => rfl⟩, .inl ⟨rfl, HNO.out⟩⟩
  · have hl2 : a + 2 ≤ l.length := by have := HTL.out; omega
    have c2' : ¬ (rn : Int) < 2 := by omega
    obtain ⟨b0, hb0⟩ : ∃ d, l[a]? = some d := ⟨_, List.getElem?_eq_getElem (by omega)⟩
    obtain ⟨b1, hb1⟩ : ∃ d, l[a + 1]? = some d := ⟨_, List.getElem?_eq_getElem (by omega)⟩
    obtain ⟨s0, s1, hsu⟩ := pair_of (sumsG_len 0 0 (l.take a))
    obtain ⟨_, _, er, _, _, hby, hcs⟩ := HRI.out
    injection er with er1 er2 er3
    subst er1 er3
    obtain ⟨rb, ro, hra, hcc⟩ := hcs.resolve_left (fun e => by have := congrArg List.length e; rw [List.length_drop] at this; simp at this; omega)
    subst hra
    have q0 : wd.cell? ⟨rb, ro, none⟩ = some (.int .u8 b0) := hcc 0 b0 (by rw [List.getElem?_drop, Nat.add_zero]; exact hb0)
    have q1 : wd.cell? ⟨rb, ro + 1, none⟩ = some (.int .u8 b1) := hcc 1 b1 (by rw [List.getElem?_drop]; exact hb1)
    have HCE := hide (show ∀ W', Below wd.heap.size wd W' → W'.cell? ⟨rb, ro, none⟩ = some (.int .u8 b0) ∧ W'.cell? ⟨rb, ro + 1, none⟩ = some (.int .u8 b1) from fun W' hb => ⟨cell_below hb q0, cell_below hb q1⟩)
    have HSU := hide (show ∀ W', Below wd.heap.size wd W' → _ from fun W' hb => wsums_at HPI.out hsu W' hb)
    have HSE := hide hsu
    have HB01 := hide (And.intro hb0 hb1)
    have HL2 := hide hl2
    clear hby hcs hcc er2 hb0 hb1 hsu q0 q1 hl2
    go_enter Tryd.func30, Tryd.ntmps30
    go_wp2
    go_region
    rw [← HWD.out]
    go_wp2
    obtain ⟨q, hq⟩ : ∃ q, decide (s0 = b0 ∧ s1 = b1) = q := ⟨_, rfl⟩
    have HQ := hide hq
    have heq := eq_two s0 s1 b0 b1
    rw [hq] at heq
    have hdec : decide ((rn : Int) < 2) = false := by simp; omega
    have k0 : (0 : Int) < (rn : Int) := by omega
    have k1 : (1 : Int) < (rn : Int) := by omega
    have k2 : 0 < rn := by omega
    have k3 : 1 < rn := by omega
    clear hq
    go_cut [37] from 23 to 37 (fun c wx => c = .bool (!q) ∧ Below wd.heap.size wd wx)
    case first =>
      obtain ⟨lm1, lm2⟩ := HCE.out wd (Below.refl _ _)
      go_region_held3 (fun W' => W'.cell? ⟨rb, ro, none⟩ = some (.int .u8 b0) ∧ W'.cell? ⟨rb, ro + 1, none⟩ = some (.int .u8 b1))
        ((refine HCE.out _ ?_; repeat' (first | with_reducible exact Below.refl _ _ | with_reducible refine wy_drew ?_ | with_reducible refine wy_go ?_ hbz)))
        ((go_at_call 24; refine (HSU.out _ (by repeat' (first | with_reducible exact Below.refl _ _ | with_reducible refine wy_drew ?_))).mono ?_; rintro e wz ⟨rfl, hbz⟩))
      all_goals go_wp2
      all_goals go_meet
      all_goals
        refine ⟨rfl, ?_⟩
        repeat' (first | with_reducible exact Below.refl _ _ | with_reducible refine wy_drew ?_ | with_reducible refine wy_go ?_ hbz)
    case rest =>
      obtain ⟨rfl, hbc⟩ := hcut
      have HBC := hide hbc
      have HKC := hide (HBD.out.kept hbc)
      have HGC := hide (grw_bel HGD.out hbc (HGD.out.size))
      have d0 := HKC.out.c (i := 1) rfl
      have d1 := HKC.out.f 1
      clear hbc
      cases q with
      | true =>
        have HE := hide (show sumsG 0 0 (l.take a) = [b0, b1] by have h := HQ.out; rw [decide_eq_true_iff] at h; rw [HSE.out, h.1, h.2])
        have HAX := hide (show xa + 2 = ((a + 2 : Nat) : Int) by have := HXA.out; omega)
        have hxb : xa + 2 ≤ 9223372036854775807 := by have := HL2.out; have := HXA.out; have := HLN.out; omega
        have HF := hide (HKC.out.set 1 (.int .i64 (xa + 2)))
        go_wp2
        go_ret
        refine ⟨grw_trans HGC.out (grw_set _ B 1 _) (fun k e => .inr (Option.some.inj e).symm), .inr ⟨rfl, HL2.out, ?_, fun k mi m hm => ?_⟩⟩
        · rw [← HAX.out]; exact HF.out
        · rw [rdEnd_at hm HB01.out.1 HB01.out.2, if_pos HE.out]
      | false =>
        have HE := hide (show sumsG 0 0 (l.take a) ≠ [b0, b1] by
          have h := HQ.out
          rw [decide_eq_false_iff_not] at h
          rw [HSE.out]
          intro e
          injection e with e1 e2
          injection e2 with e2
          exact h ⟨e1, e2⟩)
        go_wp2
        go_ret
        exact ⟨HGC.out, .inl ⟨rfl, fun k mi m => rdEnd_none HB01.out.1 HB01.out.2 HE.out⟩⟩
end Go.Proofs.YtaajlggpjholeahDoor
