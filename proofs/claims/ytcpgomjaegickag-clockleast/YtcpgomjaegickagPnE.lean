/- What goesBackInOrder and Even of package plan come to. -/
import Derived.Test.YtcpgomjaegickagPnC
namespace Go.Proofs.Ytcpgomjaegickag
open Go.RowKit
/-- Are the Backwards those of the parts from k on, in their order? -/
def gob : Int → List (Int × Int) → Bool
  | _, [] => true
  | k, a :: t => if a.1 = 2 then (if a.2 = k then gob (k + 1) t else false) else gob k t
theorem gob_drop {l : List (Int × Int)} {i : Nat} {a : Int × Int} (h : l[i]? = some a) (k : Int) : gob k (l.drop i) = if a.1 = 2 then (if a.2 = k then gob (k + 1) (l.drop (i + 1)) else false) else gob k (l.drop (i + 1)) := by
  obtain ⟨hi, rfl⟩ := List.getElem?_eq_some_iff.1 h
  rw [List.drop_eq_getElem_cons hi]
  rfl
theorem evenA_low : ∀ {t : List (Int × Int)} {x last : Int}, (2, x) ∈ t → x < last → evenA last t = false
  | [], x, last, h, _ => by simp at h
  | a :: t, x, last, h, hx => by
    unfold evenA
    by_cases c : a.1 = 2 ∧ a.2 < last
    · rw [if_pos c]
    · rw [if_neg c]
      rcases List.mem_cons.1 h with e | h
      · exact absurd ⟨by rw [← e], by rw [← e]; exact hx⟩ c
      · refine evenA_low h ?_
        by_cases d : a.1 = 2
        · rw [if_pos d]
          have : ¬ a.2 < last := fun q => c ⟨d, q⟩
          omega
        · rw [if_neg d]; exact hx
theorem gob_even {m : Int} : ∀ {t : List (Int × Int)} {k last : Int}, t.Nodup → (∀ x, (2, x) ∈ t → k ≤ x ∧ x < m) → (∀ x, k ≤ x → x < m → (2, x) ∈ t) → last ≤ k → gob k t = evenA last t
  | [], k, last, _, _, _, _ => rfl
  | (ak, y) :: t, k, last, hn, h1, h2, hl => by
    obtain ⟨n1, n2⟩ := List.nodup_cons.1 hn
    unfold gob evenA
    dsimp only
    by_cases c : ak = 2
    · subst c
      obtain ⟨y1, y2⟩ := h1 y (by simp)
      rw [if_pos rfl, if_pos rfl, if_neg (show ¬ ((2 : Int) = 2 ∧ y < last) from fun e => by have := e.2; omega)]
      by_cases d : y = k
      · subst d
        rw [if_pos rfl]
        refine gob_even (m := m) n2 (fun x hx => ?_) (fun x hx1 hx2 => ?_) (by omega)
        · have := h1 x (by simp [hx])
          have : x ≠ y := fun e => n1 (by rw [← e]; exact hx)
          omega
        · rcases List.mem_cons.1 (h2 x (by omega) hx2) with e | e
          · have := (Prod.mk.inj e).2; omega
          · exact e
      · rw [if_neg d, eq_comm]
        refine evenA_low (x := k) ?_ (by omega)
        rcases List.mem_cons.1 (h2 k (by omega) (by omega)) with e | e
        · exact absurd (Prod.mk.inj e).2.symm d
        · exact e
    · rw [if_neg c, if_neg (fun e => c e.1), if_neg c]
      refine gob_even (m := m) n2 (fun x hx => h1 x (by simp [hx])) (fun x hx1 hx2 => ?_) hl
      rcases List.mem_cons.1 (h2 x hx1 hx2) with e | e
      · exact absurd (Prod.mk.inj e).1.symm c
      · exact e
theorem gob_ok {l : List (Int × Int)} {m : Nat} (h : actsE l (m : Int) = 0) : gob 0 l = evenA (-1) l := by
  obtain ⟨q1, q2, q3, _⟩ := actsE_in h
  refine gob_even (m := (m : Int)) (apart_nodup q2) (fun x hx => ?_) (fun x hx1 hx2 => ?_) (by decide)
  · obtain ⟨_, _, r3, r4⟩ := q1 _ hx
    exact ⟨r3, r4⟩
  · exact act_in q1 q2 q3 ⟨show (1 : Int) ≤ 2 by decide, Int.le_refl 2, hx1, hx2⟩
set_option maxHeartbeats 16000000 in
set_option maxRecDepth 100000 in
theorem gob_any (v : Value) (l : List (Int × Int)) (w : World) (hv : IsActs w v l) : Calls Try.prog 19 #[v] w fun e w' => e = .returned (.bool (gob 0 l)) ∧ Below w.heap.size w w' := by
  have hlen := hv.len
  unfold maxLen at hlen
  obtain ⟨a, cap, rfl, h2, h3, h4⟩ := hv
  obtain ⟨n, hn⟩ : ∃ n, l.length = n := ⟨_, rfl⟩
  have HN := hide hn
  have H4 := hide h4
  rw [hn] at h2 hlen ⊢
  clear hn h4
  go_enter Try.func19, Try.ntmps19
  go_wp2
  go_loopw [3, 8] (fun pv iv wr => ∃ (k : Nat) (xi pt : Int), k ≤ n ∧ xi = (k : Int) ∧ iv = .int .i64 xi ∧ pv = .int .i64 pt ∧ 0 ≤ pt ∧ pt ≤ xi ∧ Below w.heap.size w wr ∧ gob 0 l = gob pt (l.drop k)) (fun _ iv _ => n - (intOf iv).toNat)
  case atStart => exact ⟨0, 0, 0, Nat.zero_le _, rfl, rfl, rfl, Int.le_refl 0, Int.le_refl 0, Below.refl _ _, rfl⟩
  case round =>
    obtain ⟨k, xi, pt, hk, hxi, rfl, rfl, hp0, hp1, hb, he⟩ := hrel
    have HB := hide hb
    have HE := hide he
    have HXI := hide hxi
    have hx0 : 0 ≤ xi := by omega
    have hx1 : xi ≤ 9223372036854775807 := by omega
    have HP := hide (And.intro hp0 hp1)
    clear hb he hxi
    by_cases hlt : xi < (n : Int)
    · obtain ⟨x, hx⟩ := act_at (l := l) (i := k) (by have := HN.out; have := HXI.out; omega)
      obtain ⟨b2, off, ha, hcl⟩ := H4.out.resolve_left (fun e => by rw [e] at hx; simp at hx)
      subst ha
      obtain ⟨d1, d2⟩ := hcl k x hx
      have hdr := gob_drop hx pt
      rw [show k = xi.toNat by have := HXI.out; omega] at d1 d2
      obtain ⟨ak, am⟩ := x
      dsimp only at d1 d2 hdr
      replace d1 := cell_bel HB.out d1
      replace d2 := cell_bel HB.out d2
      have HBA := hide (below_go HB.out (below_one wr (.cells #[.int .i64 ak, .int .i64 am] 34)))
      rw [← HE.out] at hdr
      have HDR := hide hdr
      clear hcl hx hdr
      by_cases e1 : ak = 2
      · have n1 : (ak != 2) = false := by simp [e1]
        by_cases e2 : am = pt
        · have HU := hide (show gob 0 l = gob (pt + 1) (l.drop (k + 1)) by rw [HDR.out, if_pos e1, if_pos e2])
          have n2 : (am != pt) = false := by simp [e2]
          clear e1 e2
          go_wp2
          go_roundw
          case rel => exact ⟨k + 1, _, _, by have := HXI.out; omega, by have := HXI.out; omega, rfl, rfl, by have := HP.out; omega, by have := HP.out; omega, HBA.out, HU.out⟩
          case measure => have := HXI.out; simp [intOf]; omega
        · have HA := hide (show false = gob 0 l by rw [HDR.out, if_pos e1, if_neg e2])
          have n2 : (am != pt) = true := by simpa using e2
          clear e1 e2
          go_wp2
          go_ret
          exact ⟨ret_bool HA.out, HBA.out⟩
      · have n1 : (ak != 2) = true := by simpa using e1
        have HU := hide (show gob 0 l = gob pt (l.drop (k + 1)) by rw [HDR.out, if_neg e1])
        clear e1
        go_wp2
        go_roundw
        case rel => exact ⟨k + 1, _, _, by have := HXI.out; omega, by have := HXI.out; omega, rfl, rfl, HP.out.1, by have := HP.out; omega, HBA.out, HU.out⟩
        case measure => have := HXI.out; simp [intOf]; omega
    · have HA := hide (show true = gob 0 l by rw [HE.out, List.drop_of_length_le (by have := HN.out; have := HXI.out; omega)]; rfl)
      go_wp2
      go_ret
      exact ⟨ret_bool HA.out, HB.out⟩
/-- Is it even? Check comes first. -/
def evenX (p : List (List (Int × Int))) (m : Int) : Bool := if planE p m = 0 then evenB p else false
set_option maxHeartbeats 16000000 in
set_option maxRecDepth 100000 in
theorem peven_any (v : Value) (p : List (List (Int × Int))) (m : Int) (w : World) (hv : IsPlan w v p) : Calls Try.prog 10 #[v, .int .i64 m] w fun e w' => e = .returned (.tuple #[.bool (evenX p m), errV (planE p m)]) ∧ Below w.heap.size w w' := by
  have hlen := hv.len
  unfold maxLen at hlen
  have HF := hide (pcheck_any v p m w hv)
  obtain ⟨a, cap, rfl, h2, h3, h4⟩ := hv
  obtain ⟨n, hn⟩ : ∃ n, p.length = n := ⟨_, rfl⟩
  have HN := hide hn
  obtain ⟨E, hE⟩ : ∃ E, planE p m = E := ⟨_, rfl⟩
  rw [hE] at HF ⊢
  by_cases c1 : E = 0
  · subst c1
    rw [err_eq rfl] at HF ⊢
    obtain ⟨q1, q2, q3⟩ := planE_in hE
    unfold rangeP at q1
    rw [hn] at q1
    have HQ := hide q2
    have HEE := hide hE
    obtain ⟨M, hM⟩ : ∃ M : Nat, m = (M : Int) := ⟨m.toNat, by omega⟩
    have HM := hide hM
    obtain ⟨b, off, ha, hcl⟩ := h4.resolve_left (fun e => by rw [e] at hn; simp at hn; omega)
    subst ha
    have HP := hide (fun (W : World) (hb : Below w.heap.size w W) (s : Nat) (hs : s < n) => plan_cell hcl W hb (s := s) (by rw [hn]; exact hs))
    rw [hn] at h2 hlen HF ⊢
    clear hcl h4 hn hE hM q1 q2 q3
    go_enter Try.func10, Try.ntmps10
    go_wp2_with (go_at_call 12; refine HF.out.mono ?_; rintro e w0 ⟨rfl, hb0⟩)
    have HB0 := hide hb0
    clear hb0
    go_loopw [17] (fun sv wr => ∃ (k : Nat) (xi : Int), k ≤ n ∧ xi = (k : Int) ∧ sv = .int .i64 xi ∧ Below w.heap.size w wr ∧ ∀ j l, j < k → p[j]? = some l → evenA (-1) l = true) (fun sv _ => n - (intOf sv).toNat)
    case atStart => exact ⟨0, 0, Nat.zero_le _, rfl, rfl, HB0.out, fun j l hj _ => by omega⟩
    case round =>
      obtain ⟨k, xi, hk, hxi, rfl, hb, he⟩ := hrel
      have HB := hide hb
      have HE := hide he
      have HXI := hide hxi
      have hx0 : 0 ≤ xi := by omega
      have hx1 : xi ≤ 9223372036854775807 := by omega
      clear hb he hxi
      by_cases hlt : xi < (n : Int)
      · obtain ⟨la, lc, hce, hac⟩ := HP.out wr HB.out k (by have := HXI.out; omega)
        rw [show k = xi.toNat by have := HXI.out; omega] at hce
        obtain ⟨l, hl⟩ := stage_at (p := p) (i := k) (by have := HN.out; have := HXI.out; omega)
        have HL := hide hl
        have HC := hide (gob_any _ (stA p k) wr hac)
        rw [stA_at hl, gob_ok (m := M) (by rw [← HM.out]; exact stagesE_in HQ.out k l hl)] at HC
        rw [show (stA p xi.toNat).length = (stA p k).length by rw [show xi.toNat = k by have := HXI.out; omega], stA_at hl] at hce
        obtain ⟨E, hE⟩ : ∃ E, evenA (-1) l = E := ⟨_, rfl⟩
        rw [hE] at HC
        have HEV := hide hE
        obtain ⟨ln, hln⟩ : ∃ ln, l.length = ln := ⟨_, rfl⟩
        rw [hln] at hce HC
        clear hac hl hE hln
        cases E
        · have HA := hide (show false = evenX p m by unfold evenX; rw [if_pos HEE.out]; exact evenB_no HL.out HEV.out)
          go_wp2_with (go_at_call 19; refine HC.out.mono ?_; rintro e w1 ⟨rfl, hb1⟩)
          have HB1 := hide (below_go HB.out hb1)
          clear hb1
          go_wp2
          exact bodyPost_ret (v := .tuple #[.bool false, .nilIface]) (by simp [results, Try.results10, go_sem]) rfl ⟨by rw [HA.out], HB1.out⟩
        · have HU := hide (show ∀ j l, j < k + 1 → p[j]? = some l → evenA (-1) l = true by
            intro j l' hj hl'
            rcases Nat.lt_or_ge j k with h | h
            · exact HE.out j l' h hl'
            · have e : l' = l := Option.some.inj (by rw [← hl', show j = k by omega, HL.out])
              rw [e]; exact HEV.out)
          go_wp2_with (go_at_call 19; refine HC.out.mono ?_; rintro e w1 ⟨rfl, hb1⟩)
          have HB1 := hide (below_go HB.out hb1)
          clear hb1
          go_wp2
          go_roundw
          case rel => exact ⟨k + 1, _, by have := HXI.out; omega, by have := HXI.out; omega, rfl, HB1.out, HU.out⟩
          case measure => have := HXI.out; simp [intOf]; omega
      · have HA := hide (show true = evenX p m by unfold evenX; rw [if_pos HEE.out]; exact evenB_yes (fun s l hs hl => HE.out s l (by have := HN.out; have := HXI.out; omega) hl))
        go_wp2
        exact bodyPost_ret (v := .tuple #[.bool true, .nilIface]) (by simp [results, Try.results10, go_sem]) rfl ⟨by rw [HA.out], HB.out⟩
  · have HA := hide (show false = evenX p m by unfold evenX; rw [hE, if_neg c1])
    rw [err_ne c1] at HF ⊢
    rw [hn] at h2 hlen HF ⊢
    clear h4 hn c1 hE
    go_enter Try.func10, Try.ntmps10
    go_wp2_with (go_at_call 12; refine HF.out.mono ?_; rintro e w0 ⟨rfl, hb0⟩)
    have HB0 := hide hb0
    exact bodyPost_ret (v := .tuple #[.bool false, .iface 56 (.int .i64 E)]) (by simp [results, Try.results10, go_sem]) rfl ⟨by rw [HA.out], HB0.out⟩
end Go.Proofs.Ytcpgomjaegickag
