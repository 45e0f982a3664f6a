/- What PlanFault of the document's answer comes to. -/
import Derived.Test.YtgdggaieekakhagDoorPlR1
import Derived.Test.YtgdggaieekakhagDoorRBlank
import Derived.Deep.LoopGhost
namespace Go.Proofs.YtgdggaieekakhagDoor
open Go.RowKit
/-- How far a round of all stages has come. -/
structure PassI (p : List (List (Int × Int))) (f : List Nat) (s : Nat) (more : Bool) : Prop where
  len : f.length = p.length
  und : Und p f
  bd : ∀ t, t < p.length → atN f t ≤ atN (lens p) t
  no : more = false → ∀ t, t < s → ¬ Can p f t
theorem PassI.step {p : List (List (Int × Int))} {f : List Nat} {s : Nat} {more : Bool} (h : PassI p f s more) (hc : Can p f s) : PassI p (bump f s) s true := by
  have hs := hc.lt
  refine ⟨by rw [bump_len]; exact h.len, h.und.step h.len hc, fun t ht => ?_, fun e => by cases e⟩
  rw [atN_bump (by rw [h.len]; exact hs.1)]
  by_cases e : t = s
  · subst e; rw [if_pos rfl, lens_at]; exact hs.2
  · rw [if_neg e]; exact h.bd t ht
theorem PassI.next {p : List (List (Int × Int))} {f : List Nat} {s : Nat} {more : Bool} (h : PassI p f s more) (hc : ¬ Can p f s) : PassI p f (s + 1) more :=
  ⟨h.len, h.und, h.bd, fun e t ht => by
    rcases Nat.lt_or_ge t s with q | q
    · exact h.no e t q
    · obtain rfl : t = s := by omega
      exact hc⟩
theorem PassI.first {p : List (List (Int × Int))} {f : List Nat} {s : Nat} {more : Bool} (h : PassI p f s more) : PassI p f 0 false := ⟨h.len, h.und, h.bd, fun _ t ht => by omega⟩
theorem PassI.sum {p : List (List (Int × Int))} {f : List Nat} {s : Nat} {more : Bool} (h : PassI p f s more) : sumN f p.length ≤ sumN (lens p) p.length := sumN_le h.bd
theorem PassI.end_ {p : List (List (Int × Int))} {f : List Nat} (h : PassI p f p.length false) : doneB p = true ↔ ∀ s, s < p.length → atN f s = (stA p s).length := done_iff h.und (fun s hs => h.no rfl s hs)
theorem sum_step {p : List (List (Int × Int))} {f : List Nat} {s : Nat} {more : Bool} (h : PassI p f s more) (hc : Can p f s) : sumN (bump f s) p.length = sumN f p.length + 1 := by
  have hs := hc.lt
  rw [sumN_bump (by rw [h.len]; exact hs.1), if_pos hs.1]
def natI (f : List Nat) : List Int := f.map (fun (x : Nat) => (x : Int))
theorem natI_at {f : List Nat} {s : Nat} (h : s < f.length) : (natI f)[s]? = some (atN f s : Int) := by simp [natI, atN, h]
theorem natI_bump {f : List Nat} {s : Nat} : (natI f).set s ((atN f s : Int) + 1) = natI (bump f s) := by
  unfold natI bump
  rw [List.map_set]
  simp
theorem natI_zero (p : List (List (Int × Int))) : tab p.length (fun _ => 0) = natI (zeroN p) := by
  unfold natI zeroN
  rw [tab_zero, List.map_replicate]; rfl
/-- The acts of each stage, read in whatever world has grown. -/
theorem plan_cell {w : World} {p : List (List (Int × Int))} {b off : Nat} (hc : ∀ i l, p[i]? = some l → ∃ s, w.cell? ⟨b, off + i, none⟩ = some s ∧ IsActs w s l) (W : World) (hb : Below w.heap.size w W) {s : Nat} (hs : s < p.length) :
    ∃ la lc, W.cell? ⟨b, off + s, none⟩ = some (.slice la (stA p s).length lc) ∧ IsActs W (.slice la (stA p s).length lc) (stA p s) := by
  obtain ⟨l, hl⟩ := stage_at hs
  obtain ⟨u, h1, h2⟩ := hc s l hl
  rw [stA_at hl]
  obtain ⟨a, cap, rfl⟩ := h2.shape
  exact ⟨a, cap, cell_bel hb h1, h2.below hb⟩
theorem can_yes {p : List (List (Int × Int))} {f : List Nat} {s : Nat} {a : Int × Int} (h : (stA p s)[atN f s]? = some a) (hn : ∀ k, k < p.length → nbA a s k → whr a (stA p k) < (atN f k : Int)) : Can p f s := ⟨a, h, hn⟩
theorem can_no {p : List (List (Int × Int))} {f : List Nat} {s k : Nat} {a : Int × Int} (h : (stA p s)[atN f s]? = some a) (hk : k < p.length) (hn : nbA a s k) (hw : ¬ whr a (stA p k) < (atN f k : Int)) : ¬ Can p f s := by
  rintro ⟨b, h1, h2⟩
  rw [h] at h1
  obtain rfl := Option.some.inj h1
  exact hw (h2 k hk hn)
theorem can_out {p : List (List (Int × Int))} {f : List Nat} {s : Nat} (h : ¬ atN f s < (stA p s).length) : ¬ Can p f s := fun hc => h hc.lt.2
theorem below_go {w u v : World} (h : Below w.heap.size w u) (k : Below u.heap.size u v) : Below w.heap.size w v := h.trans (k.mono h.size)
set_option maxHeartbeats 32000000 in
set_option maxRecDepth 100000 in
theorem rplan_any (v : Value) (p : List (List (Int × Int))) (m : Int) (w : World) (hv : IsPlan w v p) : Calls Tryd.prog 12 #[v, .int .i64 m] w fun e w' => e = .returned (.int .i64 (planE p m)) ∧ Below w.heap.size w w' := by
  have hlen := hv.len
  unfold maxLen at hlen
  obtain ⟨a, cap, rfl, h2, h3, h4⟩ := hv
  obtain ⟨n, hn⟩ : ∃ n, p.length = n := ⟨_, rfl⟩
  have HN := hide hn
  have H4 := hide h4
  rw [hn] at h2 hlen ⊢
  clear hn h4
  by_cases c1 : m < 1
  · have HE := hide (planE_far (p := p) (m := m) (.inl c1))
    go_enter Tryd.func12, Tryd.ntmps12
    go_wp2
    go_ret
    exact ⟨ret_int HE.out, Below.refl _ _⟩
  by_cases c2 : 12 < m
  · have HE := hide (planE_far (p := p) (m := m) (.inr (.inl c2)))
    go_enter Tryd.func12, Tryd.ntmps12
    go_wp2
    go_ret
    exact ⟨ret_int HE.out, Below.refl _ _⟩
  by_cases c3 : (n : Int) < 1
  · have HE := hide (planE_far (p := p) (m := m) (.inr (.inr (.inl (by rw [HN.out]; exact c3)))))
    go_enter Tryd.func12, Tryd.ntmps12
    go_wp2
    go_ret
    exact ⟨ret_int HE.out, Below.refl _ _⟩
  by_cases c4 : 6 < (n : Int)
  · have HE := hide (planE_far (p := p) (m := m) (.inr (.inr (.inr (by rw [HN.out]; exact c4)))))
    go_enter Tryd.func12, Tryd.ntmps12
    go_wp2
    go_ret
    exact ⟨ret_int HE.out, Below.refl _ _⟩
  have HR := hide (show ¬ rangeP p m by unfold rangeP; rw [HN.out]; omega)
  obtain ⟨b, off, ha, hcl⟩ := H4.out.resolve_left (fun e => by have := HN.out; rw [e] at this; simp at this; omega)
  subst ha
  have HP := hide (fun (W : World) (hb : Below w.heap.size w W) (s : Nat) (hs : s < n) => plan_cell hcl W hb (s := s) (by rw [HN.out]; exact hs))
  have hn6 : n ≤ 6 := by omega
  have hn1 : 1 ≤ n := by omega
  have hmk := run_mk (n : Int) n rfl (by omega)
  have C0 := hide (Below.refl w.heap.size w)
  clear hcl
  go_enter Tryd.func12, Tryd.ntmps12
  go_wp2
  go_loopw [5] (fun sv wr => ∃ (k : Nat) (xi : Int), k ≤ n ∧ xi = (k : Int) ∧ sv = .int .i64 xi ∧ Below w.heap.size w wr ∧ ∀ j l, j < k → p[j]? = some l → actsE l m = 0) (fun sv _ => n - (intOf sv).toNat)
  case atStart => exact ⟨0, 0, Nat.zero_le _, rfl, rfl, C0.out, fun j l hj _ => by omega⟩
  case round =>
    obtain ⟨k, xi, hk, hxi, rfl, hb, he⟩ := hrel
    have HB := hide hb
    have HE := hide he
    have HXI := hide hxi
    have hx0 : 0 ≤ xi := by omega
    have hx6 : xi ≤ 6 := by omega
    clear hb he hxi
    by_cases hlt : xi < (n : Int)
    · obtain ⟨la, lc, hce, hac⟩ := HP.out wr HB.out k (by have := HXI.out; omega)
      rw [show k = xi.toNat by have := HXI.out; omega] at hce
      obtain ⟨l, hl⟩ := stage_at (p := p) (i := k) (by have := HN.out; have := HXI.out; omega)
      have HL := hide hl
      have HC := hide (racts_any _ (stA p k) m wr hac (by omega) (by omega))
      rw [stA_at hl] at HC
      rw [show (stA p xi.toNat).length = (stA p k).length by rw [show xi.toNat = k by have := HXI.out; omega], stA_at hl] at hce
      obtain ⟨E, hE⟩ : ∃ E, actsE l m = E := ⟨_, rfl⟩
      rw [hE] at HC
      have HEE := hide hE
      obtain ⟨ln, hln⟩ : ∃ ln, l.length = ln := ⟨_, rfl⟩
      rw [hln] at hce HC
      clear hac hl hE hln
      go_wp2_with fail
      refine HC.out.mono ?_
      rintro e w1 ⟨rfl, hb1⟩
      have HB1 := hide (below_go HB.out hb1)
      clear hb1 hce
      by_cases hE0 : E = 0
      · subst hE0
        have HU := hide (show ∀ j l, j < k + 1 → p[j]? = some l → actsE l m = 0 by
          intro j l' hj hl'
          rcases Nat.lt_or_ge j k with h | h
          · exact HE.out j l' h hl'
          · have e : l' = l := Option.some.inj (by rw [← hl', show j = k by omega, HL.out])
            rw [e]; exact HEE.out)
        go_wp2
        go_roundw
        case rel => exact ⟨k + 1, _, by have := HXI.out; omega, by have := HXI.out; omega, rfl, HB1.out, HU.out⟩
        case measure => have := HXI.out; simp [intOf]; omega
      · have HS := hide (stagesE_at HE.out HL.out (by rw [HEE.out]; exact hE0))
        rw [HEE.out] at HS
        have HA := hide (show E = planE p m by rw [HS.out]; exact planE_acts HR.out (by rw [← HS.out]; exact hE0))
        have n0 : (E != 0) = true := by simpa using hE0
        clear hE0
        go_wp2
        go_ret
        exact ⟨ret_int HA.out, HB1.out⟩
    · have HS := hide (show stagesE m p = 0 from (stagesE_no (fun j x hx => HE.out j x (by have := HN.out; have := HXI.out; have := (List.getElem?_eq_some_iff.1 hx).1; omega) hx)).symm)
      have HPE := hide (planE_end HR.out HS.out)
      obtain ⟨tot, htot⟩ : ∃ tot, sumN (lens p) n = tot := ⟨_, rfl⟩
      have HTOT := hide htot
      clear htot HE
      go_wp2
      clear hmk
      have HRO := hide (show RowAt 3 (wr.alloc (.cells (zeros n) 3)) wr.heap.size (natI (zeroN p)) by have := zeros_row wr n; rw [← natI_zero, HN.out]; exact this)
      have HBA := hide (below_go HB.out (below_one wr (.cells (zeros n) 3)))
      obtain ⟨g, hg⟩ : ∃ g, wr.heap.size = g := ⟨_, rfl⟩
      have HG := hide (show w.heap.size ≤ g by rw [← hg]; exact HB.out.size)
      rw [hg] at HRO ⊢
      clear hg
      go_loopg [8] (2 * tot + 1) (fun kx mv w2 => ∃ (f : List Nat) (more : Bool), mv = .bool more ∧ RowAt 3 w2 g (natI f) ∧ Below w.heap.size w w2 ∧ PassI p f p.length more ∧ 2 * (tot - sumN f n) + (if more then 1 else 0) ≤ kx)
      case atStart => exact ⟨zeroN p, true, rfl, HRO.out, HBA.out, ⟨by simp [zeroN], und_zero p, fun t _ => by rw [zeroN_at]; omega, fun e => by cases e⟩, by simp; omega⟩
      case round =>
        obtain ⟨f, more, rfl, hro, hbw, hpi, hgk⟩ := hrel
        have HBW := hide hbw
        have HROW := hide hro
        have HPI := hide hpi
        cases more with
        | false =>
          clear hro hbw hpi hgk
          go_wp2
          go_loopw [13] (fun sv w3 => ∃ (k q : Nat) (xi : Int), k ≤ n ∧ xi = (k : Int) ∧ sv = .int .i64 xi ∧ w3 = wr.drewN q ∧ ∀ t, t < k → atN f t = (stA p t).length) (fun sv _ => n - (intOf sv).toNat)
          case atStart => exact ⟨0, 0, 0, Nat.zero_le _, rfl, rfl, rfl, fun t ht => by omega⟩
          case round =>
            obtain ⟨k, q, xi, hk, hxi, rfl, rfl, he⟩ := hrel
            have HE := hide he
            have HXI := hide hxi
            have hx0 : 0 ≤ xi := by omega
            have hx6 : xi ≤ 6 := by omega
            clear he hxi
            by_cases hlt : xi < (n : Int)
            · obtain ⟨la, lc, hce, _⟩ := HP.out wr HBW.out k (by have := HXI.out; omega)
              have cn : wr.cell? ⟨g, xi.toNat, none⟩ = some (.int .i64 (atN f k : Int)) := by rw [show xi.toNat = k by have := HXI.out; omega]; exact HROW.out.cell (natI_at (by have := HPI.out.len; have := HN.out; have := HXI.out; omega))
              rw [show k = xi.toNat by have := HXI.out; omega] at hce
              have hbd := HPI.out.bd k (by have := HN.out; have := HXI.out; omega)
              rw [lens_at] at hbd
              obtain ⟨ln, hln⟩ : ∃ x, (stA p k).length = x := ⟨_, rfl⟩
              rw [show (stA p xi.toNat).length = ln by rw [← hln, show xi.toNat = k by have := HXI.out; omega]] at hce
              obtain ⟨fk, hfk⟩ : ∃ x : Nat, atN f k = x := ⟨_, rfl⟩
              rw [hfk] at cn hbd
              rw [hln] at hbd
              have HLN := hide hln
              have HFK := hide hfk
              clear hln hfk
              by_cases hsh : (fk : Int) < (ln : Int)
              · have HA := hide (show 6 = planE p m by
                  rw [HPE.out, if_neg (fun e => by
                    have := HPI.out.end_.1 e k (by have := HN.out; have := HXI.out; omega)
                    rw [HLN.out, HFK.out] at this; omega)])
                go_wp2
                go_quiet (fail)
                go_wp2
                go_ret
                exact ⟨ret_int HA.out, below_go HBW.out (bel_d2 _ _ _)⟩
              · have HU := hide (show ∀ t, t < k + 1 → atN f t = (stA p t).length by
                  intro t ht
                  rcases Nat.lt_or_ge t k with h | h
                  · exact HE.out t h
                  · rw [show t = k by omega, HLN.out, HFK.out]; omega)
                go_wp2
                go_quiet (fail)
                go_wp2
                go_roundw
                case rel => exact ⟨k + 1, _, _, by have := HXI.out; omega, by have := HXI.out; omega, rfl, rfl, HU.out⟩
                case measure => have := HXI.out; simp [intOf]; omega
            · have HA := hide (show 0 = planE p m by
                rw [HPE.out, if_pos (HPI.out.end_.2 (fun t ht => HE.out t (by have := HN.out; have := HXI.out; omega)))])
              go_wp2
              go_ret
              exact ⟨ret_int HA.out, below_go HBW.out (below_drewN _ _)⟩
        | true =>
          have HGK := hide hgk
          clear hro hbw hpi hgk
          go_wp2
          go_loopw [8, 9] (fun mv sv w3 => ∃ (f2 : List Nat) (mo : Bool) (k : Nat) (xi : Int), k ≤ n ∧ xi = (k : Int) ∧ sv = .int .i64 xi ∧ mv = .bool mo ∧ RowAt 3 w3 g (natI f2) ∧ Below w.heap.size w w3 ∧ PassI p f2 k mo ∧ sumN f n ≤ sumN f2 n ∧ (mo = true → sumN f n < sumN f2 n)) (fun _ sv _ => n - (intOf sv).toNat)
          case atStart => exact ⟨f, false, 0, 0, Nat.zero_le _, rfl, rfl, rfl, HROW.out, HBW.out, HPI.out.first, Nat.le_refl _, fun e => by cases e⟩
          case round =>
            obtain ⟨f2, mo, k, xi, hk, hxi, rfl, rfl, hro, hbw, hpi, hs1, hs2⟩ := hrel
            have HR2 := hide hro
            have HB2 := hide hbw
            have HP2 := hide hpi
            have HS2 := hide (And.intro hs1 hs2)
            have HXI := hide hxi
            have hx0 : 0 ≤ xi := by omega
            have hx6 : xi ≤ 6 := by omega
            clear hro hbw hpi hs1 hs2 hxi
            by_cases hlt : xi < (n : Int)
            · go_wp2
              go_loopg [8] (tot - sumN f2 n) (fun kx mv w4 => ∃ (f3 : List Nat) (mo3 : Bool), mv = .bool mo3 ∧ RowAt 3 w4 g (natI f3) ∧ Below w.heap.size w w4 ∧ PassI p f3 k mo3 ∧ sumN f n ≤ sumN f3 n ∧ (mo3 = true → sumN f n < sumN f3 n) ∧ tot - sumN f3 n ≤ kx)
              case atStart => exact ⟨f2, mo, rfl, HR2.out, HB2.out, HP2.out, HS2.out.1, HS2.out.2, Nat.le_refl _⟩
              case round =>
                obtain ⟨f3, mo3, rfl, hro, hbw, hpi, hsu1, hsu2, hgk3⟩ := hrel
                rename_i w4' _ _ _ _
                obtain ⟨w4, hw4⟩ : ∃ x, x = wr := ⟨_, rfl⟩
                rw [← hw4] at hro hbw ⊢
                clear hw4
                have HR3 := hide hro
                have HB3 := hide hbw
                have HPI3 := hide hpi
                obtain ⟨la, lc, hce, hac⟩ := HP.out w4 hbw k (by have := HXI.out; omega)
                have cn : w4.cell? ⟨g, xi.toNat, none⟩ = some (.int .i64 (atN f3 k : Int)) := by rw [show xi.toNat = k by have := HXI.out; omega]; exact hro.cell (natI_at (by have := hpi.len; have := HN.out; have := HXI.out; omega))
                rw [show k = xi.toNat by have := HXI.out; omega] at hce
                obtain ⟨ln, hln⟩ : ∃ x, (stA p k).length = x := ⟨_, rfl⟩
                rw [show (stA p xi.toNat).length = ln by rw [← hln, show xi.toNat = k by have := HXI.out; omega]] at hce
                rw [hln] at hac
                have HLN := hide hln
                have HGK3 := hide hgk3
                obtain ⟨fk, hfk⟩ : ∃ x : Nat, atN f3 k = x := ⟨_, rfl⟩
                rw [hfk] at cn
                have HFK := hide hfk
                have hlnm : ln ≤ 9223372036854775807 := by have := hac.len; rw [hln] at this; unfold maxLen at this; omega
                clear hro hbw hpi hln hgk3 hfk
                by_cases hin : (fk : Int) < (ln : Int)
                · obtain ⟨x, hx⟩ := act_at (l := stA p k) (i := fk) (by have := HLN.out; omega)
                  obtain ⟨ra, rc, hre, r2, r3, r4⟩ := id hac
                  have hra := (Value.slice.inj hre).1
                  subst hra
                  obtain ⟨b2, off2, ha2, hcl2⟩ := r4.resolve_left (fun e => by rw [e] at hx; simp at hx)
                  subst ha2
                  obtain ⟨d1, d2⟩ := hcl2 fk x hx
                  obtain ⟨ak, am⟩ := x
                  dsimp only at d1 d2
                  have HAC := hide (show (stA p k)[atN f3 k]? = some (ak, am) by rw [HFK.out]; exact hx)
                  clear hac hre r2 r3 r4 hcl2 hx
                  go_wp2
                  go_quiet (fail)
                  obtain ⟨w5, hw5⟩ : ∃ x, x = w4.drewN nq := ⟨_, rfl⟩
                  have HB5 := hide (show Below w.heap.size w w5 by rw [hw5]; exact below_go HB3.out (below_drewN _ _))
                  have HR5 := hide (show RowAt 3 w5 g (natI f3) by rw [hw5]; exact HR3.out.drewN _)
                  replace hce : w5.cell? ⟨b, off + xi.toNat, none⟩ = some (.slice (some ⟨b2, off2, none⟩) ln lc) := by rw [hw5]; exact hce
                  replace cn : w5.cell? ⟨g, xi.toNat, none⟩ = some (.int .i64 (fk : Int)) := by rw [hw5]; exact cn
                  replace d1 : w5.cell? ⟨b2, off2 + fk * 2, none⟩ = some (.int .i64 ak) := by rw [hw5]; exact d1
                  replace d2 : w5.cell? ⟨b2, off2 + fk * 2 + 1, none⟩ = some (.int .i64 am) := by rw [hw5]; exact d2
                  rw [← hw5]
                  clear hw5
                  by_cases hkd : ak = 2
                  · have nkd : (ak == 2) = true := by simp [hkd]
                    have HKD := hide hkd
                    clear hkd
                    have hge : 0 ≤ xi + 1 := by omega
                    by_cases hs1 : xi + 1 < (n : Int)
                    · obtain ⟨W6, hW6⟩ : ∃ x, x = (w5.alloc (.cells #[.int .i64 ak, .int .i64 am] 56)).drew := ⟨_, rfl⟩
                      have HBX := hide (show Below w.heap.size w W6 by rw [hW6]; exact below_dr (below_go HB5.out (below_one _ _)))
                      have HRX := hide (show RowAt 3 W6 g (natI f3) by rw [hW6]; exact (HR5.out.alloc _).drew)
                      have q1 : W6.cell? ⟨w5.heap.size, 0, none⟩ = some (.int .i64 ak) := by rw [hW6]; simp
                      have q2 : W6.cell? ⟨w5.heap.size, 1, none⟩ = some (.int .i64 am) := by rw [hW6]; simp
                      obtain ⟨ka, kc, hkc, hki⟩ := HP.out W6 HBX.out (k + 1) (by have := HXI.out; omega)
                      rw [show k + 1 = (xi + 1).toNat by have := HXI.out; omega] at hkc
                      obtain ⟨kn, hkn⟩ : ∃ x, (stA p (k + 1)).length = x := ⟨_, rfl⟩
                      rw [show (stA p ((xi + 1).toNat)).length = kn by rw [← hkn, show k + 1 = (xi + 1).toNat by have := HXI.out; omega]] at hkc
                      rw [hkn] at hki
                      have HKI := hide hki
                      have HW6 := hide hW6
                      clear hkn hki hW6
                      go_wp2
                      go_region_held3 (fun W' => W'.cell? ⟨b, off + xi.toNat, none⟩ = some (.slice (some ⟨b2, off2, none⟩) ln lc) ∧ W'.cell? ⟨g, xi.toNat, none⟩ = some (.int .i64 (fk : Int)) ∧ W'.cell? ⟨b2, off2 + fk * 2, none⟩ = some (.int .i64 ak) ∧ W'.cell? ⟨b2, off2 + fk * 2 + 1, none⟩ = some (.int .i64 am)) ((first | go_keep | (refine ⟨?_, ?_, ?_, ?_⟩ <;> first | assumption | go_keep)))
                        (fail)
                      go_wp2
                      rw [← HW6.out]
                      go_quiet (exact Calls.quiet_of_same (where_any _ (stA p (k + 1)) ak am _ (HKI.out.below (below_drewN _ _))))
                      obtain ⟨wh, hwh⟩ : ∃ x, whr (ak, am) (stA p (k + 1)) = x := ⟨_, rfl⟩
                      rw [hwh]
                      have cnk : W6.cell? ⟨g, (xi + 1).toNat, none⟩ = some (.int .i64 (atN f3 (k + 1) : Int)) := by rw [show (xi + 1).toNat = k + 1 by have := HXI.out; omega]; exact HRX.out.cell (natI_at (by have := HPI3.out.len; have := HN.out; have := HXI.out; omega))
                      have cn6 : W6.cell? ⟨g, xi.toNat, none⟩ = some (.int .i64 (fk : Int)) := by rw [show xi.toNat = k by have := HXI.out; omega, ← HFK.out]; exact HRX.out.cell (natI_at (by have := HPI3.out.len; have := HN.out; have := HXI.out; omega))
                      have fz6 : W6.frozen? ⟨g, xi.toNat, none⟩ = false := HRX.out.frozen _
                      obtain ⟨fn, hfn⟩ : ∃ x : Int, (atN f3 (k + 1) : Int) = x := ⟨_, rfl⟩
                      rw [hfn] at cnk
                      clear q1 q2 hkc
                      by_cases hblk : fn ≤ wh
                      · have HNC := hide (can_no HAC.out (k := k + 1) (by have := HN.out; have := HXI.out; omega) (.inl ⟨HKD.out, rfl⟩) (by rw [hwh, hfn]; omega))
                        clear hwh hfn
                        go_wp2
                        go_roundw
                        case rel => exact ⟨f3, mo3, k + 1, _, by have := HXI.out; omega, by have := HXI.out; omega, rfl, rfl, (HRX.out.drewN _), (below_go HBX.out (below_drewN _ _)), HPI3.out.next HNC.out, hsu1, hsu2⟩
                        case measure => have := HXI.out; simp [intOf]; omega
                      · have HFR := hide (show ∀ k', k' < p.length → nbA (ak, am) k k' → whr (ak, am) (stA p k') < (atN f3 k' : Int) by
                          intro k' hk' hnb
                          have e : k' = k + 1 := by rcases hnb with ⟨h1, h2⟩ | ⟨h1, h2⟩; exact h2; exact absurd HKD.out h1
                          rw [e, hwh, hfn]; omega)
                        clear hwh hfn
                        have HCA := hide (can_yes HAC.out HFR.out)
                        have HSU := hide (sum_step HPI3.out HCA.out)
                        rw [HN.out] at HSU
                        have HPB := hide (HPI3.out.step HCA.out)
                        have hsm := HPB.out.sum
                        rw [HN.out, HTOT.out, HSU.out] at hsm
                        have HSM := hide hsm
                        have HROB := hide (show RowAt 3 ((W6.drewN nq).setCell ⟨g, xi.toNat, none⟩ (.int .i64 ((fk : Int) + 1))) g (natI (bump f3 k)) by rw [← natI_bump, HFK.out, show xi.toNat = k by have := HXI.out; omega]; exact (HRX.out.drewN nq).set _ _)
                        have HBEB := hide (show Below w.heap.size w ((W6.drewN nq).setCell ⟨g, xi.toNat, none⟩ (.int .i64 ((fk : Int) + 1))) from Below.setCell (below_go HBX.out (below_drewN _ nq)) HG.out _)
                        clear hsm
                        go_wp2
                        go_roundg (tot - sumN (bump f3 k) n)
                        case measure => have := HSU.out; have := HSM.out; have := HGK3.out; omega
                        case rel => exact ⟨bump f3 k, true, rfl, HROB.out, HBEB.out, HPB.out, by have := HSU.out; omega, fun _ => by have := HSU.out; omega, Nat.le_refl _⟩
                    · have HFR := hide (show ∀ k', k' < p.length → nbA (ak, am) k k' → whr (ak, am) (stA p k') < (atN f3 k' : Int) by
                        intro k' hk' hnb
                        exfalso; have := HN.out; have := HXI.out; rcases hnb with ⟨h1, h2⟩ | ⟨h1, h2⟩; omega; exact h1 HKD.out)
                      have cn6 := fun o => cell_past cn o
                      have fz6 := fun o => (HR5.out.alloc o).frozen xi.toNat
                      have HCA := hide (can_yes HAC.out HFR.out)
                      have HSU := hide (sum_step HPI3.out HCA.out)
                      rw [HN.out] at HSU
                      have HPB := hide (HPI3.out.step HCA.out)
                      have hsm := HPB.out.sum
                      rw [HN.out, HTOT.out, HSU.out] at hsm
                      have HSM := hide hsm
                      have HROB := hide (show RowAt 3 (((w5.alloc (.cells #[.int .i64 ak, .int .i64 am] 56)).drew).setCell ⟨g, xi.toNat, none⟩ (.int .i64 ((fk : Int) + 1))) g (natI (bump f3 k)) by rw [← natI_bump, HFK.out, show xi.toNat = k by have := HXI.out; omega]; exact ((HR5.out.alloc _).drew).set _ _)
                      have HBEB := hide (show Below w.heap.size w (((w5.alloc (.cells #[.int .i64 ak, .int .i64 am] 56)).drew).setCell ⟨g, xi.toNat, none⟩ (.int .i64 ((fk : Int) + 1))) from Below.setCell (below_dr (below_go HB5.out (below_one _ _))) HG.out _)
                      clear hsm
                      go_wp2
                      go_region_held3 (fun W' => W'.cell? ⟨b, off + xi.toNat, none⟩ = some (.slice (some ⟨b2, off2, none⟩) ln lc) ∧ W'.cell? ⟨g, xi.toNat, none⟩ = some (.int .i64 (fk : Int)) ∧ W'.cell? ⟨b2, off2 + fk * 2, none⟩ = some (.int .i64 ak) ∧ W'.cell? ⟨b2, off2 + fk * 2 + 1, none⟩ = some (.int .i64 am)) ((first | go_keep | (refine ⟨?_, ?_, ?_, ?_⟩ <;> first | assumption | go_keep)))
                        (fail)
                      go_wp2
                      go_roundg (tot - sumN (bump f3 k) n)
                      case measure => have := HSU.out; have := HSM.out; have := HGK3.out; omega
                      case rel => exact ⟨bump f3 k, true, rfl, HROB.out, HBEB.out, HPB.out, by have := HSU.out; omega, fun _ => by have := HSU.out; omega, Nat.le_refl _⟩
                  · have nkd : (ak == 2) = false := by simpa using hkd
                    have HKD := hide hkd
                    clear hkd
                    have hlt1 : xi - 1 < (n : Int) := by omega
                    by_cases hs1 : 0 ≤ xi - 1
                    · obtain ⟨W6, hW6⟩ : ∃ x, x = (w5.alloc (.cells #[.int .i64 ak, .int .i64 am] 56)).drew := ⟨_, rfl⟩
                      have HBX := hide (show Below w.heap.size w W6 by rw [hW6]; exact below_dr (below_go HB5.out (below_one _ _)))
                      have HRX := hide (show RowAt 3 W6 g (natI f3) by rw [hW6]; exact (HR5.out.alloc _).drew)
                      have q1 : W6.cell? ⟨w5.heap.size, 0, none⟩ = some (.int .i64 ak) := by rw [hW6]; simp
                      have q2 : W6.cell? ⟨w5.heap.size, 1, none⟩ = some (.int .i64 am) := by rw [hW6]; simp
                      obtain ⟨ka, kc, hkc, hki⟩ := HP.out W6 HBX.out (k - 1) (by have := HXI.out; omega)
                      rw [show k - 1 = xi.toNat - 1 by have := HXI.out; omega] at hkc
                      obtain ⟨kn, hkn⟩ : ∃ x, (stA p (k - 1)).length = x := ⟨_, rfl⟩
                      rw [show (stA p (xi.toNat - 1)).length = kn by rw [← hkn, show k - 1 = xi.toNat - 1 by have := HXI.out; omega]] at hkc
                      rw [hkn] at hki
                      have HKI := hide hki
                      have HW6 := hide hW6
                      clear hkn hki hW6
                      go_wp2
                      go_region_held3 (fun W' => W'.cell? ⟨b, off + xi.toNat, none⟩ = some (.slice (some ⟨b2, off2, none⟩) ln lc) ∧ W'.cell? ⟨g, xi.toNat, none⟩ = some (.int .i64 (fk : Int)) ∧ W'.cell? ⟨b2, off2 + fk * 2, none⟩ = some (.int .i64 ak) ∧ W'.cell? ⟨b2, off2 + fk * 2 + 1, none⟩ = some (.int .i64 am)) ((first | go_keep | (refine ⟨?_, ?_, ?_, ?_⟩ <;> first | assumption | go_keep)))
                        (fail)
                      go_wp2
                      rw [← HW6.out]
                      go_quiet (exact Calls.quiet_of_same (where_any _ (stA p (k - 1)) ak am _ (HKI.out.below (below_drewN _ _))))
                      obtain ⟨wh, hwh⟩ : ∃ x, whr (ak, am) (stA p (k - 1)) = x := ⟨_, rfl⟩
                      rw [hwh]
                      have cnk : W6.cell? ⟨g, xi.toNat - 1, none⟩ = some (.int .i64 (atN f3 (k - 1) : Int)) := by rw [show xi.toNat - 1 = k - 1 by have := HXI.out; omega]; exact HRX.out.cell (natI_at (by have := HPI3.out.len; have := HN.out; have := HXI.out; omega))
                      have cn6 : W6.cell? ⟨g, xi.toNat, none⟩ = some (.int .i64 (fk : Int)) := by rw [show xi.toNat = k by have := HXI.out; omega, ← HFK.out]; exact HRX.out.cell (natI_at (by have := HPI3.out.len; have := HN.out; have := HXI.out; omega))
                      have fz6 : W6.frozen? ⟨g, xi.toNat, none⟩ = false := HRX.out.frozen _
                      obtain ⟨fn, hfn⟩ : ∃ x : Int, (atN f3 (k - 1) : Int) = x := ⟨_, rfl⟩
                      rw [hfn] at cnk
                      clear q1 q2 hkc
                      by_cases hblk : fn ≤ wh
                      · have HNC := hide (can_no HAC.out (k := k - 1) (by have := HN.out; have := HXI.out; omega) (.inr ⟨HKD.out, by have := HXI.out; omega⟩) (by rw [hwh, hfn]; omega))
                        clear hwh hfn
                        go_wp2
                        go_roundw
                        case rel => exact ⟨f3, mo3, k + 1, _, by have := HXI.out; omega, by have := HXI.out; omega, rfl, rfl, (HRX.out.drewN _), (below_go HBX.out (below_drewN _ _)), HPI3.out.next HNC.out, hsu1, hsu2⟩
                        case measure => have := HXI.out; simp [intOf]; omega
                      · have HFR := hide (show ∀ k', k' < p.length → nbA (ak, am) k k' → whr (ak, am) (stA p k') < (atN f3 k' : Int) by
                          intro k' hk' hnb
                          have e : k' = k - 1 := by rcases hnb with ⟨h1, h2⟩ | ⟨h1, h2⟩; exact absurd h1 HKD.out; omega
                          rw [e, hwh, hfn]; omega)
                        clear hwh hfn
                        have HCA := hide (can_yes HAC.out HFR.out)
                        have HSU := hide (sum_step HPI3.out HCA.out)
                        rw [HN.out] at HSU
                        have HPB := hide (HPI3.out.step HCA.out)
                        have hsm := HPB.out.sum
                        rw [HN.out, HTOT.out, HSU.out] at hsm
                        have HSM := hide hsm
                        have HROB := hide (show RowAt 3 ((W6.drewN nq).setCell ⟨g, xi.toNat, none⟩ (.int .i64 ((fk : Int) + 1))) g (natI (bump f3 k)) by rw [← natI_bump, HFK.out, show xi.toNat = k by have := HXI.out; omega]; exact (HRX.out.drewN nq).set _ _)
                        have HBEB := hide (show Below w.heap.size w ((W6.drewN nq).setCell ⟨g, xi.toNat, none⟩ (.int .i64 ((fk : Int) + 1))) from Below.setCell (below_go HBX.out (below_drewN _ nq)) HG.out _)
                        clear hsm
                        go_wp2
                        go_roundg (tot - sumN (bump f3 k) n)
                        case measure => have := HSU.out; have := HSM.out; have := HGK3.out; omega
                        case rel => exact ⟨bump f3 k, true, rfl, HROB.out, HBEB.out, HPB.out, by have := HSU.out; omega, fun _ => by have := HSU.out; omega, Nat.le_refl _⟩
                    · have HFR := hide (show ∀ k', k' < p.length → nbA (ak, am) k k' → whr (ak, am) (stA p k') < (atN f3 k' : Int) by
                        intro k' hk' hnb
                        exfalso; have := HXI.out; rcases hnb with ⟨h1, h2⟩ | ⟨h1, h2⟩; exact HKD.out h1; omega)
                      have cn6 := fun o => cell_past cn o
                      have fz6 := fun o => (HR5.out.alloc o).frozen xi.toNat
                      have HCA := hide (can_yes HAC.out HFR.out)
                      have HSU := hide (sum_step HPI3.out HCA.out)
                      rw [HN.out] at HSU
                      have HPB := hide (HPI3.out.step HCA.out)
                      have hsm := HPB.out.sum
                      rw [HN.out, HTOT.out, HSU.out] at hsm
                      have HSM := hide hsm
                      have HROB := hide (show RowAt 3 (((w5.alloc (.cells #[.int .i64 ak, .int .i64 am] 56)).drew).setCell ⟨g, xi.toNat, none⟩ (.int .i64 ((fk : Int) + 1))) g (natI (bump f3 k)) by rw [← natI_bump, HFK.out, show xi.toNat = k by have := HXI.out; omega]; exact ((HR5.out.alloc _).drew).set _ _)
                      have HBEB := hide (show Below w.heap.size w (((w5.alloc (.cells #[.int .i64 ak, .int .i64 am] 56)).drew).setCell ⟨g, xi.toNat, none⟩ (.int .i64 ((fk : Int) + 1))) from Below.setCell (below_dr (below_go HB5.out (below_one _ _))) HG.out _)
                      clear hsm
                      go_wp2
                      go_region_held3 (fun W' => W'.cell? ⟨b, off + xi.toNat, none⟩ = some (.slice (some ⟨b2, off2, none⟩) ln lc) ∧ W'.cell? ⟨g, xi.toNat, none⟩ = some (.int .i64 (fk : Int)) ∧ W'.cell? ⟨b2, off2 + fk * 2, none⟩ = some (.int .i64 ak) ∧ W'.cell? ⟨b2, off2 + fk * 2 + 1, none⟩ = some (.int .i64 am)) ((first | go_keep | (refine ⟨?_, ?_, ?_, ?_⟩ <;> first | assumption | go_keep)))
                        (fail)
                      go_wp2
                      go_roundg (tot - sumN (bump f3 k) n)
                      case measure => have := HSU.out; have := HSM.out; have := HGK3.out; omega
                      case rel => exact ⟨bump f3 k, true, rfl, HROB.out, HBEB.out, HPB.out, by have := HSU.out; omega, fun _ => by have := HSU.out; omega, Nat.le_refl _⟩
                · have HNC := hide (can_out (p := p) (f := f3) (s := k) (by rw [HFK.out, HLN.out]; omega))
                  clear hac
                  go_wp2
                  go_quiet (fail)
                  go_wp2
                  go_roundw
                  case rel => exact ⟨f3, mo3, k + 1, _, by have := HXI.out; omega, by have := HXI.out; omega, rfl, rfl, (HR3.out.drewN _), (below_go HB3.out (below_drewN _ _)), HPI3.out.next HNC.out, hsu1, hsu2⟩
                  case measure => have := HXI.out; simp [intOf]; omega
            · have HEND := hide (show PassI p f2 p.length mo by have h := HP2.out; rw [show k = p.length by have := HN.out; have := HXI.out; omega] at h; exact h)
              have hsm := HP2.out.sum
              rw [HN.out, HTOT.out] at hsm
              have HSM := hide hsm
              clear hsm
              go_wp2
              go_roundg (2 * (tot - sumN f2 n) + (if mo then 1 else 0))
              case measure =>
                have h1 := HGK.out
                have h2 := HS2.out
                have h3 := HSM.out
                cases mo with
                | false => simp at h1 ⊢; omega
                | true => have := h2.2 rfl; simp at h1 ⊢; omega
              case rel => exact ⟨f2, mo, rfl, HR2.out, HB2.out, HEND.out, Nat.le_refl _⟩
end Go.Proofs.YtgdggaieekakhagDoor
