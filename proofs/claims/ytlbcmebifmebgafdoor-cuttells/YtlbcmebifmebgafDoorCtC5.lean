/- What Cost and Best of package cut come to. -/
import Derived.Test.YtlbcmebifmebgafDoorCtC4
import Derived.Test.YtlbcmebifmebgafDoorCtC2
namespace Go.Proofs.YtlbcmebifmebgafDoor
open Go.RowKit
/-- What stage i costs; what all do. -/
def stg (cs es : List Int) (i : Nat) : Int := preS cs (prv es (i + 1)).toNat - preS cs (prv es i).toNat
def costE (cs : List Int) (e : Int) : Int := if costsE cs = 0 then e else 1
def costX (cs es : List Int) : List Int := if costE cs (endsE es (cs.length : Int)) = 0 then tab es.length (stg cs es) else []
theorem rising_le {es : List Int} (h : rising es) {i j : Nat} (hij : i ≤ j) (hj : j ≤ es.length) : prv es i ≤ prv es j := by
  induction j with
  | zero => obtain rfl : i = 0 := by omega
            exact Int.le_refl _
  | succ j ih =>
    rcases Nat.lt_or_ge j i with q | q
    · obtain rfl : i = j + 1 := by omega
      exact Int.le_refl _
    · have := ih q (by omega)
      have := h j (by omega)
      omega
theorem preS_part (cs : List Int) (l m : Nat) (hlm : l ≤ m) : preS ((cs.drop l).take (m - l)) ((cs.drop l).take (m - l)).length = preS cs m - preS cs l := by
  have h1 : preS ((cs.drop l).take (m - l)) ((cs.drop l).take (m - l)).length = ((cs.drop l).take (m - l)).sum := by unfold preS; rw [List.take_length]
  have h2 : cs.take m = cs.take l ++ (cs.drop l).take (m - l) := by
    conv => lhs; rw [show m = l + (m - l) by omega]
    rw [List.take_add]
  rw [h1]
  unfold preS
  rw [h2, List.sum_append]
  omega
set_option maxHeartbeats 8000000 in
set_option maxRecDepth 100000 in
theorem cost_any (v u : Value) (cs es : List Int) (w : World) (hv : IsInts w v cs) (hu : IsInts w u es) : Calls Tryd.prog 7 #[v, u] w fun e w' => ∃ s, e = .returned (.tuple #[s, errV (costE cs (endsE es (cs.length : Int)))]) ∧ IsInts w' s (costX cs es) ∧ Below w.heap.size w w' := by
  obtain ⟨a, cap, hve, g2, g3, g4⟩ := id hv
  clear g4
  obtain ⟨a', cap', hue, g2', g3', g4'⟩ := id hu
  have hlu := hu.len
  unfold maxLen at hlu
  subst hve hue
  obtain ⟨E, hE⟩ : ∃ E, costE cs (endsE es (cs.length : Int)) = E := ⟨_, rfl⟩
  obtain ⟨X, hX⟩ : ∃ X, costX cs es = X := ⟨_, rfl⟩
  have HX := hide (show (if E = 0 then tab es.length (stg cs es) else []) = X by rw [← hX, ← hE]; rfl)
  have HE := hide hE
  rw [hE, hX]
  have HF := hide (costs_any _ cs w hv)
  have HK := hide (ctcheck_any _ es (cs.length : Int) w hu)
  clear hE hX
  obtain ⟨n, hn⟩ : ∃ n, cs.length = n := ⟨_, rfl⟩
  obtain ⟨m, hm⟩ : ∃ m, es.length = m := ⟨_, rfl⟩
  have HN := hide (And.intro hn hm)
  rw [hn] at HF HK hv ⊢
  rw [hm] at HK hu hlu ⊢
  rw [hm] at g2'
  rw [hn] at g2
  rcases costsE_two cs with c1 | c1
  · rw [c1, err_eq rfl] at HF
    by_cases c2 : endsE es (n : Int) = 0
    · obtain rfl : E = 0 := by rw [← HE.out]; unfold costE; rw [if_pos c1, hn, c2]
      obtain rfl : X = tab m (stg cs es) := by rw [← HX.out, if_pos rfl, hm]
      rw [c2, err_eq rfl] at HK
      rw [err_eq rfl]
      have HIN := hide (endsE_in c2)
      have hc := costsE_in c1
      have HC := hide hc
      have hm6 : m ≤ 6 := by have := HIN.out; omega
      have hmk := run_mk0 (m : Int) m rfl (by omega)
      have HV := hide hv
      have H4 := hide g4'
      have HO0 := hide (OwnZ.made w m (by omega))
      obtain ⟨e0, ei, hz0, hz1, hz2⟩ := info_parts infoInt
      have HEI := hide (And.intro ei (And.intro hz0 (And.intro hz1 hz2)))
      have HM6 := hide hm6
      clear c1 c2 hc hv hu hn hm g4' ei hz0 hz1 hz2
      go_enter Tryd.func7, Tryd.ntmps7
      go_wp2_with (first | (go_at_call 15; refine HF.out.mono ?_; rintro e w' ⟨rfl, rfl⟩) | (go_at_call 4; refine HK.out.mono ?_; rintro e w' ⟨rfl, rfl⟩))
      clear hmk HF HK
      go_loopw [8, 9, 29] (fun sv fv iv wr => ∃ (k : Nat) (xi xf : Int), k ≤ m ∧ xi = (k : Int) ∧ iv = .int .i64 xi ∧ fv = .int .i64 xf ∧ xf = prv es k ∧ OwnZ wr w'.heap.size sv (tab k (stg cs es)) ∧ Below w'.heap.size w' wr) (fun _ _ iv _ => m - (intOf iv).toNat)
      case atStart => exact ⟨0, 0, 0, Nat.zero_le _, rfl, rfl, rfl, rfl, HO0.out, below_one _ _⟩
      case round =>
        obtain ⟨k, xi, xf, hk, hxi, rfl, rfl, hxf, hro, hbw⟩ := hrel
        have HRO := hide hro
        have HBW := hide hbw
        have HXI := hide hxi
        have HXF := hide hxf
        have hb0 : 0 ≤ xi := by omega
        have hb1 : xi ≤ 6 := by omega
        clear hro hbw hxi hxf
        by_cases hlt : xi < (m : Int)
        · have hkm : k < m := by have := HXI.out; omega
          obtain ⟨x, hx⟩ := some_at (cs := es) (p := k) (by have := HN.out.2; omega)
          obtain ⟨b, off, ha, hcl⟩ := H4.out.resolve_left (fun e => by rw [e] at hx; simp at hx)
          subst ha
          have cx : wr.cell? ⟨b, off + xi.toNat, none⟩ = some (.int .i64 x) := by rw [show xi.toNat = k by have := HXI.out; omega]; exact cell_below HBW.out (hcl k x hx)
          have HPX := hide (prv_at hx)
          obtain ⟨q1, q2, q3, q4⟩ := HIN.out
          have hp0 : 0 ≤ xf := by rw [HXF.out]; have := rising_le q3 (Nat.zero_le k) (by have := HN.out.2; omega); exact this
          have hp1 : xf < x := by rw [HXF.out, ← HPX.out]; exact q3 k (by have := HN.out.2; omega)
          have hp2 : x ≤ (n : Int) := by rw [← HPX.out, ← q4]; exact rising_le q3 (by have := HN.out.2; omega) (Nat.le_refl _)
          obtain ⟨pa, pn, pk, hsl, hpi⟩ := ct_lh (HV.out.below HBW.out) xf.toNat x.toNat xf x (by omega) (by omega) (by omega) (by have := HN.out.1; omega)
          have HSU := hide (ctsum_any _ _ wr hpi (fun c h => HC.out c (List.mem_of_mem_drop (List.mem_of_mem_take h))) (by have := HN.out.1; simp; omega))
          rw [preS_part cs _ _ (by omega)] at HSU
          obtain ⟨y, hy⟩ : ∃ y, preS cs x.toNat - preS cs xf.toNat = y := ⟨_, rfl⟩
          rw [hy] at HSU
          have HY := hide (show stg cs es k = y by unfold stg; rw [HPX.out, ← HXF.out]; exact hy)
          have hb2 : x ≤ 12 := by omega
          have HBS := hide HBW.out.size
          clear hx hcl hpi q1 q2 q3 q4 hy
          go_wp2_with (first | (go_at_call 16; refine HSU.out.mono ?_; rintro e w3 ⟨rfl, h3⟩; subst h3) | (at_builtin; refine wpList_append_own _ rfl _ _ 22 rfl w'.heap.size 3 e0 (.int .i64 0) 1 8 Tryd.underlying22 HEI.out.1 HEI.out.2.1 HEI.out.2.2.1 HEI.out.2.2.2 rfl (by decide) _ _ _ rfl (HRO.out.alloc _) ⟨_, 0, none⟩ 1 1 [.int .i64 y] rfl rfl (one_cells _ _) (one_one _) ?c3 ?c4 ?c5 ?_))
          case c3 => unfold maxLen; rw [tab_len]; have := HM6.out; omega
          case c4 => rw [tab_len]; have := HM6.out; omega
          case c5 => have := HBS.out; simp; omega
          intro v' w2 hown' hgrow _
          have HO2 := hide (show OwnZ w2 w'.heap.size v' (tab (k + 1) (stg cs es)) by rw [tab_succ, HY.out]; exact OwnZ.step hown')
          have HB2 := hide (show Below w'.heap.size w' w2 from (bel_al HBW.out).grown hgrow (by simp; have := HBS.out; omega) (fun k hk => (World.ownsRow.lt HRO.out k hk).1))
          clear hown' hgrow
          go_wp2
          go_roundw
          case rel => exact ⟨k + 1, _, _, by omega, by have := HXI.out; omega, rfl, rfl, HPX.out.symm, HO2.out, HB2.out⟩
          case measure => have := HXI.out; simp [intOf]; omega
        · obtain rfl : k = m := by have := HXI.out; omega
          have HI := hide HRO.out.isInts
          go_wp2
          exact bodyPost_ret (v := .tuple #[u8, .nilIface]) (by simp [results, Tryd.results7, go_sem]) rfl ⟨_, rfl, HI.out, HBW.out⟩
    · obtain rfl : endsE es (n : Int) = E := by rw [← HE.out]; unfold costE; rw [if_pos c1, hn]
      obtain rfl : X = [] := by rw [← HX.out, if_neg c2]
      obtain ⟨E, hE⟩ : ∃ E, endsE es (n : Int) = E := ⟨_, rfl⟩
      rw [hE] at HK c2 ⊢
      rw [err_ne c2] at HK ⊢
      clear c1 hv hu hn hm g4' HE HX hE
      go_enter Tryd.func7, Tryd.ntmps7
      go_wp2_with (first | (go_at_call 15; refine HF.out.mono ?_; rintro e w' ⟨rfl, rfl⟩) | (go_at_call 4; refine HK.out.mono ?_; rintro e w' ⟨rfl, rfl⟩))
      exact bodyPost_ret (v := .tuple #[.slice none 0 0, .iface 26 (.int .i64 E)]) (by simp [results, Tryd.results7, go_sem]) rfl ⟨_, rfl, IsInts.nil _, Below.refl _ _⟩
  · obtain rfl : E = 1 := by rw [← HE.out]; unfold costE; rw [if_neg (by rw [c1]; decide)]
    obtain rfl : X = [] := by rw [← HX.out, if_neg (by decide)]
    rw [c1, err_ne (by decide)] at HF
    rw [err_ne (by decide)]
    clear c1 hv hu hn hm g4' HE HX
    go_enter Tryd.func7, Tryd.ntmps7
    go_wp2_with (go_at_call 15; refine HF.out.mono ?_; rintro e w' ⟨rfl, rfl⟩)
    exact bodyPost_ret (v := .tuple #[.slice none 0 0, .iface 26 (.int .i64 1)]) (by simp [results, Tryd.results7, go_sem]) rfl ⟨_, rfl, IsInts.nil _, Below.refl _ _⟩
end Go.Proofs.YtlbcmebifmebgafDoor
