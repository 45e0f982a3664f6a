/- What TimesOf of the document's answer comes to: the table of times. -/
import Derived.Test.YtcpgomjaegickagDoorClC
import Derived.Test.YtcpgomjaegickagDoorPlR2
import Derived.Deep.LoopGhost
import Derived.Deep.CutRange
import Derived.BigQuiet
namespace Go.Proofs.YtcpgomjaegickagDoor
open Go.RowKit
theorem plan_facts {p : List (List (Int × Int))} {m : Nat} (h : planE p (m : Int) = 0) : AllIn p ∧ doneB p = true ∧ 1 ≤ p.length ∧ p.length ≤ 6 ∧ 1 ≤ m ∧ m ≤ 12 ∧ ∀ s, s < p.length → (stA p s).length = 2 * m ∧ ∀ a ∈ stA p s, okA (m : Int) a := by
  obtain ⟨h1, h2, h3⟩ := planE_in h
  unfold rangeP at h1
  have hst : ∀ k, k < p.length → actsE (stA p k) (m : Int) = 0 := fun k hk => by
    obtain ⟨l, hl⟩ := stage_at hk
    rw [stA_at hl]
    exact stagesE_in h2 k l hl
  refine ⟨fun s k hs hk a ha => ?_, h3, by omega, by omega, by omega, by omega, fun s hs => ?_⟩
  · obtain ⟨q1, _⟩ := actsE_in (hst s hs)
    obtain ⟨r1, r2, r3, _⟩ := actsE_in (hst k hk)
    obtain ⟨i, hi⟩ := List.getElem?_of_mem (act_in r1 r2 r3 (q1 a ha))
    rw [whr_idx r2 hi]; omega
  · obtain ⟨r1, r2, r3, _⟩ := actsE_in (hst s hs)
    have := acts_len r1 r2
    exact ⟨by omega, r1⟩
def noT (p : List (List (Int × Int))) (k : Nat) : List (List (Int × Int)) := (List.range k).map (fun s => noS (stA p s).length)
theorem noT_succ (p : List (List (Int × Int))) (k : Nat) : noT p (k + 1) = noT p k ++ [noS (stA p k).length] := by simp [noT, List.range_succ]
theorem noT_len (p : List (List (Int × Int))) (k : Nat) : (noT p k).length = k := by simp [noT]
theorem noT_at {p : List (List (Int × Int))} {k s : Nat} (h : s < k) : stA (noT p k) s = noS (stA p s).length := stA_at (by unfold noT; simp [h])
theorem noT_shp (p : List (List (Int × Int))) : Shp p (noT p p.length) := ⟨noT_len _ _, fun s hs => by rw [noT_at hs]; simp [noS]⟩
theorem noT_bd (p : List (List (Int × Int))) : BdT (noT p p.length) 0 := ⟨Int.le_refl 0, fun t j x hx => by
  have ht : t < p.length := by
    rcases Nat.lt_or_ge t p.length with q | q
    · exact q
    · rw [stA_out (by rw [noT_len]; exact q)] at hx; simp at hx
  rw [noT_at ht] at hx
  obtain ⟨hj, e⟩ := List.getElem?_eq_some_iff.1 hx
  have : x = (0, 0) := by rw [← e]; simp [noS]
  subst this
  exact ⟨Int.le_refl 0, Int.le_refl 0, Int.le_refl 0⟩⟩
theorem ints_cell {w : World} {b off : Nat} {l : List Int} (h : ∀ i x, l[i]? = some x → w.cell? ⟨b, off + i, none⟩ = some (.int .i64 x)) {s : Nat} (hs : s < l.length) {W : World} (hb : Below w.heap.size w W) : W.cell? ⟨b, off + s, none⟩ = some (.int .i64 ((l[s]?).getD 0)) := by
  have := h s l[s] (List.getElem?_eq_getElem hs)
  rw [List.getElem?_eq_getElem hs]
  exact cell_bel hb this
theorem whr_lt (a : Int × Int) : ∀ l : List (Int × Int), whr a l < (l.length : Int)
  | [] => by simp [whr]
  | x :: t => by
    have := whr_lt a t
    unfold whr
    rw [List.length_cons]
    split
    · omega
    · split <;> omega
/-- How many rounds may still come. -/
def mea (p : List (List (Int × Int))) (g : List Nat) (more : Bool) : Nat := sumN (lens p) p.length - sumN g p.length + if more then 1 else 0
def bnd (p : List (List (Int × Int))) (g : List Nat) (more : Bool) : Int := ((sumN (lens p) p.length + 1 - mea p g more : Nat) : Int) * 200000000
theorem bnd_nonneg (p : List (List (Int × Int))) (g : List Nat) (more : Bool) : 0 ≤ bnd p g more := by unfold bnd; omega
theorem lens_sum {p : List (List (Int × Int))} {m : Nat} (h : ∀ s, s < p.length → (stA p s).length = 2 * m) : ∀ k, k ≤ p.length → sumN (lens p) k = 2 * m * k
  | 0, _ => by simp [sumN]
  | k + 1, hk => by
    have := lens_sum h k (by omega)
    have h1 := h k (by omega)
    unfold sumN
    rw [this, lens_at, h1, Nat.mul_succ]
set_option maxHeartbeats 32000000 in
set_option maxRecDepth 100000 in
theorem rtimes_any (v v1 v2 : Value) (p : List (List (Int × Int))) (th bk : List Int) (m : Nat) (w : World) (hv : IsPlan w v p) (hi1 : IsInts w v1 th) (hi2 : IsInts w v2 bk) (hp : planE p (m : Int) = 0) (hl1 : th.length = p.length) (hl2 : bk.length = p.length) (hc : Costs p th bk) :
    Calls Tryd.prog 7 #[v, v1, v2] w fun e w' => ∃ s T, e = .returned s ∧ IsPlan w' s T ∧ IsTm p th bk T ∧ Below w.heap.size w w' := by
  obtain ⟨hin, hdn, hn1, hn6, hm1, hm12, hst⟩ := plan_facts hp
  obtain ⟨a, cap, rfl, g2, g3, g4⟩ := hv
  obtain ⟨a1, cap1, rfl, k2, k3, k4⟩ := hi1
  obtain ⟨a2, cap2, rfl, j2, j3, j4⟩ := hi2
  obtain ⟨n, hn⟩ : ∃ n, p.length = n := ⟨_, rfl⟩
  obtain ⟨b, off, ha, hcl⟩ := g4.resolve_left (fun e => by rw [e] at hn1; simp at hn1)
  obtain ⟨b1, off1, ha1, hcl1⟩ := k4.resolve_left (fun e => by rw [e] at hl1; simp at hl1; omega)
  obtain ⟨b2, off2, ha2, hcl2⟩ := j4.resolve_left (fun e => by rw [e] at hl2; simp at hl2; omega)
  subst ha ha1 ha2
  have HP := hide (fun (W : World) (hb : Below w.heap.size w W) (s : Nat) (hs : s < n) => plan_cell hcl W hb (s := s) (by rw [hn]; exact hs))
  have HT1 := hide (fun (W : World) (hb : Below w.heap.size w W) (s : Nat) (hs : s < n) => ints_cell hcl1 (s := s) (by rw [hl1, hn]; exact hs) hb)
  have HT2 := hide (fun (W : World) (hb : Below w.heap.size w W) (s : Nat) (hs : s < n) => ints_cell hcl2 (s := s) (by rw [hl2, hn]; exact hs) hb)
  have HIN := hide hin
  have HDN := hide hdn
  have HST := hide hst
  have HC := hide hc
  have HN := hide hn
  have hni : (n : Int) ≤ 6 := by omega
  have hni1 : 1 ≤ (n : Int) := by omega
  rw [hl1] at k2 ⊢
  rw [hl2] at j2 ⊢
  rw [hn] at g2 k2 j2 hn1 hn6 ⊢
  clear g4 k4 j4 hcl hcl1 hcl2 hin hdn hst hc hp hl1 hl2 hn
  go_enter Tryd.func7, Tryd.ntmps7
  go_wp2
  go_loopw [7, 8] (fun ov sv wr => ∃ (k : Nat) (xi : Int) (gs : List Nat), k ≤ n ∧ xi = (k : Int) ∧ sv = .int .i64 xi ∧ OwnT wr w.heap.size ov gs (noT p k) ∧ Below w.heap.size w wr) (fun _ sv _ => n - (intOf sv).toNat)
  case atStart => exact ⟨0, 0, [], Nat.zero_le _, rfl, rfl, OwnT.nil _ _, Below.refl _ _⟩
  case round =>
    obtain ⟨k, xi, gs, hk, hxi, rfl, hro, hbw⟩ := hrel
    have HRO := hide hro
    have HBW := hide hbw
    have HXI := hide hxi
    have hx0 : 0 ≤ xi := by omega
    have hx6 : xi ≤ 6 := by omega
    obtain ⟨oa, ok, hoe⟩ := hro.shape
    rw [noT_len] at hoe
    subst hoe
    clear hro hbw hxi
    by_cases hlt : xi < (n : Int)
    · obtain ⟨la, lc, hce, _⟩ := HP.out wr HBW.out k (by have := HXI.out; omega)
      rw [show k = xi.toNat by have := HXI.out; omega] at hce
      obtain ⟨ln, hln⟩ : ∃ x, (stA p k).length = x := ⟨_, rfl⟩
      rw [show (stA p xi.toNat).length = ln by rw [← hln, show xi.toNat = k by have := HXI.out; omega]] at hce
      have hl24 : ln ≤ 24 := by have := (HST.out k (by have := HN.out; have := HXI.out; omega)).1; omega
      have hmk := run_mks (ln : Int) ln rfl (by omega) wr
      obtain ⟨RC, hRC⟩ : ∃ RC, RC = ((flatS (noS ln)).map (Value.int .i64)).toArray := ⟨_, rfl⟩
      rw [← hRC] at hmk
      have HRC := hide hRC
      have HLN := hide hln
      clear hRC hln
      go_wp2_with (at_builtin; refine app_tab (W := wr) rfl _ _ rfl w.heap.size ln (.slice oa k ok) gs (noT p k) (by rfl) HRO.out (by rfl) ?h1 ?h2 RC HRC.out ?_)
      case h1 => rw [noT_len]; omega
      case h2 => exact HBW.out.size
      intro v' w2 hown hbel
      have HO2 := hide (show OwnT w2 w.heap.size v' (gs ++ [wr.heap.size]) (noT p (k + 1)) by rw [noT_succ, HLN.out]; exact hown)
      have HB2 := hide (HBW.out.trans hbel)
      clear hown hbel hmk
      go_wp2
      go_roundw
      case rel => exact ⟨k + 1, _, _, by have := HXI.out; omega, by have := HXI.out; omega, rfl, HO2.out, HB2.out⟩
      case measure => have := HXI.out; simp [intOf]; omega
    · obtain rfl : k = n := by have := HXI.out; omega
      have hne : noT p k ≠ [] := fun e => by have := noT_len p k; rw [e] at this; simp at this; omega
      obtain ⟨ob, oc, hoe, o1, o2, o3, htab⟩ := HRO.out.tab hne
      rw [noT_len] at hoe o1
      have hoa := (Value.slice.inj hoe).1
      have hok := (Value.slice.inj hoe).2.2
      subst hoa hok
      have HTAB := hide htab
      have HOB := hide (And.intro o1 (And.intro o2 o3))
      obtain ⟨tot, htot⟩ : ∃ x, sumN (lens p) p.length = x := ⟨_, rfl⟩
      have HTOT := hide htot
      have htot144 : tot ≤ 144 := by
        rw [← htot, lens_sum (fun s hs => (HST.out s hs).1) p.length (Nat.le_refl _), HN.out]
        have h1 : 2 * m ≤ 24 := by omega
        calc 2 * m * k ≤ 24 * 6 := Nat.mul_le_mul h1 hn6
          _ = 144 := rfl
      have HPN := hide (show noT p k = noT p p.length by rw [HN.out])
      clear htab hne hoe htot
      go_wp2
      go_loopg [9] (tot + 1) (fun kx mv w2 => ∃ (T : List (List (Int × Int))) (g : List Nat) (more : Bool), mv = .bool more ∧ TabT w2 w.heap.size ob gs T ∧ Below w.heap.size w w2 ∧ RndT p th bk T g more ∧ BdT T (bnd p g more) ∧ mea p g more ≤ kx)
      case atStart =>
        refine ⟨noT p k, zeroN p, true, rfl, HTAB.out, HBW.out, ⟨by rw [HPN.out]; exact noT_shp p, good_zero, fun e => by cases e⟩, ?_, ?_⟩
        · rw [HPN.out]; exact (noT_bd p).mono (bnd_nonneg _ _ _)
        · unfold mea; rw [HTOT.out]; simp
      case round =>
        obtain ⟨T, g, more, rfl, htab, hbw, hrd, hbd, hme⟩ := hrel
        have HTB := hide htab
        have HB2 := hide hbw
        have HRD := hide hrd
        have HBD := hide hbd
        cases more with
        | false =>
          have HE := hide (show IsPlan wr (.slice (some ⟨ob, 0, none⟩) k ok) T by
            have h := htab.isPlan (cap := ok) (by rw [hrd.shp.1, HN.out]; exact HOB.out.1) HOB.out.2.1 (fun s hs => by rw [hrd.shp.1] at hs; rw [hrd.shp.2 s hs, (HST.out s hs).1]; omega)
            rw [hrd.shp.1, HN.out] at h
            exact h)
          clear htab hbw hrd hbd hme
          go_wp2
          exact bodyPost_ret (v := .slice (some ⟨ob, 0, none⟩) k ok) (by simp [results, Tryd.results7, go_sem]) rfl ⟨_, T, rfl, HE.out, HRD.out.fin rfl, HB2.out⟩
        | true =>
          have HME := hide hme
          clear htab hbw hrd hbd hme
          obtain ⟨B0, hB0⟩ : ∃ B0, bnd p g true = B0 := ⟨_, rfl⟩
          have HB0 := hide hB0
          have hbp : B0 ≤ 30000000000 := by
            rw [← hB0]
            unfold bnd
            rw [HTOT.out]
            have h1 : ((tot + 1 - mea p g true : Nat) : Int) ≤ 145 := by omega
            calc ((tot + 1 - mea p g true : Nat) : Int) * 200000000 ≤ 145 * 200000000 := Int.mul_le_mul_of_nonneg_right h1 (by decide)
              _ ≤ 30000000000 := by decide
          have hb0 : 0 ≤ B0 := by rw [← hB0]; exact bnd_nonneg _ _ _
          rw [hB0] at HBD
          clear hB0
          go_wp2
          go_loopw [9, 10] (fun mv sv w3 => ∃ (T' : List (List (Int × Int))) (mo : Bool) (t : Nat) (xt : Int), t ≤ k ∧ xt = (t : Int) ∧ sv = .int .i64 xt ∧ mv = .bool mo ∧ TabT w3 w.heap.size ob gs T' ∧ Below w.heap.size w w3 ∧ PassT p th bk T g T' t 0 mo ∧ BdT T' (B0 + 24 * xt * 1000000)) (fun _ sv _ => k - (intOf sv).toNat)
          case atStart => exact ⟨T, false, 0, 0, Nat.zero_le _, rfl, rfl, rfl, HTB.out, HB2.out, PassT.first g HRD.out.shp, by simpa using HBD.out⟩
          case round =>
            obtain ⟨T', mo, t, xt, ht, hxt, rfl, rfl, htab, hbw, hps, hbd⟩ := hrel
            have HT3 := hide htab
            have HB3 := hide hbw
            have HP3 := hide hps
            have HD3 := hide hbd
            have HXT := hide hxt
            have hy0 : 0 ≤ xt := by omega
            have hy6 : xt ≤ 6 := by omega
            clear htab hbw hps hbd hxt
            by_cases hlt2 : xt < (k : Int)
            · have htk : t < p.length := by have := HXT.out; have := HN.out; omega
              have HTK := hide htk
              obtain ⟨ln, hln⟩ : ∃ x, (stA p t).length = x := ⟨_, rfl⟩
              have hl24 : ln ≤ 24 := by have := (HST.out t htk).1; omega
              have HLN := hide hln
              clear htk hln
              go_wp2
              go_loopw [9, 11] (fun mv iv w4 => ∃ (T4 : List (List (Int × Int))) (mo4 : Bool) (j : Nat) (xj : Int), j ≤ ln ∧ xj = (j : Int) ∧ iv = .int .i64 xj ∧ mv = .bool mo4 ∧ TabT w4 w.heap.size ob gs T4 ∧ Below w.heap.size w w4 ∧ PassT p th bk T g T4 t j mo4 ∧ BdT T4 (B0 + (24 * xt + xj) * 1000000)) (fun _ iv _ => ln - (intOf iv).toNat)
              case atStart => exact ⟨T', mo, 0, 0, Nat.zero_le _, rfl, rfl, rfl, HT3.out, HB3.out, HP3.out, by have := HD3.out; simpa using this⟩
              case round =>
                obtain ⟨W4, hW4⟩ : ∃ x, x = wr := ⟨_, rfl⟩
                subst hW4
                obtain ⟨T4, mo4, j, xj, hj, hxj, rfl, rfl, htab, hbw, hps, hbd⟩ := hrel
                have HT4 := hide htab
                have HB4 := hide hbw
                have HP4 := hide hps
                have HD4 := hide hbd
                have HXJ := hide hxj
                have hz0 : 0 ≤ xj := by omega
                have hz24 : xj ≤ 24 := by omega
                obtain ⟨la, lc, hce, hac⟩ := HP.out W4 hbw t (by have := HXT.out; omega)
                rw [show t = xt.toNat by have := HXT.out; omega] at hce
                rw [show (stA p xt.toNat).length = ln by rw [← HLN.out, show xt.toNat = t by have := HXT.out; omega]] at hce
                rw [HLN.out] at hac
                clear htab hbw hps hbd hxj
                by_cases hlt3 : xj < (ln : Int)
                · obtain ⟨x, hx⟩ := act_at (l := stA p t) (i := j) (by have := HLN.out; have := HXJ.out; omega)
                  obtain ⟨ra, rc, hre, r2, r3, r4⟩ := id hac
                  have hra := (Value.slice.inj hre).1
                  subst hra
                  obtain ⟨b3, off3, ha3, hcl3⟩ := r4.resolve_left (fun e => by rw [e] at hx; simp at hx)
                  subst ha3
                  obtain ⟨d1, d2⟩ := hcl3 j x hx
                  rw [show j = xj.toNat by have := HXJ.out; omega] at d1 d2
                  have hok := (HST.out t HTK.out).2 x (List.mem_of_getElem? hx)
                  obtain ⟨ak, am⟩ := x
                  dsimp only at d1 d2
                  obtain ⟨o1, o2, _, _⟩ := hok
                  dsimp only at o1 o2
                  have HX := hide hx
                  have HAK := hide (And.intro o1 o2)
                  obtain ⟨gt, hgt, hct, hrt⟩ := HT4.out.at_ (s := t) (by rw [HP4.out.shp.1]; exact HTK.out)
                  rw [HP4.out.shp.2 t HTK.out, HLN.out] at hct
                  rw [show t = xt.toNat by have := HXT.out; omega] at hct
                  have HGT := hide hgt
                  have HRT := hide hrt
                  obtain ⟨y, hy⟩ : ∃ y, (stA T4 t)[j]? = some y := ⟨_, List.getElem?_eq_getElem (by rw [HP4.out.shp.2 t HTK.out, HLN.out]; have := HXJ.out; omega)⟩
                  have HY := hide hy
                  obtain ⟨F0, hF0⟩ : ∃ F0, prevT T4 t j = F0 := ⟨_, rfl⟩
                  have HF0 := hide hF0
                  have HPV := hide (show 0 < xj → W4.cell? ⟨gt, (xj.toNat - 1) * 2 + 1, none⟩ = some (.int .i64 F0) from fun h => by
                    have hj0 : j ≠ 0 := by have := HXJ.out; omega
                    have hl : j - 1 < (stA T4 t).length := by rw [HP4.out.shp.2 t HTK.out, HLN.out]; have := HXJ.out; omega
                    obtain ⟨z, he⟩ : ∃ z, (stA T4 t)[j - 1]? = some z := ⟨_, List.getElem?_eq_getElem hl⟩
                    have hcz := hrt.cell (flatS_at he).2
                    rw [show xj.toNat - 1 = j - 1 by have := HXJ.out; omega, hcz, ← hF0]
                    unfold prevT
                    rw [if_neg hj0]
                    unfold toT
                    rw [he]
                    rfl)
                  obtain ⟨W5, hW5⟩ : ∃ x, x = W4.alloc (.cells #[.int .i64 ak, .int .i64 am] 50) := ⟨_, rfl⟩
                  have HW5 := hide hW5
                  have HB45 := hide (show Below W4.heap.size W4 W5 by rw [hW5]; exact below_one _ _)
                  have HQ5 := hide (show W5.cell? ⟨W4.heap.size, 0, none⟩ = some (.int .i64 ak) ∧ W5.cell? ⟨W4.heap.size, 1, none⟩ = some (.int .i64 am) by rw [hW5]; exact ⟨by simp, by simp⟩)
                  clear hac hre r2 r3 r4 hcl3 hx o1 o2 hgt hrt hy hF0 hW5
                  go_upto_if 57 with fail
                  go_cut [13] from 49 to 137 (fun fv wx => fv = .int .i64 F0 ∧ wx = W5)
                  case first =>
                    by_cases hj0 : 0 < xj
                    · have hpv := HPV.out hj0
                      replace hpv : (W4.alloc (.cells #[.int .i64 ak, .int .i64 am] 50)).cell? ⟨gt, (xj.toNat - 1) * 2 + 1, none⟩ = some (.int .i64 F0) := cell_bel (below_one _ _) hpv
                      have hct5 := cell_bel (below_one W4 (.cells #[.int .i64 ak, .int .i64 am] 50)) hct
                      go_wp2
                      go_meet
                      exact ⟨by first | rfl | trivial, HW5.out.symm⟩
                    · have HZ := hide (show (0 : Int) = F0 by rw [← HF0.out]; unfold prevT; rw [if_pos (by have := HXJ.out; omega)])
                      go_wp2
                      go_meet
                      exact ⟨by rw [← HZ.out], HW5.out.symm⟩
                  case rest =>
                    obtain ⟨rfl, hwc⟩ := hcut
                    subst hwc
                    have HB5 := hide (below_go HB4.out HB45.out)
                    have HT5 := hide (HT4.out.below HB45.out)
                    obtain ⟨q1, q2⟩ := HQ5.out
                    have ct1 := HT1.out wc HB5.out t (by have := HXT.out; omega)
                    have ct2 := HT2.out wc HB5.out t (by have := HXT.out; omega)
                    rw [show t = xt.toNat by have := HXT.out; omega] at ct1 ct2
                    obtain ⟨x1, hx1⟩ : ∃ x, (th[xt.toNat]?).getD 0 = x := ⟨_, rfl⟩
                    obtain ⟨x2, hx2⟩ : ∃ x, (bk[xt.toNat]?).getD 0 = x := ⟨_, rfl⟩
                    rw [hx1] at ct1
                    rw [hx2] at ct2
                    obtain ⟨LG, hLG⟩ : ∃ x, lngA th bk t (ak, am) = x := ⟨_, rfl⟩
                    have HLG := hide (show (if ak = 2 then x2 else x1) = LG by rw [← hLG, ← hx1, ← hx2, show xt.toNat = t by have := HXT.out; omega]; rfl)
                    have HLC := hide (show 1 ≤ LG ∧ LG ≤ 1000000 by rw [← hLG]; exact HC.out t HTK.out _)
                    have HLL := hide hLG
                    obtain ⟨KK, hKK⟩ : ∃ x : Int, x = if ak = 2 then xt + 1 else xt - 1 := ⟨_, rfl⟩
                    have HKK := hide hKK
                    have hk0 : -1 ≤ KK := by rw [hKK]; split <;> omega
                    have hk7 : KK ≤ 7 := by rw [hKK]; split <;> omega
                    clear hx1 hx2 hLG hKK
                    go_upto_if 75 with fail
                    go_cut [14, 15] from 49 to 137 (fun lv kv wx => lv = .int .i64 LG ∧ kv = .int .i64 KK ∧ wx = wc)
                    case first =>
                      by_cases hak : ak = 2
                      · have HZ := hide (show x2 = LG ∧ xt + 1 = KK from ⟨by rw [← HLG.out, if_pos hak], by rw [HKK.out, if_pos hak]⟩)
                        have n1 : (ak == 2) = true := by simp [hak]
                        clear hak
                        go_wp2
                        go_meet
                        exact ⟨by rw [← HZ.out.1], by rw [← HZ.out.2], by first | rfl | trivial⟩
                      · have HZ := hide (show x1 = LG ∧ xt - 1 = KK from ⟨by rw [← HLG.out, if_neg hak], by rw [HKK.out, if_neg hak]⟩)
                        have n1 : (ak == 2) = false := by simpa using hak
                        clear hak
                        go_wp2
                        go_meet
                        exact ⟨by rw [← HZ.out.1], by rw [← HZ.out.2], by first | rfl | trivial⟩
                    case rest =>
                      obtain ⟨rfl, rfl, hwc⟩ := hcut
                      subst hwc
                      obtain ⟨DP, hDP⟩ : ∃ q : Bool, q = (decide (0 ≤ KK) && decide (KK < (k : Int))) := ⟨_, rfl⟩
                      have HDP := hide hDP
                      obtain ⟨FR, hFR⟩ : ∃ x, fromT p T4 t j (ak, am) = x := ⟨_, rfl⟩
                      have HFR := hide hFR
                      have HFB := hide (show 0 ≤ FR ∧ FR ≤ B0 + (24 * xt + xj) * 1000000 by rw [← hFR]; exact HD4.out.from_ t j _)
                      have HDN0 := hide (show DP = false → F0 = FR from fun e => by
                        rw [← hFR, ← HF0.out]
                        unfold fromT
                        rw [show depK (ak, am) t p.length = none by
                          have h1 := HKK.out
                          have h2 := HXT.out
                          have h3 := HN.out
                          rw [hDP, Bool.and_eq_false_iff] at e
                          unfold depK
                          by_cases c : ak = 2
                          · rw [if_pos c] at h1 ⊢
                            rw [if_neg (by rcases e with e | e <;> simp at e <;> omega)]
                          · rw [if_neg c] at h1 ⊢
                            rw [if_pos (by rcases e with e | e <;> simp at e <;> omega)]])
                      have HDY := hide (show DP = true → ∃ kk : Nat, KK = (kk : Int) ∧ kk < p.length ∧ depK (ak, am) t p.length = some kk from fun e => by
                        have h1 := HKK.out
                        have h2 := HXT.out
                        have h3 := HN.out
                        rw [hDP, Bool.and_eq_true] at e
                        simp at e
                        refine ⟨KK.toNat, by omega, by omega, ?_⟩
                        unfold depK
                        by_cases c : ak = 2
                        · rw [if_pos c] at h1 ⊢
                          rw [if_pos (by omega), show KK.toNat = t + 1 by omega]
                        · rw [if_neg c] at h1 ⊢
                          rw [if_neg (by omega), show KK.toNat = t - 1 by omega])
                      clear hDP hFR ct1 ct2
                      go_upto_region 24 with fail
                      go_cut [89] from 49 to 137 (fun c wx => c = .bool DP ∧ wx = wc)
                      case first =>
                        by_cases e1 : 0 ≤ KK
                        · by_cases e2 : KK < (k : Int)
                          · have HZ := hide (show true = DP by rw [HDP.out]; simp [e1, e2])
                            go_wp2
                            go_meet
                            exact ⟨by rw [← HZ.out], by first | rfl | trivial⟩
                          · have HZ := hide (show false = DP by rw [HDP.out]; simp [e2])
                            go_wp2
                            go_meet
                            exact ⟨by rw [← HZ.out], by first | rfl | trivial⟩
                        · have HZ := hide (show false = DP by rw [HDP.out]; simp [e1])
                          go_wp2
                          go_meet
                          exact ⟨by rw [← HZ.out], by first | rfl | trivial⟩
                      case rest =>
                        obtain ⟨rfl, hwc⟩ := hcut
                        subst hwc
                        have HBC := hide (below_go HB4.out HB45.out)
                        obtain ⟨W6, hW6⟩ : ∃ x, x = wc := ⟨_, rfl⟩
                        subst hW6
                        go_upto_if 89 with fail
                        go_cut [13, 16] from 49 to 137 (fun fv wv wx => fv = .int .i64 FR ∧ ∃ q, wx = W6.drewN q)
                        case first =>
                          cases DP with
                          | false =>
                            have HZ := hide (HDN0.out rfl)
                            go_wp2
                            go_meet
                            exact ⟨by rw [HZ.out], 0, rfl⟩
                          | true =>
                            obtain ⟨kk, hkk, hkn, hdp⟩ := HDY.out rfl
                            obtain ⟨ka, kc, hkc, hki⟩ := HP.out W6 HB5.out kk (by have := HN.out; omega)
                            obtain ⟨gk, _, hck, hrk⟩ := HT5.out.at_ (s := kk) (by rw [HP4.out.shp.1]; exact hkn)
                            rw [HP4.out.shp.2 kk hkn] at hck
                            obtain ⟨kn, hkl⟩ : ∃ x, (stA p kk).length = x := ⟨_, rfl⟩
                            rw [hkl] at hck hkc hki
                            rw [show kk = KK.toNat by omega] at hck hkc
                            obtain ⟨wh, hwh⟩ : ∃ x, whr (ak, am) (stA p kk) = x := ⟨_, rfl⟩
                            have hw0 : 0 ≤ wh := by rw [← hwh]; exact HIN.out t kk HTK.out hkn _ (List.mem_of_getElem? HX.out)
                            have hw1 : wh < (kn : Int) := by rw [← hwh, ← hkl]; exact whr_lt _ _
                            obtain ⟨z, hz⟩ : ∃ z, (stA T4 kk)[wh.toNat]? = some z := ⟨_, List.getElem?_eq_getElem (by rw [HP4.out.shp.2 kk hkn, hkl]; omega)⟩
                            have hcz := hrk.cell (flatS_at hz).2
                            obtain ⟨tk, htk⟩ : ∃ x, z.2 = x := ⟨_, rfl⟩
                            rw [htk] at hcz
                            have HFE := hide (show (if F0 < tk then tk else F0) = FR by
                              rw [← HFR.out]
                              unfold fromT
                              rw [hdp]
                              dsimp only
                              rw [hwh, HF0.out, show toT T4 kk wh.toNat = tk by unfold toT; rw [hz]; exact htk])
                            have HKI := hide hki
                            have HWH := hide hwh
                            have e1 : 0 ≤ KK := by omega
                            have e2 : KK < (k : Int) := by have := HN.out; omega
                            have hkn24 : kn ≤ 24 := by rw [← hkl, (HST.out kk hkn).1]; omega
                            clear hki hwh hrk hz htk hdp hkk hkl
                            go_wp2
                            go_quiet (exact Calls.quiet_of_same (where_any _ (stA p kk) ak am _ (HKI.out.below (below_drewN _ _))))
                            rw [HWH.out]
                            by_cases hgt : F0 < tk
                            · have HZ := hide (show tk = FR by rw [← HFE.out, if_pos hgt])
                              go_wp2
                              go_meet
                              exact ⟨by rw [HZ.out], _, rfl⟩
                            · have HZ := hide (show F0 = FR by rw [← HFE.out, if_neg hgt])
                              go_wp2
                              go_meet
                              exact ⟨by rw [HZ.out], _, rfl⟩
                        case rest =>
                          obtain ⟨rfl, q, hwc⟩ := hcut
                          have HB7 := hide (show Below W4.heap.size W4 wc by rw [hwc]; exact below_go HB45.out (below_drewN _ _))
                          have HW7 := hide (below_go HB4.out HB7.out)
                          have HT7 := hide (HT4.out.below HB7.out)
                          clear hwc q1 q2
                          obtain ⟨y1, y2⟩ := y
                          replace hct := cell_bel HB7.out hct
                          obtain ⟨ff0, ff1⟩ := HFB.out
                          obtain ⟨lg0, lg1⟩ := HLC.out
                          have ff2 : FR ≤ 40000000000 := by omega
                          obtain ⟨TO, hTO⟩ : ∃ x, FR + LG = x := ⟨_, rfl⟩
                          have hwr : IntKind.i64.wrap (FR + LG) = TO := by rw [← hTO, IntKind.wrap_i64]; omega
                          have HNW := hide (show newT p th bk T4 t j (ak, am) = (FR, TO) by unfold newT; rw [HFR.out, HLL.out, hTO])
                          clear hTO
                          go_upto_region 29 with fail
                          obtain ⟨W8, hW8⟩ : ∃ x, x = wc.alloc (.cells #[.int .i64 FR, .int .i64 TO] 36) := ⟨_, rfl⟩
                          have HB8 := hide (show Below wc.heap.size wc W8 by rw [hW8]; exact below_one _ _)
                          have z1 : W8.cell? ⟨wc.heap.size, 0, none⟩ = some (.int .i64 FR) := by rw [hW8]; simp
                          have z2 : W8.cell? ⟨wc.heap.size, 1, none⟩ = some (.int .i64 TO) := by rw [hW8]; simp
                          rw [← hW8]
                          clear hW8 hwr
                          have HW8 := hide (below_go HW7.out HB8.out)
                          have HT8 := hide (HT7.out.below HB8.out)
                          have hrow := HRT.out.below (below_go HB7.out HB8.out) HRT.out.lt
                          have c1 := hrow.cell (flatS_at HY.out).1
                          have c2 := hrow.cell (flatS_at HY.out).2
                          rw [show j = xj.toNat by have := HXJ.out; omega] at c1 c2
                          have f1 := hrow.frozen (xj.toNat * 2)
                          have f2 := hrow.frozen (xj.toNat * 2 + 1)
                          replace hct := cell_bel HB8.out hct
                          dsimp only at c1 c2
                          clear hrow
                          have HSTY := hide (show (y1, y2) = (FR, TO) → PassT p th bk T g T4 t (j + 1) mo4 from fun e => HP4.out.stay HIN.out HTK.out HX.out (by rw [HNW.out, ← e]; exact HY.out))
                          have HCHG := hide (show (y1, y2) ≠ (FR, TO) → PassT p th bk T g (setT T4 t j (FR, TO)) t (j + 1) true from fun e => by
                            have := HP4.out.chg HIN.out HRD.out.good HTK.out HX.out (by rw [HNW.out, HY.out]; exact fun q => e (Option.some.inj q))
                            rw [HNW.out] at this
                            exact this)
                          have HBDS := hide (show BdT T4 (B0 + (24 * xt + (xj + 1)) * 1000000) from HD4.out.mono (by omega))
                          have HBDC := hide (show BdT (setT T4 t j (FR, TO)) (B0 + (24 * xt + (xj + 1)) * 1000000) by
                            have := HD4.out.set (i := j) (a := (ak, am)) HC.out HTK.out (by rw [HP4.out.shp.1]; exact HTK.out)
                            rw [HNW.out] at this
                            exact this.mono (by omega))
                          have HTQ := hide (fun q => HT8.out.below (below_drewN W8 q))
                          have HWQ := hide (fun q => below_go HW8.out (below_drewN W8 q))
                          have HTZ := hide (show ∀ q, TabT ((((W8.drewN q).setCell ⟨gt, xj.toNat * 2, none⟩ (.int .i64 FR)).setCell ⟨gt, xj.toNat * 2 + 1, none⟩ (.int .i64 TO)).drew) w.heap.size ob gs (setT T4 t j (FR, TO)) from fun q => by
                            have := (HTQ.out q).set (by rw [HP4.out.shp.1]; exact HTK.out) HGT.out j (FR, TO)
                            rw [show j = xj.toNat by have := HXJ.out; omega] at this ⊢
                            exact this.below ⟨rfl, rfl, rfl, Nat.le_refl _, fun _ _ => rfl⟩)
                          have HWZ := hide (show ∀ q, Below w.heap.size w ((((W8.drewN q).setCell ⟨gt, xj.toNat * 2, none⟩ (.int .i64 FR)).setCell ⟨gt, xj.toNat * 2 + 1, none⟩ (.int .i64 TO)).drew) from fun q => by
                            have hg := HT4.out.lo gt (List.mem_of_getElem? HGT.out)
                            exact below_dr (((HWQ.out q).setCell hg _).setCell hg _))
                          by_cases hyy : y1 = FR ∧ y2 = TO
                          · obtain ⟨e1, e2⟩ := hyy
                            have HS := hide (HSTY.out (by rw [e1, e2]))
                            subst e1 e2
                            go_wp2
                            go_quiet (fail)
                            go_wp2
                            go_roundw
                            case rel => exact ⟨T4, mo4, j + 1, xj + 1, by have := HXJ.out; omega, by have := HXJ.out; omega, rfl, rfl, HTQ.out nq, HWQ.out nq, HS.out, HBDS.out⟩
                            case measure => have := HXJ.out; simp [intOf]; omega
                          · have HS := hide (HCHG.out (fun e => hyy ⟨(Prod.mk.inj e).1, (Prod.mk.inj e).2⟩))
                            have HNE := hide hyy
                            clear hyy
                            by_cases e1 : y1 = FR
                            · have HE2 := hide (show y2 ≠ TO from fun e => HNE.out ⟨e1, e⟩)
                              subst e1
                              go_wp2
                              have n2 : (y2 == TO) = false := by simpa using HE2.out
                              go_quiet (fail)
                              go_wp2
                              refine region_tail 7 (by kernel_rfl) (by kernel_rfl) ?_
                              simp only [List.take_succ_cons, List.take_zero, List.drop_succ_cons, List.drop_zero]
                              repeat still_step
                              refine wpStill_nil ?_
                              go_wp2
                              go_roundw
                              case rel => exact ⟨_, true, j + 1, xj + 1, by have := HXJ.out; omega, by have := HXJ.out; omega, rfl, rfl, HTZ.out nq, HWZ.out nq, HS.out, HBDC.out⟩
                              case measure => have := HXJ.out; simp [intOf]; omega
                            · have HE1 := hide e1
                              clear e1
                              go_wp2
                              have n1 : (y1 == FR) = false := by simpa using HE1.out
                              go_quiet (fail)
                              go_wp2
                              refine region_tail 7 (by kernel_rfl) (by kernel_rfl) ?_
                              simp only [List.take_succ_cons, List.take_zero, List.drop_succ_cons, List.drop_zero]
                              repeat still_step
                              refine wpStill_nil ?_
                              go_wp2
                              go_roundw
                              case rel => exact ⟨_, true, j + 1, xj + 1, by have := HXJ.out; omega, by have := HXJ.out; omega, rfl, rfl, HTZ.out nq, HWZ.out nq, HS.out, HBDC.out⟩
                              case measure => have := HXJ.out; simp [intOf]; omega
                · have HU := hide (HP4.out.next (by rw [HLN.out]; have := HXJ.out; omega))
                  have HBU := hide (show BdT T4 (B0 + 24 * (xt + 1) * 1000000) from HD4.out.mono (by omega))
                  clear hac
                  go_wp2
                  go_roundw
                  case rel => exact ⟨T4, mo4, t + 1, _, by have := HXT.out; omega, by have := HXT.out; omega, rfl, rfl, HT4.out, HB4.out, HU.out, HBU.out⟩
                  case measure => have := HXT.out; simp [intOf]; omega
            · obtain rfl : t = k := by have := HXT.out; omega
              have HEND := hide (show PassT p th bk T g T' p.length 0 mo by rw [HN.out]; exact HP3.out)
              have HRN := hide (HEND.out.done HIN.out HRD.out.good)
              have HMEA := hide (show mea p (nextG p g) mo + 1 ≤ mea p g true by
                have h1 := good_sum HRN.out.good
                have h2 := good_sum HRD.out.good
                cases mo with
                | true =>
                  have h3 := HEND.out.more_ HDN.out
                  unfold mea
                  simp
                  omega
                | false =>
                  have h3 : sumN g p.length ≤ sumN (nextG p g) p.length := sumN_le (fun s hs => nextG_le hs)
                  unfold mea
                  simp
                  omega)
              have HBN := hide (show BdT T' (bnd p (nextG p g) mo) by
                refine HD3.out.mono ?_
                rw [← HB0.out]
                unfold bnd
                have h1 := HMEA.out
                have h2 := HXT.out
                have h3 : mea p g true ≤ sumN (lens p) p.length + 1 := by unfold mea; simp <;> omega
                have h4 : ((sumN (lens p) p.length + 1 - mea p g true : Nat) : Int) + 1 ≤ ((sumN (lens p) p.length + 1 - mea p (nextG p g) mo : Nat) : Int) := by omega
                omega)
              go_wp2
              go_roundg (mea p (nextG p g) mo)
              case measure => have h1 := HMEA.out; have h2 := HME.out; omega
              case rel => exact ⟨T', nextG p g, mo, rfl, HT3.out, HB3.out, HRN.out, HBN.out, Nat.le_refl _⟩
end Go.Proofs.YtcpgomjaegickagDoor
