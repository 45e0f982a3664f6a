/- What kept of the laws comes to: what one stage keeps behind some act. -/
import Derived.Test.YtgdggaieekakhagDoorPkP
import Derived.Test.YtgdggaieekakhagDoorPlR2
import Derived.BigQuiet
import Derived.Deep.CutRange
namespace Go.Proofs.YtgdggaieekakhagDoor
open Go.RowKit
set_option maxHeartbeats 16000000 in
set_option maxRecDepth 100000 in
theorem kept_any (v sv : Value) (l : List (Int × Int)) (zs : List Int) (m i : Nat) (xi : Int) (w : World) (hv : IsActs w v l) (hs : IsInts w sv zs) (hxi : xi = (i : Int)) (hi : i < l.length) (h24 : l.length ≤ 24) (hok : ∀ x ∈ l, okA (m : Int) x) (hz : zs.length = m) (hb : ∀ x ∈ zs, 0 ≤ x ∧ x ≤ 1000000) :
    Calls Tryd.prog 15 #[v, .int .i64 xi, sv] w fun e w' => e = .returned (.int .i64 (kpX l zs (i + 1))) ∧ Below w.heap.size w w' := by
  obtain ⟨a, cap, rfl, g2, g3, g4⟩ := hv
  obtain ⟨a1, cap1, rfl, k2, k3, k4⟩ := hs
  obtain ⟨n, hn⟩ : ∃ n, l.length = n := ⟨_, rfl⟩
  obtain ⟨b, off, rfl, hcl⟩ := g4.resolve_left (fun e => by rw [e] at hi; simp at hi)
  have HCL := hide hcl
  have HZ4 := hide k4
  have HN := hide hn
  have HOK := hide hok
  have HZ := hide hz
  have HB := hide hb
  have HXI := hide hxi
  have HI := hide hi
  have hx0 : 0 ≤ xi := by omega
  have hx1 : xi ≤ 23 := by omega
  rw [hz] at k2 ⊢
  rw [hn] at g2 hi h24 ⊢
  have HACT := hide (show ∀ k, k < n → ∃ ak am : Int, ∃ sz : Int, l[k]? = some (ak, am) ∧ 1 ≤ ak ∧ ak ≤ 2 ∧ 0 ≤ am ∧ am < (m : Int) ∧ szA zs (ak, am) = sz ∧ zs[am.toNat]? = some sz from fun k hk => by
    obtain ⟨x, hx⟩ := act_at (l := l) (i := k) (by omega)
    obtain ⟨o1, o2, o3, o4⟩ := hok x (List.mem_of_getElem? hx)
    obtain ⟨ak, am⟩ := x
    have hzs : zs[am.toNat]? = some zs[am.toNat] := List.getElem?_eq_getElem (by dsimp only at o3 o4; omega)
    exact ⟨ak, am, zs[am.toNat], hx, o1, o2, o3, o4, by unfold szA; rw [hzs]; rfl, hzs⟩)
  clear g4 k4 hcl hok hz hb hxi hn
  go_enter Tryd.func15, Tryd.ntmps15
  go_wp2
  go_loopw [7, 8, 9] (fun sv kv _ wr => ∃ (k : Nat) (xk s : Int), k ≤ i + 1 ∧ xk = (k : Int) ∧ kv = .int .i64 xk ∧ sv = .int .i64 s ∧ s = kpX l zs k ∧ Below w.heap.size w wr) (fun _ kv _ _ => i + 1 - (intOf kv).toNat)
  case atStart => exact ⟨0, 0, 0, Nat.zero_le _, rfl, rfl, rfl, rfl, Below.refl _ _⟩
  case round =>
    obtain ⟨k, xk, s, hk, hxk, rfl, rfl, hs, hbw⟩ := hrel
    have HXK := hide hxk
    have HS := hide hs
    have HBW := hide hbw
    have hsb := kpX_bd (l := l) HB.out k (by omega)
    rw [← hs] at hsb
    obtain ⟨hsb0, hsb1⟩ := hsb
    have hk0 : 0 ≤ xk := by omega
    have hk1 : xk ≤ 24 := by omega
    clear hxk hs hbw
    by_cases hlt : xk ≤ xi
    · have hkn : k < n := by have := HXK.out; have := HXI.out; omega
      have hxn : xk < (n : Int) := by have := HXK.out; omega
      obtain ⟨ak, am, sz, hx, o1, o2, o3, o4, hsz, hzs⟩ := HACT.out k hkn
      obtain ⟨d1, d2⟩ := HCL.out k (ak, am) hx
      replace d1 := cell_bel HBW.out d1
      replace d2 := cell_bel HBW.out d2
      rw [show k = xk.toNat by have := HXK.out; omega] at d1 d2
      dsimp only at d1 d2
      obtain ⟨b1, o1', ha1, hc1⟩ := HZ4.out.resolve_left (fun e => by rw [e] at hzs; simp at hzs)
      subst ha1
      have d3 := cell_bel HBW.out (hc1 am.toNat sz hzs)
      have HSZ := hide hsz
      have hszb : 0 ≤ sz ∧ sz ≤ 1000000 := HB.out sz (List.mem_of_getElem? hzs)
      obtain ⟨hz0, hz1⟩ := hszb
      have HX := hide hx
      have HAK := hide (And.intro o1 o2)
      obtain ⟨T, hT⟩ : ∃ T : Int, T = s + (if ak = 1 then sz else 0) := ⟨_, rfl⟩
      have HT := hide hT
      have hT0 : -600000000 ≤ T ∧ T ≤ 30000000 := by rw [hT]; split <;> omega
      obtain ⟨ht0, ht1⟩ := hT0
      have HCK := hide hc1
      have HAM := hide (And.intro o3 o4)
      have HNEXT := hide (show kpX l zs (k + 1) = T - kpI l zs (ak, am) k by
        unfold kpX
        rw [HX.out, ← HS.out]
        show s + (if ak = 1 then szA zs (ak, am) else 0) - kpI l zs (ak, am) k = _
        rw [HSZ.out, HT.out])
      obtain ⟨WQ, hWQ⟩ : ∃ x, x = wr := ⟨_, rfl⟩
      subst hWQ
      clear hx hsz hzs hT o1 o2 hc1
      go_upto_if 20 with fail
      go_cut [7] from 10 to 64 (fun tv wx => tv = .int .i64 T ∧ wx = WQ)
      case first =>
        by_cases c : ak = 1
        · have HZZ := hide (show s + sz = T by rw [HT.out, if_pos c])
          have nk : (ak == 1) = true := by simp [c]
          clear c
          go_wp2
          go_meet
          exact ⟨by rw [← HZZ.out], by first | rfl | trivial⟩
        · have HZZ := hide (show s = T by rw [HT.out, if_neg c]; omega)
          have nk : (ak == 1) = false := by simpa using c
          clear c
          go_wp2
          go_meet
          exact ⟨by rw [← HZZ.out], by first | rfl | trivial⟩
      case rest =>
        obtain ⟨rfl, hwc⟩ := hcut
        subst hwc
        go_wp2
        go_loopw [7, 9] (fun sv jv w2 => ∃ (j : Nat) (xj s2 : Int), j ≤ k ∧ xj = (j : Int) ∧ jv = .int .i64 xj ∧ sv = .int .i64 s2 ∧ s2 = T - kpI l zs (ak, am) j ∧ Below w.heap.size w w2) (fun _ jv _ => k - (intOf jv).toNat)
        case atStart => exact ⟨0, 0, T, Nat.zero_le _, rfl, rfl, rfl, by simp [kpI], HBW.out⟩
        case round =>
          obtain ⟨j, xj, s2, hj, hxj, rfl, rfl, hs2, hbw⟩ := hrel
          have HXJ := hide hxj
          have HS2 := hide hs2
          have HB2 := hide hbw
          have hib := kpI_bd (l := l) HB.out (ak, am) j
          have hj0 : 0 ≤ xj := by omega
          have hj1 : xj ≤ 24 := by omega
          have hs0 : -700000000 ≤ s2 ∧ s2 ≤ 30000000 := by omega
          obtain ⟨hs20, hs21⟩ := hs0
          clear hxj hs2 hbw hib
          by_cases hlt2 : xj < xk
          · have hjn : j < n := by have := HXJ.out; have := HXK.out; omega
            have hxjn : xj < (n : Int) := by have := HXJ.out; omega
            obtain ⟨bk, bm, sz2, hx2, p1, p2, p3, p4, _, _⟩ := HACT.out j hjn
            obtain ⟨e1, e2⟩ := HCL.out j (bk, bm) hx2
            replace e2 := cell_bel HB2.out e2
            obtain ⟨f1, f2⟩ := HCL.out k (ak, am) HX.out
            replace f1 := cell_bel HB2.out f1
            replace f2 := cell_bel HB2.out f2
            rw [show j = xj.toNat by have := HXJ.out; omega] at e2
            rw [show k = xk.toNat by have := HXK.out; omega] at f1 f2
            have hzs := (HACT.out k hkn)
            obtain ⟨ak', am', sz', hxx, _, _, _, _, hsz', hzs'⟩ := hzs
            rw [HX.out] at hxx
            have hxx := Option.some.inj hxx
            obtain ⟨rfl, rfl⟩ := Prod.mk.inj hxx
            rw [HSZ.out] at hsz'
            subst hsz'
            have f3 := cell_bel HB2.out (HCK.out am.toNat sz hzs')
            dsimp only at e2 f1 f2
            have HST := hide (show kpI l zs (ak, am) (j + 1) = kpI l zs (ak, am) j + (if bm = am ∧ ak = 2 then sz else 0) by
              rw [kpI, hx2, HSZ.out]
              rfl)
            clear hx2 p1 p2 p3 p4 e1 hzs' hxx d1 d2 d3
            by_cases c1 : bm = am
            · by_cases c2 : ak = 2
              · have HU := hide (show s2 - sz = T - kpI l zs (ak, am) (j + 1) by rw [HST.out, if_pos ⟨c1, c2⟩, HS2.out]; omega)
                have q1 : (bm == am) = true := by simp [c1]
                have q2 : (ak == 2) = true := by simp [c2]
                clear c1 c2
                go_wp2
                go_quiet (fail)
                go_wp2
                go_roundw
                case rel => exact ⟨j + 1, _, _, by have := HXJ.out; have := HXK.out; omega, by have := HXJ.out; omega, rfl, rfl, HU.out, below_go HB2.out (below_drewN _ _)⟩
                case measure => have := HXJ.out; have := HXK.out; simp [intOf]; omega
              · have HU := hide (show s2 = T - kpI l zs (ak, am) (j + 1) by rw [HST.out, if_neg (fun e => c2 e.2), HS2.out]; omega)
                have q1 : (bm == am) = true := by simp [c1]
                have q2 : (ak == 2) = false := by simpa using c2
                clear c1 c2
                go_wp2
                go_quiet (fail)
                go_wp2
                go_roundw
                case rel => exact ⟨j + 1, _, _, by have := HXJ.out; have := HXK.out; omega, by have := HXJ.out; omega, rfl, rfl, HU.out, below_go HB2.out (below_drewN _ _)⟩
                case measure => have := HXJ.out; have := HXK.out; simp [intOf]; omega
            · have HU := hide (show s2 = T - kpI l zs (ak, am) (j + 1) by rw [HST.out, if_neg (fun e => c1 e.1), HS2.out]; omega)
              have q1 : (bm == am) = false := by simpa using c1
              clear c1
              go_wp2
              go_quiet (fail)
              go_wp2
              go_roundw
              case rel => exact ⟨j + 1, _, _, by have := HXJ.out; have := HXK.out; omega, by have := HXJ.out; omega, rfl, rfl, HU.out, below_go HB2.out (below_drewN _ _)⟩
              case measure => have := HXJ.out; have := HXK.out; simp [intOf]; omega
          · have HU := hide (show s2 = kpX l zs (k + 1) by rw [HNEXT.out, HS2.out, show j = k by have := HXJ.out; have := HXK.out; omega])
            go_wp2
            go_roundw
            case rel => exact ⟨k + 1, _, _, by have := HXK.out; have := HXI.out; omega, by have := HXK.out; omega, rfl, rfl, HU.out, HB2.out⟩
            case measure => have := HXK.out; have := HXI.out; simp [intOf]; omega
    · have HZ9 := hide (show s = kpX l zs (i + 1) by rw [HS.out, show k = i + 1 by have := HXK.out; have := HXI.out; omega])
      go_wp2
      go_ret
      exact ⟨ret_int HZ9.out, HBW.out⟩
end Go.Proofs.YtgdggaieekakhagDoor
