/- How much one stage keeps at once, and each of a plan: greatestOf and greatest of package peak. -/
import Derived.Test.YtgdggaieekakhagDoorPkP
import Derived.Test.YtgdggaieekakhagDoorPlR2
import Derived.Test.YtgdggaieekakhagDoorOwZ
import Derived.BigQuiet
import Derived.Deep.CutRange
namespace Go.Proofs.YtgdggaieekakhagDoor
open Go.RowKit
theorem runX_snoc {zs : List Int} {l : List (Int × Int)} {k : Nat} {x : Int × Int} (h : l[k]? = some x) : runX zs (l.take (k + 1)) = runX zs (l.take k) + (if x.1 = 1 then szA zs x else -szA zs x) := by
  rw [List.take_add_one, h, runX_app]
  show _ + runX zs [x] = _
  unfold runX runX
  omega
theorem runX_bd {zs : List Int} (h : ∀ x ∈ zs, 0 ≤ x ∧ x ≤ 1000000) : ∀ l : List (Int × Int), -((l.length : Int) * 1000000) ≤ runX zs l ∧ runX zs l ≤ (l.length : Int) * 1000000
  | [] => by simp [runX]
  | a :: t => by
    have h1 := runX_bd h t
    have h2 := szA_bd h a
    unfold runX
    rw [List.length_cons]
    split <;> omega
theorem pkX_bd {zs : List Int} (h : ∀ x ∈ zs, 0 ≤ x ∧ x ≤ 1000000) {l : List (Int × Int)} (h24 : l.length ≤ 24) : ∀ k : Nat, 0 ≤ pkX zs l k ∧ pkX zs l k ≤ 24000000
  | 0 => by simp [pkX]
  | k + 1 => by
    have h1 := pkX_bd h h24 k
    have h2 := runX_bd h (l.take (k + 1))
    have h3 : (l.take (k + 1)).length ≤ 24 := by rw [List.length_take]; omega
    unfold pkX
    split <;> omega
/-- What a stage keeps at once. -/
def pkA (zs : List Int) (l : List (Int × Int)) : Int := pkX zs l l.length
set_option maxHeartbeats 16000000 in
set_option maxRecDepth 100000 in
theorem greatof_any (v sv : Value) (l : List (Int × Int)) (zs : List Int) (m : Nat) (w : World) (hv : IsActs w v l) (hs : IsInts w sv zs) (h24 : l.length ≤ 24) (hok : ∀ x ∈ l, okA (m : Int) x) (hz : zs.length = m) (hb : ∀ x ∈ zs, 0 ≤ x ∧ x ≤ 1000000) :
    Calls Tryd.prog 31 #[v, sv] w fun e w' => e = .returned (.int .i64 (pkA zs l)) ∧ Below w.heap.size w w' := by
  obtain ⟨a, cap, rfl, g2, g3, g4⟩ := hv
  obtain ⟨a1, cap1, rfl, k2, k3, k4⟩ := hs
  obtain ⟨n, hn⟩ : ∃ n, l.length = n := ⟨_, rfl⟩
  obtain ⟨R, hR⟩ : ∃ R, pkA zs l = R := ⟨_, rfl⟩
  have HR := hide (show R = pkX zs l n by rw [← hR, ← hn]; rfl)
  have H4 := hide g4
  have HZ4 := hide k4
  have HN := hide hn
  have HB := hide hb
  have H24 := hide h24
  have HACT := hide (show ∀ k, k < n → ∃ ak am : Int, ∃ sz : Int, l[k]? = some (ak, am) ∧ 1 ≤ ak ∧ ak ≤ 2 ∧ 0 ≤ am ∧ am < (m : Int) ∧ szA zs (ak, am) = sz ∧ zs[am.toNat]? = some sz from fun k hk => by
    obtain ⟨x, hx⟩ := act_at (l := l) (i := k) (by omega)
    obtain ⟨o1, o2, o3, o4⟩ := hok x (List.mem_of_getElem? hx)
    obtain ⟨ak, am⟩ := x
    have hzs : zs[am.toNat]? = some zs[am.toNat] := List.getElem?_eq_getElem (by dsimp only at o3 o4; omega)
    exact ⟨ak, am, zs[am.toNat], hx, o1, o2, o3, o4, by unfold szA; rw [hzs]; rfl, hzs⟩)
  rw [hz] at k2 ⊢
  rw [hR]
  rw [hn] at g2 h24 ⊢
  clear g4 k4 hok hz hb hn hR
  go_enter Tryd.func31, Tryd.ntmps31
  go_wp2
  go_loopw [5, 6, 8, 11] (fun mv nv _ kv wr => ∃ (k : Nat) (xk ms nw : Int), k ≤ n ∧ xk = (k : Int) ∧ kv = .int .i64 xk ∧ mv = .int .i64 ms ∧ nv = .int .i64 nw ∧ ms = pkX zs l k ∧ nw = runX zs (l.take k) ∧ Below w.heap.size w wr) (fun _ _ _ kv _ => n - (intOf kv).toNat)
  case atStart => exact ⟨0, 0, 0, 0, Nat.zero_le _, rfl, rfl, rfl, rfl, rfl, by rw [List.take_zero]; rfl, Below.refl _ _⟩
  case round =>
    obtain ⟨k, xk, ms, nw, hk, hxk, rfl, rfl, rfl, hms, hnw, hbw⟩ := hrel
    have HXK := hide hxk
    have HMS := hide hms
    have HNW := hide hnw
    have HBW := hide hbw
    have hk0 : 0 ≤ xk := by omega
    have hk1 : xk ≤ 24 := by omega
    have hmb := pkX_bd HB.out H24.out k
    have hnb := runX_bd HB.out (l.take k)
    have hnl : ((l.take k).length : Int) ≤ 24 := by rw [List.length_take]; omega
    rw [← hms] at hmb
    rw [← hnw] at hnb
    obtain ⟨hm0, hm1⟩ := hmb
    have hn0 : -24000000 ≤ nw := by omega
    have hn1 : nw ≤ 24000000 := by omega
    clear hxk hms hnw hbw hnb hnl
    by_cases hlt : xk < (n : Int)
    · have hkn : k < n := by have := HXK.out; omega
      obtain ⟨ak, am, sz, hx, o1, o2, o3, o4, hsz, hzs⟩ := HACT.out k hkn
      obtain ⟨b, off, ha, hcl⟩ := H4.out.resolve_left (fun e => by rw [e] at hx; simp at hx)
      subst ha
      obtain ⟨d1, d2⟩ := hcl k (ak, am) hx
      replace d1 := cell_bel HBW.out d1
      replace d2 := cell_bel HBW.out d2
      rw [show k = xk.toNat by have := HXK.out; omega] at d1 d2
      dsimp only at d1 d2
      obtain ⟨b1, o1', ha1, hc1⟩ := HZ4.out.resolve_left (fun e => by rw [e] at hzs; simp at hzs)
      subst ha1
      have HB3 := hide (below_go HBW.out (below_one wr (.cells #[.int .i64 ak, .int .i64 am] 56)))
      have d3 := cell_bel HB3.out (hc1 am.toNat sz hzs)
      have hszb : 0 ≤ sz ∧ sz ≤ 1000000 := HB.out sz (List.mem_of_getElem? hzs)
      obtain ⟨hz0, hz1⟩ := hszb
      have HRS := hide (runX_snoc (zs := zs) hx)
      have HSZ := hide hsz
      have HPK := hide (show pkX zs l (k + 1) = if ms < runX zs (l.take (k + 1)) then runX zs (l.take (k + 1)) else ms by rw [HMS.out]; rfl)
      clear hcl hx hsz hzs hc1 hkn
      by_cases c : ak = 1
      · have HNX := hide (show nw + sz = runX zs (l.take (k + 1)) by rw [HRS.out, if_pos c, HSZ.out, ← HNW.out])
        have nk : (ak == 1) = true := by simp [c]
        clear c
        by_cases q : ms < nw + sz
        · have HPX := hide (show nw + sz = pkX zs l (k + 1) by rw [HPK.out, ← HNX.out, if_pos q])
          go_wp2
          go_roundw
          case rel => exact ⟨k + 1, _, _, _, by have := HXK.out; omega, by have := HXK.out; omega, rfl, rfl, rfl, HPX.out, HNX.out, HB3.out⟩
          case measure => have := HXK.out; simp [intOf]; omega
        · have HPX := hide (show ms = pkX zs l (k + 1) by rw [HPK.out, ← HNX.out, if_neg q])
          go_wp2
          go_roundw
          case rel => exact ⟨k + 1, _, _, _, by have := HXK.out; omega, by have := HXK.out; omega, rfl, rfl, rfl, HPX.out, HNX.out, HB3.out⟩
          case measure => have := HXK.out; simp [intOf]; omega
      · have HNX := hide (show nw - sz = runX zs (l.take (k + 1)) by rw [HRS.out, if_neg c, HSZ.out, ← HNW.out]; omega)
        have nk : (ak == 1) = false := by simpa using c
        clear c
        by_cases q : ms < nw - sz
        · have HPX := hide (show nw - sz = pkX zs l (k + 1) by rw [HPK.out, ← HNX.out, if_pos q])
          go_wp2
          go_roundw
          case rel => exact ⟨k + 1, _, _, _, by have := HXK.out; omega, by have := HXK.out; omega, rfl, rfl, rfl, HPX.out, HNX.out, HB3.out⟩
          case measure => have := HXK.out; simp [intOf]; omega
        · have HPX := hide (show ms = pkX zs l (k + 1) by rw [HPK.out, ← HNX.out, if_neg q])
          go_wp2
          go_roundw
          case rel => exact ⟨k + 1, _, _, _, by have := HXK.out; omega, by have := HXK.out; omega, rfl, rfl, rfl, HPX.out, HNX.out, HB3.out⟩
          case measure => have := HXK.out; simp [intOf]; omega
    · have HZ9 := hide (show ms = R by rw [HMS.out, HR.out, show k = n by have := HXK.out; omega])
      go_wp2
      go_ret
      exact ⟨ret_int HZ9.out, HBW.out⟩
/-- What the first stages keep at once. -/
def pkN (zs : List Int) (p : List (List (Int × Int))) (k : Nat) : List Int := (p.take k).map (pkA zs)
theorem pkN_snoc {zs : List Int} {p : List (List (Int × Int))} {k : Nat} {l : List (Int × Int)} (h : p[k]? = some l) : pkN zs p (k + 1) = pkN zs p k ++ [pkA zs l] := by
  unfold pkN
  rw [List.take_add_one, h]; simp
theorem pkN_len (zs : List Int) (p : List (List (Int × Int))) {k : Nat} (h : k ≤ p.length) : (pkN zs p k).length = k := by
  unfold pkN
  rw [List.length_map, List.length_take]; omega
set_option maxHeartbeats 16000000 in
set_option maxRecDepth 100000 in
theorem great_any (v sv : Value) (p : List (List (Int × Int))) (zs : List Int) (m : Nat) (w : World) (hv : IsPlan w v p) (hs : IsInts w sv zs) (hp : planE p (m : Int) = 0) (hz : zs.length = m) (hb : ∀ x ∈ zs, 0 ≤ x ∧ x ≤ 1000000) :
    Calls Tryd.prog 25 #[v, sv] w fun e w' => ∃ s, e = .returned s ∧ IsInts w' s (pkN zs p p.length) ∧ Below w.heap.size w w' := by
  obtain ⟨a, cap, rfl, g2, g3, g4⟩ := hv
  obtain ⟨q1, q2, _⟩ := planE_in hp
  unfold rangeP at q1
  obtain ⟨n, hn⟩ : ∃ n, p.length = n := ⟨_, rfl⟩
  have HSI := hide hs
  obtain ⟨a1, cap1, rfl, _, _, _⟩ := hs
  have HZ := hide hz
  have HB := hide hb
  have HST := hide (stagesE_in q2)
  have HN := hide hn
  have H4 := hide g4
  have hm12 : m ≤ 12 := by omega
  have hni : (n : Int) ≤ 6 := by omega
  have hn6 : n ≤ 6 := by omega
  obtain ⟨e0, he0, hz0, hz1, hz2⟩ := info_parts infoInt
  have HEI := hide (And.intro he0 (And.intro hz0 (And.intro hz1 hz2)))
  have hmk := run_mk0 (n : Int) n rfl (by omega) w
  have HO0 := hide (OwnZ.made w n (by omega))
  rw [hz] at HSI ⊢
  rw [hn] at g2 ⊢
  clear g4 hb hz hn hp q1 q2 he0 hz0 hz1 hz2
  go_enter Tryd.func25, Tryd.ntmps25
  go_wp2
  clear hmk
  go_loopw [5, 7, 13] (fun ov _ iv wr => ∃ (k : Nat) (xi : Int), k ≤ n ∧ xi = (k : Int) ∧ iv = .int .i64 xi ∧ OwnZ wr w.heap.size ov (pkN zs p k) ∧ Below w.heap.size w wr) (fun _ _ iv _ => n - (intOf iv).toNat)
  case atStart => exact ⟨0, 0, Nat.zero_le _, rfl, rfl, HO0.out, below_one _ _⟩
  case round =>
    obtain ⟨k, xi, hk, hxi, rfl, hro, hbw⟩ := hrel
    have HRO := hide hro
    have HBW := hide hbw
    have HXI := hide hxi
    have hx0 : 0 ≤ xi := by omega
    have hx1 : xi ≤ 6 := by omega
    obtain ⟨oa, ok, hoe⟩ := hro.shape
    obtain ⟨kn, hkn⟩ : ∃ x, (pkN zs p k).length = x := ⟨_, rfl⟩
    have hk6 : kn ≤ 6 := by rw [← hkn, pkN_len _ _ (by have := HN.out; omega)]; omega
    have HKN := hide hkn
    rw [hkn] at hoe
    subst hoe
    clear hro hbw hxi hkn
    by_cases hlt : xi < (n : Int)
    · have hkl : k < p.length := by have := HN.out; have := HXI.out; omega
      obtain ⟨row, hrow⟩ := stage_at hkl
      obtain ⟨b, off, ha, hcl⟩ := H4.out.resolve_left (fun e => by rw [e] at hkl; simp at hkl)
      subst ha
      obtain ⟨rv, hsv, hia⟩ := hcl k row hrow
      have hac := actsE_in (HST.out k row hrow)
      have hl24 := acts_len hac.1 hac.2.1
      have HX := hide (greatof_any rv (.slice a1 m cap1) row zs m wr (hia.below HBW.out) (HSI.out.below HBW.out) (by omega) hac.1 HZ.out HB.out)
      obtain ⟨ra, rc, rfl, _⟩ := hia
      replace hsv := cell_bel HBW.out hsv
      rw [show k = xi.toNat by have := HXI.out; omega] at hsv
      obtain ⟨ln, hln⟩ : ∃ x, row.length = x := ⟨_, rfl⟩
      have HNX := hide (pkN_snoc (zs := zs) hrow)
      obtain ⟨R, hR⟩ : ∃ x, pkA zs row = x := ⟨_, rfl⟩
      rw [hR] at HNX HX
      rw [hln] at hsv HX
      clear hcl hln hkl hrow hac hl24 hR
      go_wp2_with fail
      refine HX.out.mono ?_
      rintro e w3 ⟨rfl, hb3⟩
      have HB3 := hide hb3
      clear hb3 HX
      go_wp2_with (at_builtin; refine wpList_append_own _ rfl _ _ 23 rfl w.heap.size 3 e0 (.int .i64 0) 1 8 Tryd.underlying23 HEI.out.1 HEI.out.2.1 HEI.out.2.2.1 HEI.out.2.2.2 rfl (by decide) (.slice oa kn ok) _ _ rfl ((HRO.out.below HB3.out).alloc _) ⟨_, 0, none⟩ 1 1 [.int .i64 R] rfl rfl (one_cells _ _) (one_one _) ?c3 ?c4 ?c5 ?_)
      case c3 => have := HKN.out; unfold maxLen; omega
      case c4 => have := HKN.out; omega
      case c5 => rw [World.size_alloc]; have h1 := HBW.out.size; have h2 := HB3.out.size; omega
      intro v' w4 hown' hg _
      have HO2 := hide (show OwnZ w4 w.heap.size v' (pkN zs p (k + 1)) by rw [HNX.out]; exact OwnZ.step hown')
      have HB4 := hide (show Below w.heap.size w w4 from (below_go (below_go HBW.out HB3.out) (below_one _ _)).grown hg (by rw [World.size_alloc]; have h1 := HBW.out.size; have h2 := HB3.out.size; omega) (fun q hq => (World.ownsRow.lt HRO.out q hq).1))
      clear hown' hg
      go_wp2
      go_roundw
      case rel => exact ⟨k + 1, _, by have := HXI.out; omega, by have := HXI.out; omega, rfl, HO2.out, HB4.out⟩
      case measure => have := HXI.out; simp [intOf]; omega
    · obtain rfl : k = n := by have := HXI.out; omega
      go_wp2
      exact bodyPost_ret (v := .slice oa kn ok) (by simp [results, Tryd.results25, go_sem]) rfl ⟨_, rfl, HRO.out.isInts, HBW.out⟩
end Go.Proofs.YtgdggaieekakhagDoor
