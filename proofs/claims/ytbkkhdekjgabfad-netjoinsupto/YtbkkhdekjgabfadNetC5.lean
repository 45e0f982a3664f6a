/- What Back of package net comes to: what goes back through a net, and its Grads, or what is wrong. -/
import Derived.Test.YtbkkhdekjgabfadNetC2
import Derived.Test.YtbkkhdekjgabfadNBSt
import Derived.Test.YtbkkhdekjgabfadRHeld
namespace Go.Proofs.Ytbkkhdekjgabfad
open Go.RowKit Go.Shelf
attribute [local go_sem] Oper.semAt_some
set_option maxHeartbeats 2000000 in
set_option maxRecDepth 100000 in
theorem nback_full (N : Nat) (a : Option Addr) (cap : Nat) (sa : Option Addr) (N' scap : Nat) (za : Option Addr) (zn zk : Nat) (r c : Int) (w : World) (hN : N ≤ maxLen) (h12 : 12 < N) :
    Calls Try.prog 9 #[.slice a N cap, .slice sa N' scap, .agg #[.int .i64 r, .int .i64 c, .slice za zn zk]] w fun e w' => e = .returned (.tuple #[.agg #[.int .i64 0, .int .i64 0, .slice none 0 0], .slice none 0 0, .iface 52 (.int .i64 3)]) ∧ Below w.heap.size w w' := by
  have HC := hide (fun W => count_any a N cap W hN)
  unfold maxLen at hN
  rw [if_pos h12, err_ne (by decide)] at HC
  clear h12
  go_enter Try.func9, Try.ntmps9
  go_wp2_with fail
  refine (HC.out _).mono ?_
  rintro e w1 ⟨rfl, rfl⟩
  go_wp2
  exact bodyPost_ret (v := .tuple #[.agg #[.int .i64 0, .int .i64 0, .slice none 0 0], .slice none 0 0, .iface 52 (.int .i64 3)]) (by simp [results, Try.results9, go_sem]) rfl ⟨rfl, bel_alloc (bel_alloc (bel_alloc (bel_alloc (bel_alloc (Below.refl _ _)))))⟩
set_option maxHeartbeats 2000000 in
set_option maxRecDepth 100000 in
theorem nback_shape (N : Nat) (a : Option Addr) (cap : Nat) (sa : Option Addr) (N' scap : Nat) (za : Option Addr) (zn zk : Nat) (r c : Int) (w : World) (hN : N ≤ maxLen) (h12 : ¬ 12 < N) (hs : N' ≠ N + 1) :
    Calls Try.prog 9 #[.slice a N cap, .slice sa N' scap, .agg #[.int .i64 r, .int .i64 c, .slice za zn zk]] w fun e w' => e = .returned (.tuple #[.agg #[.int .i64 0, .int .i64 0, .slice none 0 0], .slice none 0 0, .iface 52 (.int .i64 2)]) ∧ Below w.heap.size w w' := by
  have HC := hide (fun W => count_any a N cap W hN)
  unfold maxLen at hN
  have hq : ((N' : Int) != (N : Int) + 1) = true := by simp; omega
  have h12' : (N : Int) ≤ 12 := by omega
  rw [if_neg h12, err_eq rfl] at HC
  clear h12 hs
  go_enter Try.func9, Try.ntmps9
  go_wp2_with fail
  refine (HC.out _).mono ?_
  rintro e w1 ⟨rfl, rfl⟩
  go_wp2
  exact bodyPost_ret (v := .tuple #[.agg #[.int .i64 0, .int .i64 0, .slice none 0 0], .slice none 0 0, .iface 52 (.int .i64 2)]) (by simp [results, Try.results9, go_sem]) rfl ⟨rfl, bel_alloc (bel_alloc (bel_alloc (bel_alloc (bel_alloc (Below.refl _ _)))))⟩
set_option maxHeartbeats 4000000 in
set_option maxRecDepth 100000 in
theorem nback_none (a : Option Addr) (cap : Nat) (sa : Option Addr) (scap : Nat) (za : Option Addr) (zn zk : Nat) (r c : Int) (g : Mx) (hr : g.rows = r) (hc : g.cols = c) (w : World) (hg : IsInts w (.slice za zn zk) g.cells) :
    Calls Try.prog 9 #[.slice a 0 cap, .slice sa 1 scap, .agg #[.int .i64 r, .int .i64 c, .slice za zn zk]] w fun e w' => ∃ vx, e = .returned (.tuple #[vx, .slice none 0 0, errV (fault g)]) ∧ IsMx w' vx (keepX g) ∧ Below w.heap.size w w' := by
  have HC := hide (fun W => count_any a 0 cap W (Nat.zero_le _))
  rw [if_neg (by decide), err_eq rfl] at HC
  obtain ⟨V, hV⟩ : ∃ V, V = (((((w.alloc (.cells #[.slice sa 1 scap] 33)).alloc (.cells #[.int .i64 r, .int .i64 c, .slice za zn zk] 24)).alloc (.cells #[.int .i64 0, .int .i64 0, .slice none 0 0] 24)).alloc (.cells #[.slice none 0 0] 39)).alloc (.cells #[.nilIface] 26)) := ⟨_, rfl⟩
  have HV := hide hV
  have HWV : Hid (Below w.heap.size w V) := by rw [hV]; exact hide (bel_alloc (bel_alloc (bel_alloc (bel_alloc (bel_alloc (Below.refl _ _))))))
  have HVS : Hid (V.heap.size = w.heap.size + 5) := by rw [hV]; exact hide (by simp)
  have H0 : Hid (Box V w.heap.size [.slice sa 1 scap]) := by rw [hV]; exact hide ((Box.new _ [.slice sa 1 scap] 33 rfl).below (bel_alloc (bel_alloc (bel_alloc (bel_alloc (Below.refl _ _))))))
  have H1 : Hid (Box V (w.heap.size + 1) [.int .i64 r, .int .i64 c, .slice za zn zk]) := by rw [hV]; exact hide ((Box.new _ [.int .i64 r, .int .i64 c, .slice za zn zk] 24 (by simp)).below (bel_alloc (bel_alloc (bel_alloc (Below.refl _ _)))))
  have H2 : Hid (Blk V (w.heap.size + 1 + 1) #[.int .i64 0, .int .i64 0, .slice none 0 0] 24) := by rw [hV]; exact hide (((Blk.new _ _ _ (by simp)).alloc _).alloc _)
  have H3 : Hid (Blk V (w.heap.size + 1 + 1 + 1) #[.slice none 0 0] 39) := by rw [hV]; exact hide ((Blk.new _ _ _ (by simp)).alloc _)
  have H4 : Hid (Blk V (w.heap.size + 1 + 1 + 1 + 1) #[.nilIface] 26) := by rw [hV]; exact hide (Blk.new _ _ _ (by simp))
  have HCP := hide (copy_any (.agg #[.int .i64 g.rows, .int .i64 g.cols, .slice za zn zk]) g V ⟨_, rfl, hg.below HWV.out⟩)
  obtain ⟨X, hX⟩ : ∃ X, keepX g = X := ⟨_, rfl⟩
  obtain ⟨E, hE⟩ : ∃ E, fault g = E := ⟨_, rfl⟩
  rw [hX, hE, hr, hc] at HCP
  rw [hX, hE]
  have d0 := H1.out 0 _ rfl
  have d1 := H1.out 1 _ rfl
  have d2 := H1.out 2 _ rfl
  have d3 := H0.out 0 _ rfl
  clear hg hr hc hX hE hV
  go_enter Try.func9, Try.ntmps9
  go_wp2_with fail
  rw [← HV.out]
  refine (HC.out _).mono ?_
  rintro e w0 ⟨rfl, rfl⟩
  go_wp2_with fail
  refine HCP.out.mono ?_
  rintro e w1 ⟨v', rfl, ⟨sy, rfl, hsy⟩, hb1, hf⟩
  obtain ⟨pa, pn, pk, rfl⟩ := hsy.shape
  have HBA := hide (show Below w0.heap.size w0 (w1.alloc (.cells #[.int .i64 X.rows, .int .i64 X.cols, .slice pa pn pk] 24)) from bel_alloc hb1)
  have HSY := hide (show IsMx (w1.alloc (.cells #[.int .i64 X.rows, .int .i64 X.cols, .slice pa pn pk] 24)) (.agg #[.int .i64 X.rows, .int .i64 X.cols, .slice pa pn pk]) X from ⟨_, rfl, hsy.below (below_one _ _)⟩)
  have HF := hide hf
  have t0 := (H2.out.below HBA.out).cell (j := 0) rfl
  have t1 := (H2.out.below HBA.out).cell (j := 1) rfl
  have t2 := (H2.out.below HBA.out).cell (j := 2) rfl
  have t3 := (H3.out.below HBA.out).cell (j := 0) rfl
  have t4 := (H4.out.below HBA.out).cell (j := 0) rfl
  have f0 := (H2.out.below HBA.out).frozen 0
  have f1 := (H2.out.below HBA.out).frozen 1
  have f2 := (H2.out.below HBA.out).frozen 2
  have f3 := (H3.out.below HBA.out).frozen 0
  have f4 := (H4.out.below HBA.out).frozen 0
  clear hsy hb1 hf d0 d1 d2 d3 HC HCP
  by_cases hE0 : E = 0
  · subst hE0
    rw [err_eq rfl]
    have HM := hide (show IsMx ((((((w1.alloc (.cells #[.int .i64 X.rows, .int .i64 X.cols, .slice pa pn pk] 24)).setCell ⟨w.heap.size + 1 + 1, 0, none⟩ (.int .i64 X.rows)).setCell ⟨w.heap.size + 1 + 1, 1, none⟩ (.int .i64 X.cols)).setCell ⟨w.heap.size + 1 + 1, 2, none⟩ (.slice pa pn pk)).setCell ⟨w.heap.size + 1 + 1 + 1, 0, none⟩ (.slice none 0 0)).setCell ⟨w.heap.size + 1 + 1 + 1 + 1, 0, none⟩ (.nilIface)) (.agg #[.int .i64 X.rows, .int .i64 X.cols, .slice pa pn pk]) X from ((((HSY.out.set HF.out (by have := HVS.out; omega) _ _).set HF.out (by have := HVS.out; omega) _ _).set HF.out (by have := HVS.out; omega) _ _).set HF.out (by have := HVS.out; omega) _ _).set HF.out (by have := HVS.out; omega) _ _)
    have HB := hide (show Below w.heap.size w ((((((w1.alloc (.cells #[.int .i64 X.rows, .int .i64 X.cols, .slice pa pn pk] 24)).setCell ⟨w.heap.size + 1 + 1, 0, none⟩ (.int .i64 X.rows)).setCell ⟨w.heap.size + 1 + 1, 1, none⟩ (.int .i64 X.cols)).setCell ⟨w.heap.size + 1 + 1, 2, none⟩ (.slice pa pn pk)).setCell ⟨w.heap.size + 1 + 1 + 1, 0, none⟩ (.slice none 0 0)).setCell ⟨w.heap.size + 1 + 1 + 1 + 1, 0, none⟩ (.nilIface)) from bel_set (bel_set (bel_set (bel_set (bel_set (below_next HWV.out HBA.out) (by omega)) (by omega)) (by omega)) (by omega)) (by omega))
    go_wp2
    exact bodyPost_ret (v := .tuple #[.agg #[.int .i64 X.rows, .int .i64 X.cols, .slice pa pn pk], .slice none 0 0, .nilIface]) (by simp [results, Try.results9, go_sem, t0, t1, t2, t3, t4]) rfl ⟨_, rfl, HM.out, HB.out⟩
  · have HE := hide hE0
    rw [err_ne hE0]
    clear hE0
    have HM := hide (show IsMx ((((((w1.alloc (.cells #[.int .i64 X.rows, .int .i64 X.cols, .slice pa pn pk] 24)).setCell ⟨w.heap.size + 1 + 1, 0, none⟩ (.int .i64 X.rows)).setCell ⟨w.heap.size + 1 + 1, 1, none⟩ (.int .i64 X.cols)).setCell ⟨w.heap.size + 1 + 1, 2, none⟩ (.slice pa pn pk)).setCell ⟨w.heap.size + 1 + 1 + 1, 0, none⟩ (.slice none 0 0)).setCell ⟨w.heap.size + 1 + 1 + 1 + 1, 0, none⟩ (.iface 52 (.int .i64 E))) (.agg #[.int .i64 X.rows, .int .i64 X.cols, .slice pa pn pk]) X from ((((HSY.out.set HF.out (by have := HVS.out; omega) _ _).set HF.out (by have := HVS.out; omega) _ _).set HF.out (by have := HVS.out; omega) _ _).set HF.out (by have := HVS.out; omega) _ _).set HF.out (by have := HVS.out; omega) _ _)
    have HB := hide (show Below w.heap.size w ((((((w1.alloc (.cells #[.int .i64 X.rows, .int .i64 X.cols, .slice pa pn pk] 24)).setCell ⟨w.heap.size + 1 + 1, 0, none⟩ (.int .i64 X.rows)).setCell ⟨w.heap.size + 1 + 1, 1, none⟩ (.int .i64 X.cols)).setCell ⟨w.heap.size + 1 + 1, 2, none⟩ (.slice pa pn pk)).setCell ⟨w.heap.size + 1 + 1 + 1, 0, none⟩ (.slice none 0 0)).setCell ⟨w.heap.size + 1 + 1 + 1 + 1, 0, none⟩ (.iface 52 (.int .i64 E))) from bel_set (bel_set (bel_set (bel_set (bel_set (below_next HWV.out HBA.out) (by omega)) (by omega)) (by omega)) (by omega)) (by omega))
    go_wp2
    exact bodyPost_ret (v := .tuple #[.agg #[.int .i64 X.rows, .int .i64 X.cols, .slice pa pn pk], .slice none 0 0, .iface 52 (.int .i64 E)]) (by simp [results, Try.results9, go_sem, t0, t1, t2, t3, t4]) rfl ⟨_, by rw [err_ne HE.out], HM.out, HB.out⟩
end Go.Proofs.Ytbkkhdekjgabfad
