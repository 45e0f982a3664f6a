/- What messages of the laws comes to: are two messages the same? -/
import Derived.Test.YtaajlggpjholeahDoorWrR3
namespace Go.Proofs.YtaajlggpjholeahDoor
open Go.RowKit
def sameG (k mi : Int) (b : Mx) (k' mi' : Int) (b' : Mx) : Bool := decide (k = k') && decide (mi = mi') && sameM b b'
theorem sameG_self (k mi : Int) (b : Mx) : sameG k mi b k mi b = true := by unfold sameG sameM; simp
theorem IsMsg.mx {w : World} {k mi : Int} {b : Mx} {r c : Value} {s : Value} (h : IsMsg w (.agg #[.int .i64 k, .int .i64 mi, r, c, s]) k mi b) : IsMx w (.agg #[r, c, s]) b := by
  obtain ⟨s', h1, h2⟩ := h
  simp at h1
  obtain ⟨rfl, rfl, rfl⟩ := h1
  exact ⟨_, rfl, h2⟩
set_option maxHeartbeats 4000000 in
set_option maxRecDepth 100000 in
theorem messages_any (v u : Value) (k mi k' mi' : Int) (b b' : Mx) (w : World) (hv : IsMsg w v k mi b) (hu : IsMsg w u k' mi' b') : Calls Tryd.prog 14 #[v, u] w fun e w' => e = .returned (.bool (sameG k mi b k' mi' b')) ∧ Below w.heap.size w w' := by
  obtain ⟨s, rfl, hs⟩ := hv
  obtain ⟨t, rfl, ht⟩ := hu
  obtain ⟨sa, sk, hse, _⟩ := id hs
  obtain ⟨ta, tk, hte, _⟩ := id ht
  obtain ⟨sn, hsn⟩ : ∃ x, b.cells.length = x := ⟨_, rfl⟩
  obtain ⟨tn, htn⟩ : ∃ x, b'.cells.length = x := ⟨_, rfl⟩
  obtain ⟨r, hr⟩ : ∃ r, b.rows = r := ⟨_, rfl⟩
  obtain ⟨c, hc⟩ : ∃ c, b.cols = c := ⟨_, rfl⟩
  obtain ⟨r', hr'⟩ : ∃ r, b'.rows = r := ⟨_, rfl⟩
  obtain ⟨c', hc'⟩ : ∃ c, b'.cols = c := ⟨_, rfl⟩
  rw [hsn] at hse
  rw [htn] at hte
  subst hse hte
  have HB := hide (bel_on (below_one w (.cells #[.int .i64 k, .int .i64 mi, .int .i64 r, .int .i64 c, .slice sa sn sk] 26)) (below_one (w.alloc (.cells #[.int .i64 k, .int .i64 mi, .int .i64 r, .int .i64 c, .slice sa sn sk] 26)) (.cells #[.int .i64 k', .int .i64 mi', .int .i64 r', .int .i64 c', .slice ta tn tk] 26)))
  have HM := hide (matrices_any (.agg #[.int .i64 b.rows, .int .i64 b.cols, .slice sa sn sk]) (.agg #[.int .i64 b'.rows, .int .i64 b'.cols, .slice ta tn tk]) b b' _ ⟨_, rfl, hs.below HB.out⟩ ⟨_, rfl, ht.below HB.out⟩)
  obtain ⟨E, hE⟩ : ∃ E, sameM b b' = E := ⟨_, rfl⟩
  rw [hr, hc, hr', hc', hE] at HM
  rw [hr, hc, hr', hc']
  have HA := hide (show (decide (k = k') && decide (mi = mi') && E) = sameG k mi b k' mi' b' by unfold sameG; rw [hE])
  have HQ := hide (show ∀ W, Below ((w.alloc (.cells #[.int .i64 k, .int .i64 mi, .int .i64 r, .int .i64 c, .slice sa sn sk] 26)).alloc (.cells #[.int .i64 k', .int .i64 mi', .int .i64 r', .int .i64 c', .slice ta tn tk] 26)).heap.size ((w.alloc (.cells #[.int .i64 k, .int .i64 mi, .int .i64 r, .int .i64 c, .slice sa sn sk] 26)).alloc (.cells #[.int .i64 k', .int .i64 mi', .int .i64 r', .int .i64 c', .slice ta tn tk] 26)) W → Blk5 W w.heap.size (.int .i64 k) (.int .i64 mi) (.int .i64 r) (.int .i64 c) (.slice sa sn sk) ∧ Blk5 W (w.heap.size + 1) (.int .i64 k') (.int .i64 mi') (.int .i64 r') (.int .i64 c') (.slice ta tn tk) from fun W hb => by
    have h1 := (Blk5.new w (.int .i64 k) (.int .i64 mi) (.int .i64 r) (.int .i64 c) (.slice sa sn sk)).bel (below_one _ (.cells #[.int .i64 k', .int .i64 mi', .int .i64 r', .int .i64 c', .slice ta tn tk] 26)) (Blk5.new w _ _ _ _ _).lt
    have h2 := Blk5.new (w.alloc (.cells #[.int .i64 k, .int .i64 mi, .int .i64 r, .int .i64 c, .slice sa sn sk] 26)) (.int .i64 k') (.int .i64 mi') (.int .i64 r') (.int .i64 c') (.slice ta tn tk)
    rw [World.size_alloc] at h2
    exact ⟨h1.bel hb h1.lt, h2.bel hb h2.lt⟩)
  clear hr hc hr' hc' hE hs ht hsn htn
  by_cases c1 : k = k'
  · have n1 : (k == k') = true := by simp [c1]
    by_cases c2 : mi = mi'
    · have n2 : (mi == mi') = true := by simp [c2]
      have HV := hide (show E = sameG k mi b k' mi' b' by rw [← HA.out]; simp [c1, c2])
      clear c1 c2
      go_enter Tryd.func14, Tryd.ntmps14
      go_wp2_with (go_at_call 32; refine HM.out.mono ?_; rintro e w1 ⟨rfl, hb1⟩; have HB1 := hide hb1; obtain ⟨hq1, hq2⟩ := HQ.out w1 hb1; obtain ⟨p0, p1, _, _, _⟩ := hq1.c; obtain ⟨p2, p3, _, _, _⟩ := hq2.c; clear hb1 hq1 hq2)
      go_ret
      exact ⟨ret_bool HV.out, bel_on HB.out HB1.out⟩
    · have n2 : (mi == mi') = false := by simpa using c2
      have HV := hide (show false = sameG k mi b k' mi' b' by rw [← HA.out]; simp [c2])
      clear c1 c2
      go_enter Tryd.func14, Tryd.ntmps14
      go_wp2_with (go_at_call 32; refine HM.out.mono ?_; rintro e w1 ⟨rfl, hb1⟩; have HB1 := hide hb1; obtain ⟨hq1, hq2⟩ := HQ.out w1 hb1; obtain ⟨p0, p1, _, _, _⟩ := hq1.c; obtain ⟨p2, p3, _, _, _⟩ := hq2.c; clear hb1 hq1 hq2)
      go_ret
      exact ⟨ret_bool HV.out, bel_on HB.out HB1.out⟩
  · have n1 : (k == k') = false := by simpa using c1
    have HV := hide (show false = sameG k mi b k' mi' b' by rw [← HA.out]; simp [c1])
    clear c1
    go_enter Tryd.func14, Tryd.ntmps14
    go_wp2_with (go_at_call 32; refine HM.out.mono ?_; rintro e w1 ⟨rfl, hb1⟩; have HB1 := hide hb1; obtain ⟨hq1, hq2⟩ := HQ.out w1 hb1; obtain ⟨p0, p1, _, _, _⟩ := hq1.c; obtain ⟨p2, p3, _, _, _⟩ := hq2.c; clear hb1 hq1 hq2)
    go_ret
    exact ⟨ret_bool HV.out, bel_on HB.out HB1.out⟩
end Go.Proofs.YtaajlggpjholeahDoor
