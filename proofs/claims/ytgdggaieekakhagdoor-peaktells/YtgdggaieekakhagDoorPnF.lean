/- The small functions of package plan: has, add, forward, backward, isAct, checkNumbers. -/
import Derived.Test.YtgdggaieekakhagDoorPnM
import Derived.Test.YtgdggaieekakhagDoorMCheckAll
namespace Go.Proofs.YtgdggaieekakhagDoor
open Go.RowKit
set_option maxHeartbeats 1600000 in
set_option maxRecDepth 100000 in
theorem has_any (b : Nat) (s k m : Int) (L : List (Int × Int × Int)) (w : World) (hd : Deeds w b L) (hok : okD (s, k, m)) : Calls Tryd.prog 43 #[.map (some b), .agg #[.int .i64 s, .int .i64 k, .int .i64 m]] w fun e w' => e = .returned (.bool (decide ((s, k, m) ∈ L))) ∧ Below w.heap.size w w' := by
  have hrun := (hd.below (below_one w (.cells #[.int .i64 s, .int .i64 k, .int .i64 m] 99))).look hok true
  rw [if_pos rfl] at hrun
  unfold keyD at hrun
  dsimp only at hrun
  obtain ⟨p, hp⟩ : ∃ p, posD (s, k, m) L = p := ⟨_, rfl⟩
  obtain ⟨q, hq⟩ : ∃ q, decide ((s, k, m) ∈ L) = q := ⟨_, rfl⟩
  rw [hp, hq] at hrun
  rw [hq]
  clear hp hq hd hok
  go_enter Tryd.func43, Tryd.ntmps43
  go_wp2
  go_ret
  exact ⟨rfl, below_one _ _⟩
set_option maxHeartbeats 1600000 in
set_option maxRecDepth 100000 in
theorem dadd_any (b : Nat) (s k m : Int) (L : List (Int × Int × Int)) (w : World) (hd : Deeds w b L) (hok : okD (s, k, m)) (hn : (s, k, m) ∉ L) : Calls Tryd.prog 44 #[.map (some b), .agg #[.int .i64 s, .int .i64 k, .int .i64 m]] w fun e w' => e = .returned (.tuple #[]) ∧ Deeds w' b (L ++ [(s, k, m)]) ∧ w.grownBy w' (some b) := by
  have h1 := hd.below (below_one w (.cells #[.int .i64 s, .int .i64 k, .int .i64 m] 99))
  have hlen := h1.len 3
  obtain ⟨w1, hrun, h2, hg⟩ := h1.add hok hn
  have HR := hide (And.intro h2 ((World.grownBy_alloc w (.cells #[.int .i64 s, .int .i64 k, .int .i64 m] 99) (some b)).trans hg))
  unfold keyD at hrun
  dsimp only at hrun
  obtain ⟨n, hn⟩ : ∃ n, (L.length : Int) = n := ⟨_, rfl⟩
  rw [hn] at hlen hrun
  clear hn hd hok h1 h2 hg
  go_enter Tryd.func44, Tryd.ntmps44
  go_wp2
  go_end0
  exact ⟨rfl, HR.out.1, HR.out.2⟩
set_option maxRecDepth 100000 in
theorem fwd_any (m : Int) (w : World) : Calls Tryd.prog 46 #[.int .i64 m] w fun e w' => e = .returned (.agg #[.int .i64 1, .int .i64 m]) ∧ Below w.heap.size w w' := by
  go_enter Tryd.func46, Tryd.ntmps46
  go_wp2
  exact bodyPost_ret (v := .agg #[.int .i64 1, .int .i64 m]) (by simp [results, Tryd.results46, go_sem]) rfl ⟨rfl, below_one _ _⟩
set_option maxRecDepth 100000 in
theorem bwd_any (m : Int) (w : World) : Calls Tryd.prog 45 #[.int .i64 m] w fun e w' => e = .returned (.agg #[.int .i64 2, .int .i64 m]) ∧ Below w.heap.size w w' := by
  go_enter Tryd.func45, Tryd.ntmps45
  go_wp2
  exact bodyPost_ret (v := .agg #[.int .i64 2, .int .i64 m]) (by simp [results, Tryd.results45, go_sem]) rfl ⟨rfl, below_one _ _⟩
set_option maxHeartbeats 1600000 in
set_option maxRecDepth 100000 in
theorem isact_any (k m n : Int) (w : World) : Calls Tryd.prog 42 #[.agg #[.int .i64 k, .int .i64 m], .int .i64 n] w fun e w' => e = .returned (.bool (okAB n (k, m))) ∧ Below w.heap.size w w' := by
  by_cases e1 : k = 1
  · by_cases e2 : 0 ≤ m
    · have HA := hide (show decide (m < n) = okAB n (k, m) by simp [okAB, e1, e2])
      subst e1
      go_enter Tryd.func42, Tryd.ntmps42
      go_wp2
      go_ret
      exact ⟨ret_bool HA.out, below_one _ _⟩
    · have HA := hide (show false = okAB n (k, m) by simp [okAB, e1, e2])
      subst e1
      go_enter Tryd.func42, Tryd.ntmps42
      go_wp2
      go_ret
      exact ⟨ret_bool HA.out, below_one _ _⟩
  · by_cases e3 : k = 2
    · by_cases e2 : 0 ≤ m
      · have HA := hide (show decide (m < n) = okAB n (k, m) by simp [okAB, e3, e2])
        subst e3
        go_enter Tryd.func42, Tryd.ntmps42
        go_wp2
        go_ret
        exact ⟨ret_bool HA.out, below_one _ _⟩
      · have HA := hide (show false = okAB n (k, m) by simp [okAB, e3, e2])
        subst e3
        go_enter Tryd.func42, Tryd.ntmps42
        go_wp2
        go_ret
        exact ⟨ret_bool HA.out, below_one _ _⟩
    · have HA := hide (show false = okAB n (k, m) by
        rw [eq_comm, Bool.eq_false_iff]
        intro h
        obtain ⟨h1, h2, _⟩ := okAB_iff.1 h
        dsimp only at h1 h2
        omega)
      have n1 : (k != 1) = true := by simpa using e1
      have n2 : (k != 2) = true := by simpa using e3
      clear e1 e3
      go_enter Tryd.func42, Tryd.ntmps42
      go_wp2
      go_ret
      exact ⟨ret_bool HA.out, below_one _ _⟩
/-- What is wrong with the numbers. -/
def numE (s m : Int) : Int := if m < 1 ∨ 12 < m ∨ s < 1 ∨ 6 < s then 1 else 0
set_option maxHeartbeats 1600000 in
set_option maxRecDepth 100000 in
theorem numbers_any (s m : Int) (w : World) : Calls Tryd.prog 33 #[.int .i64 s, .int .i64 m] w fun e w' => e = .returned (errV (numE s m)) ∧ w' = w := by
  by_cases c1 : m < 1 ∨ 12 < m ∨ s < 1 ∨ 6 < s
  · have HA := hide (show 1 = numE s m by unfold numE; rw [if_pos c1])
    go_enter Tryd.func33, Tryd.ntmps33
    by_cases d1 : m < 1
    · clear c1
      go_wp2
      go_ret
      exact ⟨ret_err (err_of HA.out (by decide)), rfl⟩
    · by_cases d2 : 12 < m
      · clear c1
        go_wp2
        go_ret
        exact ⟨ret_err (err_of HA.out (by decide)), rfl⟩
      · by_cases d3 : s < 1
        · clear c1
          go_wp2
          go_ret
          exact ⟨ret_err (err_of HA.out (by decide)), rfl⟩
        · have d4 : 6 < s := by omega
          clear c1
          go_wp2
          go_ret
          exact ⟨ret_err (err_of HA.out (by decide)), rfl⟩
  · have HA := hide (show 0 = numE s m by unfold numE; rw [if_neg c1])
    have d1 : ¬ m < 1 := by omega
    have d2 : ¬ 12 < m := by omega
    have d3 : ¬ s < 1 := by omega
    have d4 : ¬ 6 < s := by omega
    clear c1
    go_enter Tryd.func33, Tryd.ntmps33
    go_wp2
    go_ret
    exact ⟨ret_err (err_no HA.out), rfl⟩
end Go.Proofs.YtgdggaieekakhagDoor
