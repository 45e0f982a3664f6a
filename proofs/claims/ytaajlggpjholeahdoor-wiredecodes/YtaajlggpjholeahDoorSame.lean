/- What Ints of package galleysame comes to: whether two lists of ints are the same. -/
import Derived.Test.YtaajlggpjholeahDoorRows
import Derived.WalkKit
import Derived.WalkSpells
import Derived.WalkLawsBesides
import Derived.Outline
import Derived.Deep.QuietTactic
import Derived.BigQuiet
import Derived.Test.YtaajlggpjholeahDoorPlain
namespace Go.Proofs.YtaajlggpjholeahDoor
open Go.RowKit
theorem eq_at (zs ys : List Int) (hl : zs.length = ys.length) (h : ∀ i, i < zs.length → zs[i]? = ys[i]?) : zs = ys := by
  apply List.ext_getElem?
  intro i
  by_cases hi : i < zs.length
  · exact h i hi
  · rw [List.getElem?_eq_none (by omega), List.getElem?_eq_none (by omega)]
def sameI (zs ys : List Int) : Bool := decide (zs = ys)
set_option maxHeartbeats 800000 in
set_option maxRecDepth 100000 in
theorem ints_any (v u : Value) (zs ys : List Int) (w : World) (hv : IsInts w v zs) (hu : IsInts w u ys) : Calls Tryd.prog 42 #[v, u] w fun e w' => e = .returned (.bool (sameI zs ys)) ∧ ∃ n, w' = w.drewN n := by
  have hlz := hv.len
  have hly := hu.len
  unfold maxLen at hlz hly
  obtain ⟨a, cap, rfl, h2, h3, h4⟩ := hv
  obtain ⟨a', cap', rfl, h2', h3', h4'⟩ := hu
  by_cases hl : zs.length = ys.length
  · have hb : ((zs.length : Int) != (ys.length : Int)) = false := by rw [hl]; simp
    have HL := hide hl
    obtain ⟨n, hn⟩ : ∃ n, zs.length = n := ⟨_, rfl⟩
    have hn' : ys.length = n := by omega
    rw [hn, hn'] at hb
    rw [hn] at hlz h2 ⊢
    rw [hn'] at h2' ⊢
    have HN := hide hn
    have HN' := hide hn'
    clear hn hn' hl hly
    go_enter Tryd.func42, Tryd.ntmps42
    go_wp2
    go_loopw [5] (fun i wr => ∃ (k q : Nat), k ≤ n ∧ i = .int .i64 k ∧ wr = w.drewN q ∧ ∀ j, j < k → zs[j]? = ys[j]?) (fun i _ => n - (intOf i).toNat)
    case atStart => exact ⟨0, 0, Nat.zero_le _, rfl, rfl, fun j hj => by omega⟩
    case round =>
      obtain ⟨k, q, hk, rfl, rfl, he⟩ := hrel
      have HE := hide he
      clear he
      by_cases hlt : k < n
      · obtain ⟨x, hx⟩ : ∃ x, zs[k]? = some x := ⟨zs[k]'(by have := HN.out; omega), List.getElem?_eq_getElem _⟩
        obtain ⟨y, hy⟩ : ∃ y, ys[k]? = some y := ⟨ys[k]'(by have := HN'.out; omega), List.getElem?_eq_getElem _⟩
        obtain ⟨b, off, rfl, hc⟩ : ∃ b off, a = some ⟨b, off, none⟩ ∧ ∀ i x, zs[i]? = some x → w.cell? ⟨b, off + i, none⟩ = some (.int .i64 x) := h4.resolve_left (fun e => by rw [e] at hx; simp at hx)
        obtain ⟨b', off', rfl, hc'⟩ : ∃ b off, a' = some ⟨b, off, none⟩ ∧ ∀ i x, ys[i]? = some x → w.cell? ⟨b, off + i, none⟩ = some (.int .i64 x) := h4'.resolve_left (fun e => by rw [e] at hy; simp at hy)
        have c1 := hc k x hx
        have c2 := hc' k y hy
        have HX := hide hx
        have HY := hide hy
        have hlt' : (k : Int) < (n : Int) := by omega
        clear h4 h4' hc hc' hx hy
        by_cases hxy : x = y
        · have ht : (x != y) = false := by simp [hxy]
          have HXY := hide hxy
          clear hxy
          go_wp2
          go_quiet (fail)
          go_wp2
          exact ⟨⟨k + 1, _, by omega, by go_num, rfl, fun j hj => by
            rcases Nat.lt_or_ge j k with h | h
            · exact HE.out j h
            · rw [show j = k by omega, HX.out, HY.out, HXY.out]⟩, by simp [intOf]; omega⟩
        · have ht : (x != y) = true := by simp [hxy]
          have HXY := hide hxy
          clear hxy
          go_wp2
          go_quiet (fail)
          go_wp2
          go_ret
          exact ⟨ret_bool (by unfold sameI; rw [eq_comm, decide_eq_false_iff_not]; exact fun e => HXY.out (Option.some.inj (by rw [← HX.out, ← HY.out, e]))), _, World.drewN_drewN _ _ _⟩
      · go_wp2
        go_ret
        exact ⟨ret_bool (by unfold sameI; rw [eq_comm, decide_eq_true_iff]; exact eq_at zs ys HL.out (fun i hi => HE.out i (by have := HN.out; omega))), _, rfl⟩
  · have hb : ((zs.length : Int) != (ys.length : Int)) = true := by rw [bne_iff_ne]; omega
    go_enter Tryd.func42, Tryd.ntmps42
    go_wp2
    go_ret
    exact ⟨ret_bool (by unfold sameI; rw [eq_comm, decide_eq_false_iff_not]; exact fun e => hl (by rw [e])), 0, rfl⟩
def sameM (m k : Mx) : Bool := decide (m.rows = k.rows ∧ m.cols = k.cols ∧ m.cells = k.cells)
theorem sameM_no {m k : Mx} (h : ¬ (m.rows = k.rows ∧ m.cols = k.cols)) : false = sameM m k := by
  unfold sameM; rw [eq_comm, decide_eq_false_iff_not]; exact fun e => h ⟨e.1, e.2.1⟩
theorem sameM_yes {m k : Mx} (h1 : m.rows = k.rows) (h2 : m.cols = k.cols) : sameI m.cells k.cells = sameM m k := by
  unfold sameM sameI; rw [decide_eq_decide]; exact ⟨fun h => ⟨h1, h2, h⟩, fun h => h.2.2⟩
set_option maxHeartbeats 800000 in
theorem matrices_any (v u : Value) (m k : Mx) (w : World) (hv : IsMx w v m) (hu : IsMx w u k) : Calls Tryd.prog 32 #[v, u] w fun e w' => e = .returned (.bool (sameM m k)) ∧ Below w.heap.size w w' := by
  obtain ⟨s, rfl, hs⟩ := hv
  obtain ⟨t, rfl, ht⟩ := hu
  have bb : Below w.heap.size w ((w.alloc (.cells #[.int .i64 m.rows, .int .i64 m.cols, s] 24)).alloc (.cells #[.int .i64 k.rows, .int .i64 k.cols, t] 24)) := ((Below.refl _ _).alloc (Nat.le_refl _) _).alloc (by simp) _
  have hs2 := hs.below bb
  have ht2 := ht.below bb
  by_cases h1 : m.rows = k.rows
  · have g1 : (m.rows != k.rows) = false := by simp [h1]
    by_cases h2 : m.cols = k.cols
    · have g2 : (m.cols != k.cols) = false := by simp [h2]
      have HE := hide (sameM_yes h1 h2)
      clear h1 h2
      go_enter Tryd.func32, Tryd.ntmps32
      go_wp2_with fail
      refine (ints_any _ _ _ _ _ hs2 ht2).mono ?_
      rintro e w' ⟨rfl, n, rfl⟩
      go_wp2
      go_ret
      exact ⟨ret_bool HE.out, bb.trans ((below_drewN _ _).mono bb.size)⟩
    · have g2 : (m.cols != k.cols) = true := by simp [h2]
      have HE := hide (sameM_no (m := m) (k := k) (fun e => h2 e.2))
      clear h1 h2
      go_enter Tryd.func32, Tryd.ntmps32
      go_wp2
      go_ret
      exact ⟨ret_bool HE.out, bb⟩
  · have g1 : (m.rows != k.rows) = true := by simp [h1]
    have HE := hide (sameM_no (m := m) (k := k) (fun e => h1 e.1))
    clear h1
    go_enter Tryd.func32, Tryd.ntmps32
    go_wp2
    go_ret
    exact ⟨ret_bool HE.out, bb⟩
end Go.Proofs.YtaajlggpjholeahDoor
