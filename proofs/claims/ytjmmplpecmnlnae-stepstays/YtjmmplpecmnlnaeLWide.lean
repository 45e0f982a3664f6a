/- What Check and Wide of package layer come to, for every layer. -/
import Derived.Test.YtjmmplpecmnlnaeLAt
namespace Go.Proofs.Ytjmmplpecmnlnae
open Go.RowKit
set_option maxHeartbeats 800000 in
theorem lcheck_linear (l : Ly) {xa : Option Addr} {xn xk : Nat} {ya : Option Addr} {yn yk : Nat} (w : World) (hk : l.k = 1) (hs : IsInts w (.slice xa xn xk) l.w.cells) (ht : IsInts w (.slice ya yn yk) l.b.cells) :
    Calls Try.prog 24 #[.agg #[.int .i64 1, .int .i64 l.w.rows, .int .i64 l.w.cols, .slice xa xn xk, .int .i64 l.b.rows, .int .i64 l.b.cols, .slice ya yn yk]] w fun e w' => e = .returned (errV (lfault l)) ∧ Below w.heap.size w w' := by
  obtain ⟨wr, e1⟩ : ∃ r, l.w.rows = r := ⟨_, rfl⟩
  obtain ⟨wc, e2⟩ : ∃ r, l.w.cols = r := ⟨_, rfl⟩
  obtain ⟨br, e3⟩ : ∃ r, l.b.rows = r := ⟨_, rfl⟩
  obtain ⟨bc, e4⟩ : ∃ r, l.b.cols = r := ⟨_, rfl⟩
  have HK := hide (fun W (h : Below w.heap.size w W) => kindof_linear l W hk (hs.below h) (ht.below h))
  rw [e1, e2, e3, e4] at HK
  rw [e1, e2, e3, e4]
  obtain ⟨E, hE⟩ : ∃ E, lfault l = E := ⟨_, rfl⟩
  rw [hE] at HK ⊢
  clear hs ht e1 e2 e3 e4 hk hE
  go_enter Try.func24, Try.ntmps24
  go_wp2_with fail
  refine (HK.out _ (below_one _ _)).mono ?_
  rintro e w1 ⟨rfl, hb1⟩
  go_wp2
  go_ret
  exact ⟨rfl, below_box (Below.refl _ _) hb1⟩
set_option maxHeartbeats 800000 in
theorem lcheck_relu (l : Ly) {xa : Option Addr} {xn xk : Nat} {ya : Option Addr} {yn yk : Nat} (w : World) (hk : l.k = 2) (hs : IsInts w (.slice xa xn xk) l.w.cells) (ht : IsInts w (.slice ya yn yk) l.b.cells) :
    Calls Try.prog 24 #[.agg #[.int .i64 2, .int .i64 l.w.rows, .int .i64 l.w.cols, .slice xa xn xk, .int .i64 l.b.rows, .int .i64 l.b.cols, .slice ya yn yk]] w fun e w' => e = .returned (errV (lfault l)) ∧ Below w.heap.size w w' := by
  obtain ⟨wr, e1⟩ : ∃ r, l.w.rows = r := ⟨_, rfl⟩
  obtain ⟨wc, e2⟩ : ∃ r, l.w.cols = r := ⟨_, rfl⟩
  obtain ⟨br, e3⟩ : ∃ r, l.b.rows = r := ⟨_, rfl⟩
  obtain ⟨bc, e4⟩ : ∃ r, l.b.cols = r := ⟨_, rfl⟩
  have HK := hide (fun W (h : Below w.heap.size w W) => kindof_relu l W hk (hs.below h) (ht.below h))
  rw [e1, e2, e3, e4] at HK
  rw [e1, e2, e3, e4]
  obtain ⟨E, hE⟩ : ∃ E, lfault l = E := ⟨_, rfl⟩
  rw [hE] at HK ⊢
  clear hs ht e1 e2 e3 e4 hk hE
  go_enter Try.func24, Try.ntmps24
  go_wp2_with fail
  refine (HK.out _ (below_one _ _)).mono ?_
  rintro e w1 ⟨rfl, hb1⟩
  go_wp2
  go_ret
  exact ⟨rfl, below_box (Below.refl _ _) hb1⟩
set_option maxHeartbeats 800000 in
theorem lcheck_scale (l : Ly) {xa : Option Addr} {xn xk : Nat} {ya : Option Addr} {yn yk : Nat} (w : World) (hk : l.k = 3) (hs : IsInts w (.slice xa xn xk) l.w.cells) (ht : IsInts w (.slice ya yn yk) l.b.cells) :
    Calls Try.prog 24 #[.agg #[.int .i64 3, .int .i64 l.w.rows, .int .i64 l.w.cols, .slice xa xn xk, .int .i64 l.b.rows, .int .i64 l.b.cols, .slice ya yn yk]] w fun e w' => e = .returned (errV (lfault l)) ∧ Below w.heap.size w w' := by
  obtain ⟨wr, e1⟩ : ∃ r, l.w.rows = r := ⟨_, rfl⟩
  obtain ⟨wc, e2⟩ : ∃ r, l.w.cols = r := ⟨_, rfl⟩
  obtain ⟨br, e3⟩ : ∃ r, l.b.rows = r := ⟨_, rfl⟩
  obtain ⟨bc, e4⟩ : ∃ r, l.b.cols = r := ⟨_, rfl⟩
  have HK := hide (fun W (h : Below w.heap.size w W) => kindof_scale l W hk (hs.below h) (ht.below h))
  rw [e1, e2, e3, e4] at HK
  rw [e1, e2, e3, e4]
  obtain ⟨E, hE⟩ : ∃ E, lfault l = E := ⟨_, rfl⟩
  rw [hE] at HK ⊢
  clear hs ht e1 e2 e3 e4 hk hE
  go_enter Try.func24, Try.ntmps24
  go_wp2_with fail
  refine (HK.out _ (below_one _ _)).mono ?_
  rintro e w1 ⟨rfl, hb1⟩
  go_wp2
  go_ret
  exact ⟨rfl, below_box (Below.refl _ _) hb1⟩
set_option maxHeartbeats 800000 in
theorem lcheck_shift (l : Ly) {xa : Option Addr} {xn xk : Nat} {ya : Option Addr} {yn yk : Nat} (w : World) (hk : l.k = 4) (hs : IsInts w (.slice xa xn xk) l.w.cells) (ht : IsInts w (.slice ya yn yk) l.b.cells) :
    Calls Try.prog 24 #[.agg #[.int .i64 4, .int .i64 l.w.rows, .int .i64 l.w.cols, .slice xa xn xk, .int .i64 l.b.rows, .int .i64 l.b.cols, .slice ya yn yk]] w fun e w' => e = .returned (errV (lfault l)) ∧ Below w.heap.size w w' := by
  obtain ⟨wr, e1⟩ : ∃ r, l.w.rows = r := ⟨_, rfl⟩
  obtain ⟨wc, e2⟩ : ∃ r, l.w.cols = r := ⟨_, rfl⟩
  obtain ⟨br, e3⟩ : ∃ r, l.b.rows = r := ⟨_, rfl⟩
  obtain ⟨bc, e4⟩ : ∃ r, l.b.cols = r := ⟨_, rfl⟩
  have HK := hide (fun W (h : Below w.heap.size w W) => kindof_shift l W hk (hs.below h) (ht.below h))
  rw [e1, e2, e3, e4] at HK
  rw [e1, e2, e3, e4]
  obtain ⟨E, hE⟩ : ∃ E, lfault l = E := ⟨_, rfl⟩
  rw [hE] at HK ⊢
  clear hs ht e1 e2 e3 e4 hk hE
  go_enter Try.func24, Try.ntmps24
  go_wp2_with fail
  refine (HK.out _ (below_one _ _)).mono ?_
  rintro e w1 ⟨rfl, hb1⟩
  go_wp2
  go_ret
  exact ⟨rfl, below_box (Below.refl _ _) hb1⟩
set_option maxHeartbeats 400000 in
theorem lcheck_none (k : Int) (wr wc br bc : Int) (xa : Option Addr) (xn xk : Nat) (ya : Option Addr) (yn yk : Nat) (w : World) (hk : k < 1 ∨ 4 < k) : Calls Try.prog 24 #[.agg #[.int .i64 k, .int .i64 wr, .int .i64 wc, .slice xa xn xk, .int .i64 br, .int .i64 bc, .slice ya yn yk]] w fun e w' => e = .returned (errV 1) ∧ Below w.heap.size w w' := by
  have HN := hide (fun W => kindof_none k wr wc br bc xa xn xk ya yn yk W hk)
  clear hk
  go_enter Try.func24, Try.ntmps24
  go_wp2_with fail
  refine (HN.out _).mono ?_
  rintro e w1 ⟨rfl, hb1⟩
  go_wp2
  go_ret
  exact ⟨rfl, below_box (Below.refl _ _) hb1⟩
theorem lcheck_any (v : Value) (l : Ly)  (w : World) (hv : IsLy w v l)  : Calls Try.prog 24 #[v] w fun e w' => e = .returned (errV (lfault l)) ∧ Below w.heap.size w w' := by
  obtain ⟨s, t, rfl, hs, ht⟩ := hv
  obtain ⟨xa, xn, xk, rfl⟩ := hs.shape
  obtain ⟨ya, yn, yk, rfl⟩ := ht.shape
  by_cases h1 : l.k = 1
  · rw [h1]; exact lcheck_linear l  w h1 hs ht 
  · by_cases h2 : l.k = 2
    · rw [h2]; exact lcheck_relu l  w h2 hs ht 
    · by_cases h3 : l.k = 3
      · rw [h3]; exact lcheck_scale l  w h3 hs ht 
      · by_cases h4 : l.k = 4
        · rw [h4]; exact lcheck_shift l  w h4 hs ht 
        · have hk : l.k < 1 ∨ 4 < l.k := by omega
          rw [lfault_k hk]
          exact lcheck_none l.k _ _ _ _ xa xn xk ya yn yk w hk
end Go.Proofs.Ytjmmplpecmnlnae
