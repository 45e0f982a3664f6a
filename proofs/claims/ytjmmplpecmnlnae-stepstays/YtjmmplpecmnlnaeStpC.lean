/- What checkRates, checkCounts and checkLayer of package step come to: what is wrong with the rates, with how many there are, with a layer and what goes with it. -/
import Derived.Test.YtjmmplpecmnlnaeStep
import Derived.Test.YtjmmplpecmnlnaeLWide
import Derived.Test.YtjmmplpecmnlnaeReg
import Derived.Deep.WholeRow
namespace Go.Proofs.Ytjmmplpecmnlnae
open Go.RowKit
theorem rates_any (le ke : Int) (w : World) : Calls Try.prog 15 #[.agg #[.int .i64 le, .int .i64 ke]] w fun e w' => e = .returned (errV (if badR le ke = true then 1 else 0)) ∧ Below w.heap.size w w' := by
  by_cases h1 : le < 0
  · have hb : badR le ke = true := by simp [badR, h1]
    rw [hb, if_pos rfl, err_ne (by decide)]
    go_enter Try.func15, Try.ntmps15
    go_wp2
    go_ret
    exact ⟨rfl, below_one _ _⟩
  · by_cases h2 : 256 < le
    · have hb : badR le ke = true := by simp [badR, h2]
      rw [hb, if_pos rfl, err_ne (by decide)]
      go_enter Try.func15, Try.ntmps15
      go_wp2
      go_ret
      exact ⟨rfl, below_one _ _⟩
    · by_cases h3 : ke < 0
      · have hb : badR le ke = true := by simp [badR, h3]
        rw [hb, if_pos rfl, err_ne (by decide)]
        go_enter Try.func15, Try.ntmps15
        go_wp2
        go_ret
        exact ⟨rfl, below_one _ _⟩
      · by_cases h4 : 256 < ke
        · have hb : badR le ke = true := by simp [badR, h4]
          rw [hb, if_pos rfl, err_ne (by decide)]
          go_enter Try.func15, Try.ntmps15
          go_wp2
          go_ret
          exact ⟨rfl, below_one _ _⟩
        · have hb : badR le ke = false := by simp [badR]; omega
          rw [hb, if_neg (by decide), err_eq rfl]
          go_enter Try.func15, Try.ntmps15
          go_wp2
          go_ret
          exact ⟨rfl, below_one _ _⟩
theorem counts_any (a a1 a2 : Option Addr) (N N1 N2 c c1 c2 : Nat) (w : World) (h0 : N ≤ maxLen) : Calls Try.prog 16 #[.slice a N c, .slice a1 N1 c1, .slice a2 N2 c2] w fun e w' => e = .returned (errV (if 12 < N then 3 else if N1 ≠ N ∨ N2 ≠ N then 2 else 0)) ∧ w' = w := by
  unfold maxLen at h0
  by_cases h12 : 12 < N
  · have h12' : (12 : Int) < (N : Int) := by omega
    rw [if_pos h12, err_ne (by decide)]
    go_enter Try.func16, Try.ntmps16
    go_wp2
    go_ret
    exact ⟨rfl, rfl⟩
  · have h12' : ¬ (12 : Int) < (N : Int) := by omega
    rw [if_neg h12]
    by_cases e1 : N1 = N
    · by_cases e2 : N2 = N
      · rw [if_neg (by simp [e1, e2]), err_eq rfl]
        have x1 : ((N1 : Int) != (N : Int)) = false := by simp [e1]
        have x2 : ((N2 : Int) != (N : Int)) = false := by simp [e2]
        clear e1 e2
        go_enter Try.func16, Try.ntmps16
        go_wp2
        go_ret
        exact ⟨rfl, rfl⟩
      · rw [if_pos (.inr e2), err_ne (by decide)]
        have x1 : ((N1 : Int) != (N : Int)) = false := by simp [e1]
        have x2 : ((N2 : Int) != (N : Int)) = true := by simp; omega
        clear e1 e2
        go_enter Try.func16, Try.ntmps16
        go_wp2
        go_ret
        exact ⟨rfl, rfl⟩
    · rw [if_pos (.inl e1), err_ne (by decide)]
      have x1 : ((N1 : Int) != (N : Int)) = true := by simp; omega
      clear e1
      go_enter Try.func16, Try.ntmps16
      go_wp2
      go_ret
      exact ⟨rfl, rfl⟩
/-- What stp1E is, where the first so many are right. -/
theorem stp1_f0 {l : Ly} {p q : Mx × Mx} (h0 : lfault l ≠ 0) : stp1E l p q = lfault l := by unfold stp1E; rw [if_pos h0]
theorem stp1_f1 {l : Ly} {p q : Mx × Mx} (h0 : lfault l = 0) (h1 : fault p.1 ≠ 0) : stp1E l p q = fault p.1 := by unfold stp1E; rw [if_neg (by simp [h0]), if_pos h1]
theorem stp1_f2 {l : Ly} {p q : Mx × Mx} (h0 : lfault l = 0) (h1 : fault p.1 = 0) (h2 : fault p.2 ≠ 0) : stp1E l p q = fault p.2 := by unfold stp1E; rw [if_neg (by simp [h0]), if_neg (by simp [h1]), if_pos h2]
theorem stp1_f3 {l : Ly} {p q : Mx × Mx} (h0 : lfault l = 0) (h1 : fault p.1 = 0) (h2 : fault p.2 = 0) (h3 : fault q.1 ≠ 0) : stp1E l p q = fault q.1 := by unfold stp1E; rw [if_neg (by simp [h0]), if_neg (by simp [h1]), if_neg (by simp [h2]), if_pos h3]
theorem stp1_f4 {l : Ly} {p q : Mx × Mx} (h0 : lfault l = 0) (h1 : fault p.1 = 0) (h2 : fault p.2 = 0) (h3 : fault q.1 = 0) (h4 : fault q.2 ≠ 0) : stp1E l p q = fault q.2 := by unfold stp1E; rw [if_neg (by simp [h0]), if_neg (by simp [h1]), if_neg (by simp [h2]), if_neg (by simp [h3]), if_pos h4]
theorem stp1_f5 {l : Ly} {p q : Mx × Mx} (h0 : lfault l = 0) (h1 : fault p.1 = 0) (h2 : fault p.2 = 0) (h3 : fault q.1 = 0) (h4 : fault q.2 = 0) : stp1E l p q = if sameSh p.1 l.w = false ∨ sameSh p.2 l.b = false ∨ sameSh q.1 l.w = false ∨ sameSh q.2 l.b = false then 2 else 0 := by unfold stp1E; rw [if_neg (by simp [h0]), if_neg (by simp [h1]), if_neg (by simp [h2]), if_neg (by simp [h3]), if_neg (by simp [h4])]
theorem heap_lt {w : World} {g : Nat} {o : Obj} (h : w.heap[g]? = some o) : g < w.heap.size := by
  rcases Nat.lt_or_ge g w.heap.size with h' | h'
  · exact h'
  · rw [Array.getElem?_eq_none h'] at h; cases h
theorem sameSh_r {a b : Mx} (h : ¬ a.rows = b.rows) : sameSh a b = false := decide_eq_false (fun e => h e.1)
theorem sameSh_c {a b : Mx} (h : ¬ a.cols = b.cols) : sameSh a b = false := decide_eq_false (fun e => h e.2)
theorem sameSh_t {a b : Mx} (h : a.rows = b.rows) (h' : a.cols = b.cols) : sameSh a b = true := decide_eq_true ⟨h, h'⟩
theorem pair_i0 (x0 x1 x2 x3 x4 x5 x6 x7 x8 x9 x10 x11 x12 x13 x14 x15 x16 x17 x18 x19 x20 x21 x22 x23 : Value) (w : World) : (Instr.index 66 (.agg #[x0, x1, x2, x3, x4, x5, x6, x7, x8, x9, x10, x11, x12, x13, x14, x15, x16, x17, x18, x19, x20, x21, x22, x23]) (.int .i64 0)).run Try.prog w = .ok (.agg #[x0, x1, x2, x3, x4, x5]) w := by kernel_rfl
theorem pair_i1 (x0 x1 x2 x3 x4 x5 x6 x7 x8 x9 x10 x11 x12 x13 x14 x15 x16 x17 x18 x19 x20 x21 x22 x23 : Value) (w : World) : (Instr.index 66 (.agg #[x0, x1, x2, x3, x4, x5, x6, x7, x8, x9, x10, x11, x12, x13, x14, x15, x16, x17, x18, x19, x20, x21, x22, x23]) (.int .i64 1)).run Try.prog w = .ok (.agg #[x6, x7, x8, x9, x10, x11]) w := by kernel_rfl
theorem pair_i2 (x0 x1 x2 x3 x4 x5 x6 x7 x8 x9 x10 x11 x12 x13 x14 x15 x16 x17 x18 x19 x20 x21 x22 x23 : Value) (w : World) : (Instr.index 66 (.agg #[x0, x1, x2, x3, x4, x5, x6, x7, x8, x9, x10, x11, x12, x13, x14, x15, x16, x17, x18, x19, x20, x21, x22, x23]) (.int .i64 2)).run Try.prog w = .ok (.agg #[x12, x13, x14, x15, x16, x17]) w := by kernel_rfl
theorem pair_i3 (x0 x1 x2 x3 x4 x5 x6 x7 x8 x9 x10 x11 x12 x13 x14 x15 x16 x17 x18 x19 x20 x21 x22 x23 : Value) (w : World) : (Instr.index 66 (.agg #[x0, x1, x2, x3, x4, x5, x6, x7, x8, x9, x10, x11, x12, x13, x14, x15, x16, x17, x18, x19, x20, x21, x22, x23]) (.int .i64 3)).run Try.prog w = .ok (.agg #[x18, x19, x20, x21, x22, x23]) w := by kernel_rfl

set_option maxHeartbeats 8000000 in
set_option maxRecDepth 100000 in
theorem chk_f0 (l : Ly) (p q : Mx × Mx) (sa : Option Addr) (sn sk : Nat) (ta : Option Addr) (tn tk : Nat) (pa : Option Addr) (pn pk : Nat) (qa : Option Addr) (qn qk : Nat) (xa : Option Addr) (xn xk : Nat) (ya : Option Addr) (yn yk : Nat) (w : World) (hs : IsInts w (.slice sa sn sk) l.w.cells) (ht : IsInts w (.slice ta tn tk) l.b.cells) (g0 : lfault l ≠ 0) :
    Calls Try.prog 17 #[.agg #[.int .i64 l.k, .int .i64 l.w.rows, .int .i64 l.w.cols, .slice sa sn sk, .int .i64 l.b.rows, .int .i64 l.b.cols, .slice ta tn tk], .agg #[.int .i64 p.1.rows, .int .i64 p.1.cols, .slice pa pn pk, .int .i64 p.2.rows, .int .i64 p.2.cols, .slice qa qn qk], .agg #[.int .i64 q.1.rows, .int .i64 q.1.cols, .slice xa xn xk, .int .i64 q.2.rows, .int .i64 q.2.cols, .slice ya yn yk]] w fun e w' => e = .returned (errV (lfault l)) ∧ Below w.heap.size w w' := by
  obtain ⟨V, hV⟩ : ∃ V, V = ((w.alloc (.cells #[.int .i64 l.k, .int .i64 l.w.rows, .int .i64 l.w.cols, .slice sa sn sk, .int .i64 l.b.rows, .int .i64 l.b.cols, .slice ta tn tk] 30)).alloc (.cells #[.int .i64 p.1.rows, .int .i64 p.1.cols, .slice pa pn pk, .int .i64 p.2.rows, .int .i64 p.2.cols, .slice qa qn qk] 32)).alloc (.cells #[.int .i64 q.1.rows, .int .i64 q.1.cols, .slice xa xn xk, .int .i64 q.2.rows, .int .i64 q.2.cols, .slice ya yn yk] 32) := ⟨_, rfl⟩
  have HV := hide hV
  have HWV : Hid (Below w.heap.size w V) := by rw [hV]; exact hide (bel_alloc (bel_alloc (bel_alloc (Below.refl _ _))))
  have HC := hide (lcheck_any (.agg #[.int .i64 l.k, .int .i64 l.w.rows, .int .i64 l.w.cols, .slice sa sn sk, .int .i64 l.b.rows, .int .i64 l.b.cols, .slice ta tn tk]) l V ⟨_, _, rfl, hs.below HWV.out, ht.below HWV.out⟩)
  obtain ⟨E, hE⟩ : ∃ E, lfault l = E := ⟨_, rfl⟩
  rw [hE] at g0
  rw [hE]
  rw [hE, err_ne g0] at HC
  rw [err_ne g0]
  clear hE hV hs ht
  go_enter Try.func17, Try.ntmps17
  go_wp2_with fail
  rw [← HV.out]
  refine HC.out.mono ?_
  rintro e w1 ⟨rfl, hb1⟩
  have HB1 := hide hb1
  clear hb1 HC HV
  go_wp2
  go_ret
  exact ⟨rfl, below_next HWV.out HB1.out⟩
set_option maxHeartbeats 8000000 in
set_option maxRecDepth 100000 in
theorem chk_good (l : Ly) (p q : Mx × Mx) (sa : Option Addr) (sn sk : Nat) (ta : Option Addr) (tn tk : Nat) (pa : Option Addr) (pn pk : Nat) (qa : Option Addr) (qn qk : Nat) (xa : Option Addr) (xn xk : Nat) (ya : Option Addr) (yn yk : Nat) (w : World) (hs : IsInts w (.slice sa sn sk) l.w.cells) (ht : IsInts w (.slice ta tn tk) l.b.cells) (h1 : IsInts w (.slice pa pn pk) p.1.cells) (h2 : IsInts w (.slice qa qn qk) p.2.cells) (h3 : IsInts w (.slice xa xn xk) q.1.cells) (h4 : IsInts w (.slice ya yn yk) q.2.cells) (g0 : lfault l = 0) :
    Calls Try.prog 17 #[.agg #[.int .i64 l.k, .int .i64 l.w.rows, .int .i64 l.w.cols, .slice sa sn sk, .int .i64 l.b.rows, .int .i64 l.b.cols, .slice ta tn tk], .agg #[.int .i64 p.1.rows, .int .i64 p.1.cols, .slice pa pn pk, .int .i64 p.2.rows, .int .i64 p.2.cols, .slice qa qn qk], .agg #[.int .i64 q.1.rows, .int .i64 q.1.cols, .slice xa xn xk, .int .i64 q.2.rows, .int .i64 q.2.cols, .slice ya yn yk]] w fun e w' => e = .returned (errV (stp1E l p q)) ∧ Below w.heap.size w w' := by
  obtain ⟨V, hV⟩ : ∃ V, V = ((w.alloc (.cells #[.int .i64 l.k, .int .i64 l.w.rows, .int .i64 l.w.cols, .slice sa sn sk, .int .i64 l.b.rows, .int .i64 l.b.cols, .slice ta tn tk] 30)).alloc (.cells #[.int .i64 p.1.rows, .int .i64 p.1.cols, .slice pa pn pk, .int .i64 p.2.rows, .int .i64 p.2.cols, .slice qa qn qk] 32)).alloc (.cells #[.int .i64 q.1.rows, .int .i64 q.1.cols, .slice xa xn xk, .int .i64 q.2.rows, .int .i64 q.2.cols, .slice ya yn yk] 32) := ⟨_, rfl⟩
  have HV := hide hV
  have HWV : Hid (Below w.heap.size w V) := by rw [hV]; exact hide (bel_alloc (bel_alloc (bel_alloc (Below.refl _ _))))
  have HC := hide (lcheck_any (.agg #[.int .i64 l.k, .int .i64 l.w.rows, .int .i64 l.w.cols, .slice sa sn sk, .int .i64 l.b.rows, .int .i64 l.b.cols, .slice ta tn tk]) l V ⟨_, _, rfl, hs.below HWV.out, ht.below HWV.out⟩)
  have HX0 : Hid (Box V w.heap.size [.int .i64 l.k, .int .i64 l.w.rows, .int .i64 l.w.cols, .slice sa sn sk, .int .i64 l.b.rows, .int .i64 l.b.cols, .slice ta tn tk]) := by rw [hV]; exact hide ((Box.new w [.int .i64 l.k, .int .i64 l.w.rows, .int .i64 l.w.cols, .slice sa sn sk, .int .i64 l.b.rows, .int .i64 l.b.cols, .slice ta tn tk] 30 rfl).below (bel_alloc (bel_alloc (Below.refl _ _))))
  have HX1 : Hid (Box V (w.heap.size + 1) [.int .i64 p.1.rows, .int .i64 p.1.cols, .slice pa pn pk, .int .i64 p.2.rows, .int .i64 p.2.cols, .slice qa qn qk]) := by rw [hV]; exact hide ((Box.new _ [.int .i64 p.1.rows, .int .i64 p.1.cols, .slice pa pn pk, .int .i64 p.2.rows, .int .i64 p.2.cols, .slice qa qn qk] 32 (by simp)).below (bel_alloc (Below.refl _ _)))
  have HX2 : Hid (Box V (w.heap.size + 1 + 1) [.int .i64 q.1.rows, .int .i64 q.1.cols, .slice xa xn xk, .int .i64 q.2.rows, .int .i64 q.2.cols, .slice ya yn yk]) := by rw [hV]; exact hide (Box.new _ [.int .i64 q.1.rows, .int .i64 q.1.cols, .slice xa xn xk, .int .i64 q.2.rows, .int .i64 q.2.cols, .slice ya yn yk] 32 (by simp))
  have HK1 := hide (fun W (h : Below V.heap.size V W) => check_any (.agg #[.int .i64 p.1.rows, .int .i64 p.1.cols, .slice pa pn pk]) p.1 W ⟨_, rfl, h1.below (below_next HWV.out h)⟩)
  have HK2 := hide (fun W (h : Below V.heap.size V W) => check_any (.agg #[.int .i64 p.2.rows, .int .i64 p.2.cols, .slice qa qn qk]) p.2 W ⟨_, rfl, h2.below (below_next HWV.out h)⟩)
  have HK3 := hide (fun W (h : Below V.heap.size V W) => check_any (.agg #[.int .i64 q.1.rows, .int .i64 q.1.cols, .slice xa xn xk]) q.1 W ⟨_, rfl, h3.below (below_next HWV.out h)⟩)
  have HK4 := hide (fun W (h : Below V.heap.size V W) => check_any (.agg #[.int .i64 q.2.rows, .int .i64 q.2.cols, .slice ya yn yk]) q.2 W ⟨_, rfl, h4.below (below_next HWV.out h)⟩)
  have HL0 := hide g0
  rw [g0, err_eq rfl] at HC
  obtain ⟨E, hE⟩ : ∃ E, stp1E l p q = E := ⟨_, rfl⟩
  rw [hE]
  have HE := hide hE
  clear hE hV hs ht h1 h2 h3 h4 g0
  go_enter Try.func17, Try.ntmps17
  go_wp2_with fail
  rw [← HV.out]
  refine HC.out.mono ?_
  rintro e w1 ⟨rfl, hb1⟩
  have HB1 := hide hb1
  clear hb1 HC HV
  have b00 := (HX0.out.below HB1.out) 0 _ rfl
  have b01 := (HX0.out.below HB1.out) 1 _ rfl
  have b02 := (HX0.out.below HB1.out) 2 _ rfl
  have b03 := (HX0.out.below HB1.out) 3 _ rfl
  have b04 := (HX0.out.below HB1.out) 4 _ rfl
  have b05 := (HX0.out.below HB1.out) 5 _ rfl
  have b06 := (HX0.out.below HB1.out) 6 _ rfl
  have b10 := (HX1.out.below HB1.out) 0 _ rfl
  have b11 := (HX1.out.below HB1.out) 1 _ rfl
  have b12 := (HX1.out.below HB1.out) 2 _ rfl
  have b13 := (HX1.out.below HB1.out) 3 _ rfl
  have b14 := (HX1.out.below HB1.out) 4 _ rfl
  have b15 := (HX1.out.below HB1.out) 5 _ rfl
  have b20 := (HX2.out.below HB1.out) 0 _ rfl
  have b21 := (HX2.out.below HB1.out) 1 _ rfl
  have b22 := (HX2.out.below HB1.out) 2 _ rfl
  have b23 := (HX2.out.below HB1.out) 3 _ rfl
  have b24 := (HX2.out.below HB1.out) 4 _ rfl
  have b25 := (HX2.out.below HB1.out) 5 _ rfl
  go_wp2_with (first | (refine wpList_store_row rfl 66 _ _ rfl w1.heap.size #[.int .i64 p.1.rows, .int .i64 p.1.cols, .slice pa pn pk, .int .i64 l.w.rows, .int .i64 l.w.cols, .slice sa sn sk, .int .i64 p.2.rows, .int .i64 p.2.cols, .slice qa qn qk, .int .i64 l.b.rows, .int .i64 l.b.cols, .slice ta tn tk, .int .i64 q.1.rows, .int .i64 q.1.cols, .slice xa xn xk, .int .i64 l.w.rows, .int .i64 l.w.cols, .slice sa sn sk, .int .i64 q.2.rows, .int .i64 q.2.cols, .slice ya yn yk, .int .i64 l.b.rows, .int .i64 l.b.cols, .slice ta tn tk] rfl rfl 66 #[.int .i64 0, .int .i64 0, .slice none 0 0, .int .i64 0, .int .i64 0, .slice none 0 0, .int .i64 0, .int .i64 0, .slice none 0 0, .int .i64 0, .int .i64 0, .slice none 0 0, .int .i64 0, .int .i64 0, .slice none 0 0, .int .i64 0, .int .i64 0, .slice none 0 0, .int .i64 0, .int .i64 0, .slice none 0 0, .int .i64 0, .int .i64 0, .slice none 0 0] (heap_alloc_last _ _) (by kernel_rfl) rfl (by simp [Value.oneCell']) ?_; rw [World.setRow_alloc_new]) | (refine wpList_load_row rfl 66 _ rfl w1.heap.size rfl 66 #[.int .i64 p.1.rows, .int .i64 p.1.cols, .slice pa pn pk, .int .i64 l.w.rows, .int .i64 l.w.cols, .slice sa sn sk, .int .i64 p.2.rows, .int .i64 p.2.cols, .slice qa qn qk, .int .i64 l.b.rows, .int .i64 l.b.cols, .slice ta tn tk, .int .i64 q.1.rows, .int .i64 q.1.cols, .slice xa xn xk, .int .i64 l.w.rows, .int .i64 l.w.cols, .slice sa sn sk, .int .i64 q.2.rows, .int .i64 q.2.cols, .slice ya yn yk, .int .i64 l.b.rows, .int .i64 l.b.cols, .slice ta tn tk] (0, 0) _ (heap_alloc_last _ _) Try.underlying66 rfl (by kernel_rfl) ?_))
  clear b00 b01 b02 b03 b04 b05 b06 b10 b11 b12 b13 b14 b15 b20 b21 b22 b23 b24 b25
  have i0 : ∀ w, (Instr.index 66 (.agg #[.int .i64 p.1.rows, .int .i64 p.1.cols, .slice pa pn pk, .int .i64 l.w.rows, .int .i64 l.w.cols, .slice sa sn sk, .int .i64 p.2.rows, .int .i64 p.2.cols, .slice qa qn qk, .int .i64 l.b.rows, .int .i64 l.b.cols, .slice ta tn tk, .int .i64 q.1.rows, .int .i64 q.1.cols, .slice xa xn xk, .int .i64 l.w.rows, .int .i64 l.w.cols, .slice sa sn sk, .int .i64 q.2.rows, .int .i64 q.2.cols, .slice ya yn yk, .int .i64 l.b.rows, .int .i64 l.b.cols, .slice ta tn tk]) (.int .i64 0)).run Try.prog w = .ok (.agg #[.int .i64 p.1.rows, .int .i64 p.1.cols, .slice pa pn pk, .int .i64 l.w.rows, .int .i64 l.w.cols, .slice sa sn sk]) w := fun _ => pair_i0 _ _ _ _ _ _ _ _ _ _ _ _ _ _ _ _ _ _ _ _ _ _ _ _  _
  have i1 : ∀ w, (Instr.index 66 (.agg #[.int .i64 p.1.rows, .int .i64 p.1.cols, .slice pa pn pk, .int .i64 l.w.rows, .int .i64 l.w.cols, .slice sa sn sk, .int .i64 p.2.rows, .int .i64 p.2.cols, .slice qa qn qk, .int .i64 l.b.rows, .int .i64 l.b.cols, .slice ta tn tk, .int .i64 q.1.rows, .int .i64 q.1.cols, .slice xa xn xk, .int .i64 l.w.rows, .int .i64 l.w.cols, .slice sa sn sk, .int .i64 q.2.rows, .int .i64 q.2.cols, .slice ya yn yk, .int .i64 l.b.rows, .int .i64 l.b.cols, .slice ta tn tk]) (.int .i64 1)).run Try.prog w = .ok (.agg #[.int .i64 p.2.rows, .int .i64 p.2.cols, .slice qa qn qk, .int .i64 l.b.rows, .int .i64 l.b.cols, .slice ta tn tk]) w := fun _ => pair_i1 _ _ _ _ _ _ _ _ _ _ _ _ _ _ _ _ _ _ _ _ _ _ _ _  _
  have i2 : ∀ w, (Instr.index 66 (.agg #[.int .i64 p.1.rows, .int .i64 p.1.cols, .slice pa pn pk, .int .i64 l.w.rows, .int .i64 l.w.cols, .slice sa sn sk, .int .i64 p.2.rows, .int .i64 p.2.cols, .slice qa qn qk, .int .i64 l.b.rows, .int .i64 l.b.cols, .slice ta tn tk, .int .i64 q.1.rows, .int .i64 q.1.cols, .slice xa xn xk, .int .i64 l.w.rows, .int .i64 l.w.cols, .slice sa sn sk, .int .i64 q.2.rows, .int .i64 q.2.cols, .slice ya yn yk, .int .i64 l.b.rows, .int .i64 l.b.cols, .slice ta tn tk]) (.int .i64 2)).run Try.prog w = .ok (.agg #[.int .i64 q.1.rows, .int .i64 q.1.cols, .slice xa xn xk, .int .i64 l.w.rows, .int .i64 l.w.cols, .slice sa sn sk]) w := fun _ => pair_i2 _ _ _ _ _ _ _ _ _ _ _ _ _ _ _ _ _ _ _ _ _ _ _ _  _
  have i3 : ∀ w, (Instr.index 66 (.agg #[.int .i64 p.1.rows, .int .i64 p.1.cols, .slice pa pn pk, .int .i64 l.w.rows, .int .i64 l.w.cols, .slice sa sn sk, .int .i64 p.2.rows, .int .i64 p.2.cols, .slice qa qn qk, .int .i64 l.b.rows, .int .i64 l.b.cols, .slice ta tn tk, .int .i64 q.1.rows, .int .i64 q.1.cols, .slice xa xn xk, .int .i64 l.w.rows, .int .i64 l.w.cols, .slice sa sn sk, .int .i64 q.2.rows, .int .i64 q.2.cols, .slice ya yn yk, .int .i64 l.b.rows, .int .i64 l.b.cols, .slice ta tn tk]) (.int .i64 3)).run Try.prog w = .ok (.agg #[.int .i64 q.2.rows, .int .i64 q.2.cols, .slice ya yn yk, .int .i64 l.b.rows, .int .i64 l.b.cols, .slice ta tn tk]) w := fun _ => pair_i3 _ _ _ _ _ _ _ _ _ _ _ _ _ _ _ _ _ _ _ _ _ _ _ _  _
  obtain ⟨A, hA⟩ : ∃ x, x = Value.agg #[.int .i64 p.1.rows, .int .i64 p.1.cols, .slice pa pn pk, .int .i64 l.w.rows, .int .i64 l.w.cols, .slice sa sn sk, .int .i64 p.2.rows, .int .i64 p.2.cols, .slice qa qn qk, .int .i64 l.b.rows, .int .i64 l.b.cols, .slice ta tn tk, .int .i64 q.1.rows, .int .i64 q.1.cols, .slice xa xn xk, .int .i64 l.w.rows, .int .i64 l.w.cols, .slice sa sn sk, .int .i64 q.2.rows, .int .i64 q.2.cols, .slice ya yn yk, .int .i64 l.b.rows, .int .i64 l.b.cols, .slice ta tn tk] := ⟨_, rfl⟩
  rw [← hA] at i0 i1 i2 i3 ⊢
  clear hA
  go_loopw [41] (fun a wr => ∃ (i : Nat) (c : Int), i ≤ 4 ∧ c = (i : Int) ∧ a = .int .i64 c ∧ (0 < i → fault p.1 = 0) ∧ (1 < i → fault p.2 = 0) ∧ (2 < i → fault q.1 = 0) ∧ (3 < i → fault q.2 = 0) ∧ wr.heap[w1.heap.size]? = some (.cells #[.int .i64 p.1.rows, .int .i64 p.1.cols, .slice pa pn pk, .int .i64 l.w.rows, .int .i64 l.w.cols, .slice sa sn sk, .int .i64 p.2.rows, .int .i64 p.2.cols, .slice qa qn qk, .int .i64 l.b.rows, .int .i64 l.b.cols, .slice ta tn tk, .int .i64 q.1.rows, .int .i64 q.1.cols, .slice xa xn xk, .int .i64 l.w.rows, .int .i64 l.w.cols, .slice sa sn sk, .int .i64 q.2.rows, .int .i64 q.2.cols, .slice ya yn yk, .int .i64 l.b.rows, .int .i64 l.b.cols, .slice ta tn tk] 66) ∧ Below w1.heap.size w1 wr) (fun a _ => 4 - (intOf a).toNat)
  case atStart => exact ⟨0, 0, Nat.zero_le _, rfl, rfl, (fun h => by omega), (fun h => by omega), (fun h => by omega), (fun h => by omega), heap_alloc_last _ _, below_one _ _⟩
  case round =>
    obtain ⟨i, c, hi, hc, rfl, f1, f2, f3, f4, hbx, hbw⟩ := hrel
    have HBX := hide hbx
    have HBL := hide (show w1.heap.size < wr.heap.size from heap_lt hbx)
    have HBW := hide (below_next HB1.out hbw)
    have HB0 := hide hbw
    clear hbx hbw
    have hcase : i = 0 ∨ i = 1 ∨ i = 2 ∨ i = 3 ∨ i = 4 := by omega
    clear hi
    rcases hcase with rfl | rfl | rfl | rfl | rfl
    · obtain rfl : c = 0 := hc
      by_cases gk : fault p.1 = 0
      · have HF := hide (show fault p.1 = 0 from gk)
        have HC := hide (HK1.out (wr.alloc (.cells #[.int .i64 p.1.rows, .int .i64 p.1.cols, .slice pa pn pk, .int .i64 l.w.rows, .int .i64 l.w.cols, .slice sa sn sk] 65)) (bel_alloc HBW.out))
        rw [gk, err_eq rfl] at HC
        clear f1 f2 f3 f4 gk
        go_wp2_with fail
        refine HC.out.mono ?_
        rintro e w2 ⟨rfl, hb2⟩
        have HB2 := hide (below_next (below_one wr (.cells #[.int .i64 p.1.rows, .int .i64 p.1.cols, .slice pa pn pk, .int .i64 l.w.rows, .int .i64 l.w.cols, .slice sa sn sk] 65)) hb2)
        clear hb2 HC
        go_wp2
        go_roundw
        case rel => exact ⟨1, 1, by decide, rfl, rfl, (fun _ => HF.out), (fun h => by omega), (fun h => by omega), (fun h => by omega), (HB2.out.block _ HBL.out).trans HBX.out, below_next HB0.out HB2.out⟩
        case measure => simp [intOf]
      · have HEE := hide (show fault p.1 = E from (stp1_f1 HL0.out  gk).symm.trans HE.out)
        have HEZ := hide (show E ≠ 0 by rw [← HEE.out]; exact gk)
        have HC := hide (HK1.out (wr.alloc (.cells #[.int .i64 p.1.rows, .int .i64 p.1.cols, .slice pa pn pk, .int .i64 l.w.rows, .int .i64 l.w.cols, .slice sa sn sk] 65)) (bel_alloc HBW.out))
        rw [HEE.out, err_ne HEZ.out] at HC
        clear f1 f2 f3 f4 gk
        go_wp2_with fail
        refine HC.out.mono ?_
        rintro e w2 ⟨rfl, hb2⟩
        have HB2 := hide (below_next (below_one wr (.cells #[.int .i64 p.1.rows, .int .i64 p.1.cols, .slice pa pn pk, .int .i64 l.w.rows, .int .i64 l.w.cols, .slice sa sn sk] 65)) hb2)
        clear hb2 HC
        go_wp2
        go_ret
        exact ⟨ret_err (by rw [err_ne HEZ.out]; rfl), below_next HWV.out (below_next HBW.out HB2.out)⟩
    · obtain rfl : c = 1 := hc
      by_cases gk : fault p.2 = 0
      · have HF := hide (show fault p.1 = 0 ∧ fault p.2 = 0 from ⟨f1 (by decide), gk⟩)
        have HC := hide (HK2.out (wr.alloc (.cells #[.int .i64 p.2.rows, .int .i64 p.2.cols, .slice qa qn qk, .int .i64 l.b.rows, .int .i64 l.b.cols, .slice ta tn tk] 65)) (bel_alloc HBW.out))
        rw [gk, err_eq rfl] at HC
        clear f1 f2 f3 f4 gk
        go_wp2_with fail
        refine HC.out.mono ?_
        rintro e w2 ⟨rfl, hb2⟩
        have HB2 := hide (below_next (below_one wr (.cells #[.int .i64 p.2.rows, .int .i64 p.2.cols, .slice qa qn qk, .int .i64 l.b.rows, .int .i64 l.b.cols, .slice ta tn tk] 65)) hb2)
        clear hb2 HC
        go_wp2
        go_roundw
        case rel => exact ⟨2, 2, by decide, rfl, rfl, (fun _ => HF.out.1), (fun _ => HF.out.2), (fun h => by omega), (fun h => by omega), (HB2.out.block _ HBL.out).trans HBX.out, below_next HB0.out HB2.out⟩
        case measure => simp [intOf]
      · have HEE := hide (show fault p.2 = E from (stp1_f2 HL0.out (f1 (by decide)) gk).symm.trans HE.out)
        have HEZ := hide (show E ≠ 0 by rw [← HEE.out]; exact gk)
        have HC := hide (HK2.out (wr.alloc (.cells #[.int .i64 p.2.rows, .int .i64 p.2.cols, .slice qa qn qk, .int .i64 l.b.rows, .int .i64 l.b.cols, .slice ta tn tk] 65)) (bel_alloc HBW.out))
        rw [HEE.out, err_ne HEZ.out] at HC
        clear f1 f2 f3 f4 gk
        go_wp2_with fail
        refine HC.out.mono ?_
        rintro e w2 ⟨rfl, hb2⟩
        have HB2 := hide (below_next (below_one wr (.cells #[.int .i64 p.2.rows, .int .i64 p.2.cols, .slice qa qn qk, .int .i64 l.b.rows, .int .i64 l.b.cols, .slice ta tn tk] 65)) hb2)
        clear hb2 HC
        go_wp2
        go_ret
        exact ⟨ret_err (by rw [err_ne HEZ.out]; rfl), below_next HWV.out (below_next HBW.out HB2.out)⟩
    · obtain rfl : c = 2 := hc
      by_cases gk : fault q.1 = 0
      · have HF := hide (show fault p.1 = 0 ∧ fault p.2 = 0 ∧ fault q.1 = 0 from ⟨f1 (by decide), ⟨f2 (by decide), gk⟩⟩)
        have HC := hide (HK3.out (wr.alloc (.cells #[.int .i64 q.1.rows, .int .i64 q.1.cols, .slice xa xn xk, .int .i64 l.w.rows, .int .i64 l.w.cols, .slice sa sn sk] 65)) (bel_alloc HBW.out))
        rw [gk, err_eq rfl] at HC
        clear f1 f2 f3 f4 gk
        go_wp2_with fail
        refine HC.out.mono ?_
        rintro e w2 ⟨rfl, hb2⟩
        have HB2 := hide (below_next (below_one wr (.cells #[.int .i64 q.1.rows, .int .i64 q.1.cols, .slice xa xn xk, .int .i64 l.w.rows, .int .i64 l.w.cols, .slice sa sn sk] 65)) hb2)
        clear hb2 HC
        go_wp2
        go_roundw
        case rel => exact ⟨3, 3, by decide, rfl, rfl, (fun _ => HF.out.1), (fun _ => HF.out.2.1), (fun _ => HF.out.2.2), (fun h => by omega), (HB2.out.block _ HBL.out).trans HBX.out, below_next HB0.out HB2.out⟩
        case measure => simp [intOf]
      · have HEE := hide (show fault q.1 = E from (stp1_f3 HL0.out (f1 (by decide)) (f2 (by decide)) gk).symm.trans HE.out)
        have HEZ := hide (show E ≠ 0 by rw [← HEE.out]; exact gk)
        have HC := hide (HK3.out (wr.alloc (.cells #[.int .i64 q.1.rows, .int .i64 q.1.cols, .slice xa xn xk, .int .i64 l.w.rows, .int .i64 l.w.cols, .slice sa sn sk] 65)) (bel_alloc HBW.out))
        rw [HEE.out, err_ne HEZ.out] at HC
        clear f1 f2 f3 f4 gk
        go_wp2_with fail
        refine HC.out.mono ?_
        rintro e w2 ⟨rfl, hb2⟩
        have HB2 := hide (below_next (below_one wr (.cells #[.int .i64 q.1.rows, .int .i64 q.1.cols, .slice xa xn xk, .int .i64 l.w.rows, .int .i64 l.w.cols, .slice sa sn sk] 65)) hb2)
        clear hb2 HC
        go_wp2
        go_ret
        exact ⟨ret_err (by rw [err_ne HEZ.out]; rfl), below_next HWV.out (below_next HBW.out HB2.out)⟩
    · obtain rfl : c = 3 := hc
      by_cases gk : fault q.2 = 0
      · have HF := hide (show fault p.1 = 0 ∧ fault p.2 = 0 ∧ fault q.1 = 0 ∧ fault q.2 = 0 from ⟨f1 (by decide), ⟨f2 (by decide), ⟨f3 (by decide), gk⟩⟩⟩)
        have HC := hide (HK4.out (wr.alloc (.cells #[.int .i64 q.2.rows, .int .i64 q.2.cols, .slice ya yn yk, .int .i64 l.b.rows, .int .i64 l.b.cols, .slice ta tn tk] 65)) (bel_alloc HBW.out))
        rw [gk, err_eq rfl] at HC
        clear f1 f2 f3 f4 gk
        go_wp2_with fail
        refine HC.out.mono ?_
        rintro e w2 ⟨rfl, hb2⟩
        have HB2 := hide (below_next (below_one wr (.cells #[.int .i64 q.2.rows, .int .i64 q.2.cols, .slice ya yn yk, .int .i64 l.b.rows, .int .i64 l.b.cols, .slice ta tn tk] 65)) hb2)
        clear hb2 HC
        go_wp2
        go_roundw
        case rel => exact ⟨4, 4, by decide, rfl, rfl, (fun _ => HF.out.1), (fun _ => HF.out.2.1), (fun _ => HF.out.2.2.1), (fun _ => HF.out.2.2.2), (HB2.out.block _ HBL.out).trans HBX.out, below_next HB0.out HB2.out⟩
        case measure => simp [intOf]
      · have HEE := hide (show fault q.2 = E from (stp1_f4 HL0.out (f1 (by decide)) (f2 (by decide)) (f3 (by decide)) gk).symm.trans HE.out)
        have HEZ := hide (show E ≠ 0 by rw [← HEE.out]; exact gk)
        have HC := hide (HK4.out (wr.alloc (.cells #[.int .i64 q.2.rows, .int .i64 q.2.cols, .slice ya yn yk, .int .i64 l.b.rows, .int .i64 l.b.cols, .slice ta tn tk] 65)) (bel_alloc HBW.out))
        rw [HEE.out, err_ne HEZ.out] at HC
        clear f1 f2 f3 f4 gk
        go_wp2_with fail
        refine HC.out.mono ?_
        rintro e w2 ⟨rfl, hb2⟩
        have HB2 := hide (below_next (below_one wr (.cells #[.int .i64 q.2.rows, .int .i64 q.2.cols, .slice ya yn yk, .int .i64 l.b.rows, .int .i64 l.b.cols, .slice ta tn tk] 65)) hb2)
        clear hb2 HC
        go_wp2
        go_ret
        exact ⟨ret_err (by rw [err_ne HEZ.out]; rfl), below_next HWV.out (below_next HBW.out HB2.out)⟩
    · obtain rfl : c = 4 := hc
      have HE2 := hide ((stp1_f5 HL0.out (f1 (by decide)) (f2 (by decide)) (f3 (by decide)) (f4 (by decide))).symm.trans HE.out)
      clear f1 f2 f3 f4 HK1 HK2 HK3 HK4 i0 i1 i2 i3
      go_wp2_with (refine wpList_load_row rfl 66 _ rfl w1.heap.size rfl 66 #[.int .i64 p.1.rows, .int .i64 p.1.cols, .slice pa pn pk, .int .i64 l.w.rows, .int .i64 l.w.cols, .slice sa sn sk, .int .i64 p.2.rows, .int .i64 p.2.cols, .slice qa qn qk, .int .i64 l.b.rows, .int .i64 l.b.cols, .slice ta tn tk, .int .i64 q.1.rows, .int .i64 q.1.cols, .slice xa xn xk, .int .i64 l.w.rows, .int .i64 l.w.cols, .slice sa sn sk, .int .i64 q.2.rows, .int .i64 q.2.cols, .slice ya yn yk, .int .i64 l.b.rows, .int .i64 l.b.cols, .slice ta tn tk] (0, 0) _ HBX.out Try.underlying66 rfl (by kernel_rfl) ?_)
      have i0 : ∀ w, (Instr.index 66 (.agg #[.int .i64 p.1.rows, .int .i64 p.1.cols, .slice pa pn pk, .int .i64 l.w.rows, .int .i64 l.w.cols, .slice sa sn sk, .int .i64 p.2.rows, .int .i64 p.2.cols, .slice qa qn qk, .int .i64 l.b.rows, .int .i64 l.b.cols, .slice ta tn tk, .int .i64 q.1.rows, .int .i64 q.1.cols, .slice xa xn xk, .int .i64 l.w.rows, .int .i64 l.w.cols, .slice sa sn sk, .int .i64 q.2.rows, .int .i64 q.2.cols, .slice ya yn yk, .int .i64 l.b.rows, .int .i64 l.b.cols, .slice ta tn tk]) (.int .i64 0)).run Try.prog w = .ok (.agg #[.int .i64 p.1.rows, .int .i64 p.1.cols, .slice pa pn pk, .int .i64 l.w.rows, .int .i64 l.w.cols, .slice sa sn sk]) w := fun _ => pair_i0 _ _ _ _ _ _ _ _ _ _ _ _ _ _ _ _ _ _ _ _ _ _ _ _  _
      have i1 : ∀ w, (Instr.index 66 (.agg #[.int .i64 p.1.rows, .int .i64 p.1.cols, .slice pa pn pk, .int .i64 l.w.rows, .int .i64 l.w.cols, .slice sa sn sk, .int .i64 p.2.rows, .int .i64 p.2.cols, .slice qa qn qk, .int .i64 l.b.rows, .int .i64 l.b.cols, .slice ta tn tk, .int .i64 q.1.rows, .int .i64 q.1.cols, .slice xa xn xk, .int .i64 l.w.rows, .int .i64 l.w.cols, .slice sa sn sk, .int .i64 q.2.rows, .int .i64 q.2.cols, .slice ya yn yk, .int .i64 l.b.rows, .int .i64 l.b.cols, .slice ta tn tk]) (.int .i64 1)).run Try.prog w = .ok (.agg #[.int .i64 p.2.rows, .int .i64 p.2.cols, .slice qa qn qk, .int .i64 l.b.rows, .int .i64 l.b.cols, .slice ta tn tk]) w := fun _ => pair_i1 _ _ _ _ _ _ _ _ _ _ _ _ _ _ _ _ _ _ _ _ _ _ _ _  _
      have i2 : ∀ w, (Instr.index 66 (.agg #[.int .i64 p.1.rows, .int .i64 p.1.cols, .slice pa pn pk, .int .i64 l.w.rows, .int .i64 l.w.cols, .slice sa sn sk, .int .i64 p.2.rows, .int .i64 p.2.cols, .slice qa qn qk, .int .i64 l.b.rows, .int .i64 l.b.cols, .slice ta tn tk, .int .i64 q.1.rows, .int .i64 q.1.cols, .slice xa xn xk, .int .i64 l.w.rows, .int .i64 l.w.cols, .slice sa sn sk, .int .i64 q.2.rows, .int .i64 q.2.cols, .slice ya yn yk, .int .i64 l.b.rows, .int .i64 l.b.cols, .slice ta tn tk]) (.int .i64 2)).run Try.prog w = .ok (.agg #[.int .i64 q.1.rows, .int .i64 q.1.cols, .slice xa xn xk, .int .i64 l.w.rows, .int .i64 l.w.cols, .slice sa sn sk]) w := fun _ => pair_i2 _ _ _ _ _ _ _ _ _ _ _ _ _ _ _ _ _ _ _ _ _ _ _ _  _
      have i3 : ∀ w, (Instr.index 66 (.agg #[.int .i64 p.1.rows, .int .i64 p.1.cols, .slice pa pn pk, .int .i64 l.w.rows, .int .i64 l.w.cols, .slice sa sn sk, .int .i64 p.2.rows, .int .i64 p.2.cols, .slice qa qn qk, .int .i64 l.b.rows, .int .i64 l.b.cols, .slice ta tn tk, .int .i64 q.1.rows, .int .i64 q.1.cols, .slice xa xn xk, .int .i64 l.w.rows, .int .i64 l.w.cols, .slice sa sn sk, .int .i64 q.2.rows, .int .i64 q.2.cols, .slice ya yn yk, .int .i64 l.b.rows, .int .i64 l.b.cols, .slice ta tn tk]) (.int .i64 3)).run Try.prog w = .ok (.agg #[.int .i64 q.2.rows, .int .i64 q.2.cols, .slice ya yn yk, .int .i64 l.b.rows, .int .i64 l.b.cols, .slice ta tn tk]) w := fun _ => pair_i3 _ _ _ _ _ _ _ _ _ _ _ _ _ _ _ _ _ _ _ _ _ _ _ _  _
      obtain ⟨B, hB⟩ : ∃ x, x = Value.agg #[.int .i64 p.1.rows, .int .i64 p.1.cols, .slice pa pn pk, .int .i64 l.w.rows, .int .i64 l.w.cols, .slice sa sn sk, .int .i64 p.2.rows, .int .i64 p.2.cols, .slice qa qn qk, .int .i64 l.b.rows, .int .i64 l.b.cols, .slice ta tn tk, .int .i64 q.1.rows, .int .i64 q.1.cols, .slice xa xn xk, .int .i64 l.w.rows, .int .i64 l.w.cols, .slice sa sn sk, .int .i64 q.2.rows, .int .i64 q.2.cols, .slice ya yn yk, .int .i64 l.b.rows, .int .i64 l.b.cols, .slice ta tn tk] := ⟨_, rfl⟩
      rw [← hB] at i0 i1 i2 i3 ⊢
      clear hB
      go_loopw [52] (fun a wq => ∃ (i : Nat) (c : Int), i ≤ 4 ∧ c = (i : Int) ∧ a = .int .i64 c ∧ (0 < i → sameSh p.1 l.w = true) ∧ (1 < i → sameSh p.2 l.b = true) ∧ (2 < i → sameSh q.1 l.w = true) ∧ (3 < i → sameSh q.2 l.b = true) ∧ Below wr.heap.size wr wq) (fun a _ => 4 - (intOf a).toNat)
      case atStart => exact ⟨0, 0, Nat.zero_le _, rfl, rfl, (fun h => by omega), (fun h => by omega), (fun h => by omega), (fun h => by omega), Below.refl _ _⟩
      case round =>
        obtain ⟨i, c, hi, hc, rfl, f1, f2, f3, f4, hbq⟩ := hrel
        have HBQ := hide (below_next HWV.out (below_next HBW.out hbq))
        have HQ0 := hide hbq
        clear hbq
        have hcase : i = 0 ∨ i = 1 ∨ i = 2 ∨ i = 3 ∨ i = 4 := by omega
        clear hi
        rcases hcase with rfl | rfl | rfl | rfl | rfl
        · obtain rfl : c = 0 := hc
          by_cases gr : p.1.rows = l.w.rows
          · by_cases gc : p.1.cols = l.w.cols
            · have HF := hide (show sameSh p.1 l.w = true from sameSh_t gr gc)
              have x1 := eqF gr
              have x2 := eqF gc
              clear f1 f2 f3 f4 gr gc
              go_wp2
              go_roundw
              case rel => exact ⟨1, 1, by decide, rfl, rfl, (fun _ => HF.out), (fun h => by omega), (fun h => by omega), (fun h => by omega), below_next HQ0.out (below_one _ _)⟩
              case measure => simp [intOf]
            · have hsh := sameSh_c gc
              have HE3 := hide (show (2 : Int) = E by have h := HE2.out; rw [if_pos (.inl hsh)] at h; exact h)
              have x1 := eqF gr
              have x2 := eqT gc
              clear f1 f2 f3 f4 hsh gr gc
              go_wp2
              go_ret
              exact ⟨ret_err (by rw [← HE3.out]; rfl), below_next HBQ.out (below_one _ _)⟩
          · have hsh := sameSh_r gr
            have HE3 := hide (show (2 : Int) = E by have h := HE2.out; rw [if_pos (.inl hsh)] at h; exact h)
            have x1 := eqT gr
            clear f1 f2 f3 f4 hsh gr
            go_wp2
            go_ret
            exact ⟨ret_err (by rw [← HE3.out]; rfl), below_next HBQ.out (below_one _ _)⟩
        · obtain rfl : c = 1 := hc
          by_cases gr : p.2.rows = l.b.rows
          · by_cases gc : p.2.cols = l.b.cols
            · have HF := hide (show sameSh p.1 l.w = true ∧ sameSh p.2 l.b = true from ⟨f1 (by decide), sameSh_t gr gc⟩)
              have x1 := eqF gr
              have x2 := eqF gc
              clear f1 f2 f3 f4 gr gc
              go_wp2
              go_roundw
              case rel => exact ⟨2, 2, by decide, rfl, rfl, (fun _ => HF.out.1), (fun _ => HF.out.2), (fun h => by omega), (fun h => by omega), below_next HQ0.out (below_one _ _)⟩
              case measure => simp [intOf]
            · have hsh := sameSh_c gc
              have HE3 := hide (show (2 : Int) = E by have h := HE2.out; rw [if_pos (.inr (.inl hsh))] at h; exact h)
              have x1 := eqF gr
              have x2 := eqT gc
              clear f1 f2 f3 f4 hsh gr gc
              go_wp2
              go_ret
              exact ⟨ret_err (by rw [← HE3.out]; rfl), below_next HBQ.out (below_one _ _)⟩
          · have hsh := sameSh_r gr
            have HE3 := hide (show (2 : Int) = E by have h := HE2.out; rw [if_pos (.inr (.inl hsh))] at h; exact h)
            have x1 := eqT gr
            clear f1 f2 f3 f4 hsh gr
            go_wp2
            go_ret
            exact ⟨ret_err (by rw [← HE3.out]; rfl), below_next HBQ.out (below_one _ _)⟩
        · obtain rfl : c = 2 := hc
          by_cases gr : q.1.rows = l.w.rows
          · by_cases gc : q.1.cols = l.w.cols
            · have HF := hide (show sameSh p.1 l.w = true ∧ sameSh p.2 l.b = true ∧ sameSh q.1 l.w = true from ⟨f1 (by decide), ⟨f2 (by decide), sameSh_t gr gc⟩⟩)
              have x1 := eqF gr
              have x2 := eqF gc
              clear f1 f2 f3 f4 gr gc
              go_wp2
              go_roundw
              case rel => exact ⟨3, 3, by decide, rfl, rfl, (fun _ => HF.out.1), (fun _ => HF.out.2.1), (fun _ => HF.out.2.2), (fun h => by omega), below_next HQ0.out (below_one _ _)⟩
              case measure => simp [intOf]
            · have hsh := sameSh_c gc
              have HE3 := hide (show (2 : Int) = E by have h := HE2.out; rw [if_pos (.inr (.inr (.inl hsh)))] at h; exact h)
              have x1 := eqF gr
              have x2 := eqT gc
              clear f1 f2 f3 f4 hsh gr gc
              go_wp2
              go_ret
              exact ⟨ret_err (by rw [← HE3.out]; rfl), below_next HBQ.out (below_one _ _)⟩
          · have hsh := sameSh_r gr
            have HE3 := hide (show (2 : Int) = E by have h := HE2.out; rw [if_pos (.inr (.inr (.inl hsh)))] at h; exact h)
            have x1 := eqT gr
            clear f1 f2 f3 f4 hsh gr
            go_wp2
            go_ret
            exact ⟨ret_err (by rw [← HE3.out]; rfl), below_next HBQ.out (below_one _ _)⟩
        · obtain rfl : c = 3 := hc
          by_cases gr : q.2.rows = l.b.rows
          · by_cases gc : q.2.cols = l.b.cols
            · have HF := hide (show sameSh p.1 l.w = true ∧ sameSh p.2 l.b = true ∧ sameSh q.1 l.w = true ∧ sameSh q.2 l.b = true from ⟨f1 (by decide), ⟨f2 (by decide), ⟨f3 (by decide), sameSh_t gr gc⟩⟩⟩)
              have x1 := eqF gr
              have x2 := eqF gc
              clear f1 f2 f3 f4 gr gc
              go_wp2
              go_roundw
              case rel => exact ⟨4, 4, by decide, rfl, rfl, (fun _ => HF.out.1), (fun _ => HF.out.2.1), (fun _ => HF.out.2.2.1), (fun _ => HF.out.2.2.2), below_next HQ0.out (below_one _ _)⟩
              case measure => simp [intOf]
            · have hsh := sameSh_c gc
              have HE3 := hide (show (2 : Int) = E by have h := HE2.out; rw [if_pos (.inr (.inr (.inr (hsh))))] at h; exact h)
              have x1 := eqF gr
              have x2 := eqT gc
              clear f1 f2 f3 f4 hsh gr gc
              go_wp2
              go_ret
              exact ⟨ret_err (by rw [← HE3.out]; rfl), below_next HBQ.out (below_one _ _)⟩
          · have hsh := sameSh_r gr
            have HE3 := hide (show (2 : Int) = E by have h := HE2.out; rw [if_pos (.inr (.inr (.inr (hsh))))] at h; exact h)
            have x1 := eqT gr
            clear f1 f2 f3 f4 hsh gr
            go_wp2
            go_ret
            exact ⟨ret_err (by rw [← HE3.out]; rfl), below_next HBQ.out (below_one _ _)⟩
        · obtain rfl : c = 4 := hc
          have HE3 := hide (show (0 : Int) = E by have h := HE2.out; rw [if_neg (by rw [f1 (by decide), f2 (by decide), f3 (by decide), f4 (by decide)]; simp)] at h; exact h)
          clear f1 f2 f3 f4
          go_wp2
          go_ret
          exact ⟨ret_err (by rw [← HE3.out]; rfl), HBQ.out⟩
theorem chklayer_any (l : Ly) (p q : Mx × Mx) (sa : Option Addr) (sn sk : Nat) (ta : Option Addr) (tn tk : Nat) (pa : Option Addr) (pn pk : Nat) (qa : Option Addr) (qn qk : Nat) (xa : Option Addr) (xn xk : Nat) (ya : Option Addr) (yn yk : Nat) (w : World) (hs : IsInts w (.slice sa sn sk) l.w.cells) (ht : IsInts w (.slice ta tn tk) l.b.cells) (h1 : IsInts w (.slice pa pn pk) p.1.cells) (h2 : IsInts w (.slice qa qn qk) p.2.cells) (h3 : IsInts w (.slice xa xn xk) q.1.cells) (h4 : IsInts w (.slice ya yn yk) q.2.cells) :
    Calls Try.prog 17 #[.agg #[.int .i64 l.k, .int .i64 l.w.rows, .int .i64 l.w.cols, .slice sa sn sk, .int .i64 l.b.rows, .int .i64 l.b.cols, .slice ta tn tk], .agg #[.int .i64 p.1.rows, .int .i64 p.1.cols, .slice pa pn pk, .int .i64 p.2.rows, .int .i64 p.2.cols, .slice qa qn qk], .agg #[.int .i64 q.1.rows, .int .i64 q.1.cols, .slice xa xn xk, .int .i64 q.2.rows, .int .i64 q.2.cols, .slice ya yn yk]] w fun e w' => e = .returned (errV (stp1E l p q)) ∧ Below w.heap.size w w' := by
  by_cases g0 : lfault l = 0
  · exact chk_good l p q sa sn sk ta tn tk pa pn pk qa qn qk xa xn xk ya yn yk w hs ht h1 h2 h3 h4 g0
  · rw [stp1_f0 g0]
    exact chk_f0 l p q sa sn sk ta tn tk pa pn pk qa qn qk xa xn xk ya yn yk w hs ht g0
end Go.Proofs.Ytjmmplpecmnlnae
