/- What rowsOf of package mat comes to: the rows of all, as pieces of their cells. Condition: matrices that Check takes, of as many columns each, with not more than 24 rows in all. -/
import Derived.Test.YtokohpabmmcioaeDoorMStack
namespace Go.Proofs.YtokohpabmmcioaeDoor
open Go.RowKit
theorem infoInts : (Tryd.prog.info? 22).map (fun i => (i.zero, i.size, i.bytes)) = some (some (.slice none 0 0), 1, 24) := by kernel_rfl
/-- The rows of all. -/
def rowsAll (C : Nat) (ms : List Mx) : List (List Int) := ms.flatMap (fun m => rowsL m.cells C m.rows.toNat)
theorem rowsAll_snoc (C : Nat) (l : List Mx) (m : Mx) : rowsAll C (l ++ [m]) = rowsAll C l ++ rowsL m.cells C m.rows.toNat := by simp [rowsAll]
/-- The list of rows that is being made: its elements read as these rows in world w. -/
def RowsOwn (w : World) (base : Nat) (wr : World) (v : Value) (zss : List (List Int)) : Prop :=
  ∃ xs, wr.ownsRow base 22 1 v zss.length xs ∧ ∀ (i : Nat) zs, zss[i]? = some zs → ∃ s, xs[i]? = some s ∧ IsInts w s zs
theorem RowsOwn.nil (w : World) (base : Nat) (wr : World) : RowsOwn w base wr (.slice none 0 0) [] := ⟨[], World.ownsRow_nil _ _ _ _, fun (i : Nat) zs h => by simp at h⟩
theorem RowsOwn.below {w : World} {base : Nat} {wr wr' : World} {v : Value} {zss : List (List Int)} (h : RowsOwn w base wr v zss) (hb : Below wr.heap.size wr wr') : RowsOwn w base wr' v zss := by
  obtain ⟨xs, h1, h2⟩ := h
  refine ⟨xs, World.ownsRow.kept (row := none) h1 ⟨hb.os, hb.tape, hb.output, hb.size, fun k hk _ => hb.block k hk⟩ ?_, h2⟩
  cases e : v.ownBlock with
  | none => exact .inl rfl
  | some k => exact .inr (by simp)
theorem RowsOwn.snoc {w : World} {base : Nat} {wr : World} {v : Value} {zss : List (List Int)} {xs : List Value} {s : Value} {zs : List Int} (h1 : wr.ownsRow base 22 1 v (zss.length + 1) (xs ++ [s])) (h2 : ∀ (i : Nat) zs, zss[i]? = some zs → ∃ s, xs[i]? = some s ∧ IsInts w s zs) (hl : xs.length = zss.length) (hs : IsInts w s zs) : RowsOwn w base wr v (zss ++ [zs]) := by
  refine ⟨xs ++ [s], by rw [List.length_append]; exact h1, fun i ys hy => ?_⟩
  rcases Nat.lt_or_ge i zss.length with hi | hi
  · rw [List.getElem?_append_left hi] at hy
    obtain ⟨t, ht, hti⟩ := h2 i ys hy
    exact ⟨t, by rw [List.getElem?_append_left (by omega)]; exact ht, hti⟩
  · rw [List.getElem?_append_right hi] at hy
    have h0 : i - zss.length = 0 := by
      rcases Nat.eq_zero_or_pos (i - zss.length) with h | h
      · exact h
      · rw [List.getElem?_eq_none (by simp; omega)] at hy; cases hy
    rw [h0] at hy
    have : ys = zs := by simpa using hy.symm
    subst this
    exact ⟨s, by rw [List.getElem?_append_right (by omega), show i - xs.length = 0 by omega]; rfl, hs⟩
theorem elemInts : Tryd.prog.underlying 22 = some (.slice (Tryd.prog.elem 22)) := by kernel_rfl
theorem sizeInt (w : World) : (Go.sizeOf (Tryd.prog.elem 22)).run Tryd.prog w = .ok 1 w := by kernel_rfl
theorem piece {w : World} {a : Option Addr} {n cap : Nat} {zs : List Int} (h : IsInts w (.slice a n cap) zs) (i C : Nat) (lo hi : Int) (hlo : lo = ((i * C : Nat) : Int)) (hhi : hi = ((i * C + C : Nat) : Int)) (hle : i * C + C ≤ zs.length) :
    ∃ a' n' c', (∀ W, (Instr.slice 22 (.slice a n cap) (some (.int .i64 lo)) (some (.int .i64 hi)) none).run Tryd.prog W = .ok (.slice a' n' c') W) ∧ IsInts w (.slice a' n' c') ((zs.drop (i * C)).take C) := by
  obtain ⟨a0, cap0, e, h2, h3, h4⟩ := h
  injection e with e1 e2 e3
  subst e1 e2 e3
  have hll : ((zs.drop (i * C)).take C).length = C := by simp; omega
  have en : hi.toNat - lo.toNat = C := by omega
  refine ⟨(if cap = lo.toNat then a else a.map (·.add (lo.toNat * 1))), hi.toNat - lo.toNat, cap - lo.toNat, fun W => ?_, ?_⟩
  · rw [run_slice_lh (P := Tryd.prog) (w := W) 22 a zs.length cap elemInts .i64 .i64 lo hi (by omega) (by omega) (by omega), sizeInt]
    rfl
  · refine ⟨_, _, by rw [hll, en], by rw [hll]; omega, by omega, ?_⟩
    rcases Nat.eq_zero_or_pos C with hC | hC
    · exact .inl (by apply List.eq_nil_of_length_eq_zero; omega)
    · obtain ⟨b, off, rfl, hc⟩ := h4.resolve_left (fun e => by rw [e] at hle; simp at hle; omega)
      refine .inr ⟨b, off + i * C, ?_, fun j x hx => ?_⟩
      · rw [if_neg (by omega)]
        show some (Addr.add _ _) = _
        rw [Addr.add_lit, show lo.toNat * 1 = i * C by omega]
      · have hj : j < C := by
          rcases Nat.lt_or_ge j C with h | h
          · exact h
          · rw [List.getElem?_eq_none (by omega)] at hx; cases hx
        rw [List.getElem?_take_of_lt hj, List.getElem?_drop] at hx
        rw [Nat.add_assoc]
        exact hc _ _ hx
theorem sumR_ge {ms : List Mx} (h : ∀ x ∈ ms, ∃ R C, Good x R C) (k : Nat) : sumR (ms.take k) ≤ sumR ms := by
  induction ms generalizing k with
  | nil => simp
  | cons y l ih =>
    obtain ⟨R, C, g⟩ := h y (by simp)
    have hr := g.r
    cases k with
    | zero =>
      have hb := sumR_bd (ms := y :: l) (fun x hx => by obtain ⟨R, C, g⟩ := h x hx; have := g.r; have := g.hR; omega)
      simp only [List.take_zero, sumR] at hb ⊢
      omega
    | succ k =>
      have := ih (fun x hx => h x (by simp [hx])) k
      simp only [List.take_succ_cons, sumR]
      omega
theorem rowsAll_len {C : Nat} {ms : List Mx} (h : ∀ x ∈ ms, ∃ R, Good x R C) : ((rowsAll C ms).length : Int) = sumR ms := by
  induction ms with
  | nil => rfl
  | cons y l ih =>
    obtain ⟨R, g⟩ := h y (by simp)
    have hr := g.r
    have := ih (fun x hx => h x (by simp [hx]))
    unfold rowsAll at this ⊢
    rw [List.flatMap_cons, List.length_append, rowsL_len]
    simp only [sumR]
    omega
theorem lt_of_block {w : World} {g : Nat} {o : Obj} (h : w.heap[g]? = some o) : g < w.heap.size := by
  rcases Nat.lt_or_ge g w.heap.size with h' | h'
  · exact h'
  · rw [Array.getElem?_eq_none h'] at h; cases h
theorem own_ne {w : World} {base : Nat} {e t : TypeId} {v : Value} {n : Nat} {xs : List Value} (h : w.ownsRow base e 1 v n xs) {B : Nat} {cs : Array Value} (hB : w.heap[B]? = some (.cells cs t)) (hne : e ≠ t) : some B ≠ v.ownBlock := by
  rcases h.2 with ⟨rfl, _⟩ | ⟨g, cap, cur, rfl, _, hg, _⟩
  · intro e; cases e
  · intro e'
    have : B = g := Option.some.inj e'
    subst this
    rw [hB] at hg
    injection hg with hg
    injection hg with _ h2 _
    exact hne h2.symm
set_option maxHeartbeats 1600000 in
set_option maxRecDepth 100000 in
theorem rowsof_any (v : Value) (ms : List Mx) (C : Nat) (w : World) (hv : IsMxs w v ms) (hg : ∀ x ∈ ms, ∃ R, Good x R C) (hmax : ms.length ≤ 2000000) (hsum : sumR ms ≤ 24) : Calls Tryd.prog 37 #[v] w fun e w' => ∃ v', e = .returned v' ∧ RowsOwn w w.heap.size w' v' (rowsAll C ms) ∧ Below w.heap.size w w' := by
  obtain ⟨a, cap, rfl, h2, h3, h4⟩ := hv
  obtain ⟨n, hn⟩ : ∃ n, ms.length = n := ⟨_, rfl⟩
  have HN := hide hn
  have H4 := hide h4
  have HG := hide hg
  have HSM := hide hsum
  rw [hn] at h2 hmax ⊢
  clear hn h4 hg hsum
  go_enter Tryd.func37, Tryd.ntmps37
  go_wp2
  go_loopw [3, 9] (fun s i wr => ∃ k : Nat, k ≤ n ∧ i = .int .i64 k ∧ RowsOwn w w.heap.size wr s (rowsAll C (ms.take k)) ∧ Below w.heap.size w wr) (fun _ i _ => n - (intOf i).toNat)
  case atStart => exact ⟨0, Nat.zero_le _, rfl, RowsOwn.nil _ _ _, Below.refl _ _⟩
  case round =>
    obtain ⟨k, hk, rfl, hro, hbw⟩ := hrel
    have HB := hide hbw
    have HRO := hide hro
    clear hbw hro
    by_cases hlt : k < n
    · obtain ⟨x, hx⟩ : ∃ x, ms[k]? = some x := ⟨ms[k]'(by have := HN.out; omega), List.getElem?_eq_getElem _⟩
      obtain ⟨b, off, rfl, hcl⟩ := H4.out.resolve_left (fun e => by rw [e] at hx; simp at hx)
      obtain ⟨sa, sn, sc, d0, d1, d2, hsi⟩ := mx_at hcl hx HB.out
      obtain ⟨R, gx⟩ := HG.out x (List.mem_of_getElem? hx)
      obtain ⟨r, er⟩ : ∃ r, x.rows = r := ⟨_, rfl⟩
      obtain ⟨c, ec⟩ : ∃ c, x.cols = c := ⟨_, rfl⟩
      have hr : r = (R : Int) := by rw [← er]; exact gx.r
      have hc : c = (C : Int) := by rw [← ec]; exact gx.c
      rw [er] at d0
      rw [ec] at d1
      have r0 : 0 ≤ r := by omega
      have r1 : r ≤ 24 := by have := gx.hR; omega
      have c0 : 0 ≤ c := by omega
      have c1 : c ≤ 12 := by have := gx.hC; omega
      have HX := hide (And.intro hx (And.intro hsi (And.intro gx (And.intro hr hc))))
      have hlt' : (k : Int) < (n : Int) := by omega
      obtain ⟨o, ho⟩ : ∃ o, o = Obj.cells #[.int .i64 r, .int .i64 c, .slice sa sn sc] 24 := ⟨_, rfl⟩
      obtain ⟨W1, hW1⟩ : ∃ W1, W1 = wr.alloc o := ⟨_, rfl⟩
      have HW1 := hide (show Below w.heap.size w W1 by rw [hW1]; exact below_next HB.out (below_one _ _))
      have HS1 := hide (show W1.heap.size = wr.heap.size + 1 by rw [hW1]; simp)
      have hcr : ((rowsAll C (ms.take k)).length : Int) + R ≤ 24 := by
        have h1 := rowsAll_len (C := C) (ms := ms.take (k + 1)) (fun y hy => HG.out y (List.mem_of_mem_take hy))
        have h2 := sumR_ge (ms := ms) (fun y hy => by obtain ⟨R, g⟩ := HG.out y hy; exact ⟨R, C, g⟩) (k + 1)
        have h3 := HSM.out
        rw [take_snoc hx, rowsAll_snoc, List.length_append, rowsL_len] at h1
        rw [take_snoc hx] at h2
        have : x.rows.toNat = R := by omega
        omega
      have HCR := hide hcr
      clear hcl hx hsi gx hr hc er ec hcr
      go_wp2
      rw [← ho, ← hW1]
      have HE := hide (show W1.heap[wr.heap.size]? = some (.cells #[.int .i64 r, .int .i64 c, .slice sa sn sc] 24) by rw [hW1, ho]; exact heap_alloc_new _ _)
      obtain ⟨B1, hB1⟩ : ∃ B1, wr.heap.size = B1 := ⟨_, rfl⟩
      have HRO1 := hide (show RowsOwn w w.heap.size W1 u3 (rowsAll C (ms.take k)) by rw [hW1]; exact HRO.out.below (below_one _ _))
      have HBB := hide HB.out.size
      rw [hB1] at HE HBB ⊢
      clear hW1 ho d0 d1 d2 hB1
      go_loopw [3, 15] (fun s a w2 => ∃ (i : Nat) (xi : Int), i ≤ R ∧ xi = (i : Int) ∧ a = .int .i64 xi ∧ RowsOwn w w.heap.size w2 s (rowsAll C (ms.take k) ++ rowsL x.cells C i) ∧ Below w.heap.size w w2 ∧ w2.heap[B1]? = some (.cells #[.int .i64 r, .int .i64 c, .slice sa sn sc] 24)) (fun _ a _ => R - (intOf a).toNat)
      case atStart => exact ⟨0, 0, Nat.zero_le _, rfl, rfl, by simpa [rowsL] using HRO1.out, HW1.out, HE.out⟩
      case round =>
        obtain ⟨i, xi, hi, hxi, rfl, hro2, hb2, hbx⟩ := hrel
        have f1 : wr.cell? ⟨B1, 1, none⟩ = some (.int .i64 c) := by rw [Joins.cell_of_block hbx]; rfl
        have f2 : wr.cell? ⟨B1, 2, none⟩ = some (.slice sa sn sc) := by rw [Joins.cell_of_block hbx]; rfl
        have HRO2 := hide hro2
        have HB2 := hide hb2
        have HXI := hide hxi
        have HBX := hide hbx
        have hxi0 : 0 ≤ xi := by omega
        have hxi1 : xi ≤ 24 := by have := HX.out.2.2.1.hR; omega
        clear hro2 hb2 hxi hbx
        by_cases hir : xi < r
        · have hiR : i < R := by have := HXI.out; have := HX.out.2.2.2.1; omega
          have hmul := Nat.mul_le_mul_right C (show i + 1 ≤ R by omega)
          rw [Nat.succ_mul] at hmul
          have hR24 := HX.out.2.2.1.hR
          have t1 := mul_bds HXI.out HX.out.2.2.2.2 (by omega) (by have := HX.out.2.2.1.hC; omega)
          have t2 : (xi + 1) * c = xi * c + c := by rw [Int.add_mul, Int.one_mul]
          have elo : xi * c = ((i * C : Nat) : Int) := by rw [HXI.out, HX.out.2.2.2.2]; simp
          have ehi : (xi + 1) * c = ((i * C + C : Nat) : Int) := by rw [t2, elo, HX.out.2.2.2.2]; simp
          obtain ⟨pa, pn, pc, hsl, hpi⟩ := piece HX.out.2.1 i C (xi * c) ((xi + 1) * c) elo ehi (by rw [HX.out.2.2.1.l]; exact hmul)
          have u1 := wrap_in (x := xi * c) (by omega) (by omega)
          have u2 := wrap_in (x := (xi + 1) * c) (by omega) (by omega)
          have t3 : 0 ≤ (xi + 1) * c := by omega
          have t4 : (xi + 1) * c ≤ 600 := by omega
          have t5 : 0 ≤ xi * c := by omega
          have t6 : xi * c ≤ 576 := by omega
          have HP := hide hpi
          have hlen : (rowsAll C (ms.take k) ++ rowsL x.cells C i).length + 1 ≤ 25 := by rw [List.length_append, rowsL_len]; have := HCR.out; omega
          obtain ⟨zss, hzss⟩ : ∃ zss, rowsAll C (ms.take k) ++ rowsL x.cells C i = zss := ⟨_, rfl⟩
          rw [hzss] at HRO2 hlen
          have HZ := hide hzss
          obtain ⟨xs, hown, hxs⟩ := HRO2.out
          have HXS := hide hxs
          have HOW := hide hown
          obtain ⟨e0, ei, hz0, hz1, hz2⟩ := info_parts infoInts
          have HEI := hide (And.intro ei (And.intro hz0 (And.intro hz1 hz2)))
          clear ei hz0 hz1 hz2 hmul t1 t2 elo ehi hpi hown hxs hzss
          go_wp2_with (at_builtin; refine wpList_append_own _ rfl _ _ 81 rfl w.heap.size 22 e0 (.slice none 0 0) 1 24 Tryd.underlying81 HEI.out.1 HEI.out.2.1 HEI.out.2.2.1 HEI.out.2.2.2 rfl (by decide) _ _ _ rfl (World.ownsRow.alloc HOW.out _) ⟨wr.heap.size, 0, none⟩ 1 1 [.slice pa pn pc] rfl rfl ?c1 ?c2 ?c3 ?c4 ?c5 ?_)
          case c1 =>
            intro q u hq
            match q, hq with
            | 0, hq => simp at hq; subst hq; simp [Addr.add]
          case c2 => intro u hu; simp at hu; subst hu; rfl
          case c3 => unfold maxLen; omega
          case c4 => omega
          case c5 => have := HB2.out.size; simp; omega
          intro v' w' hown' hgrow _
          have hlx : xs.length = zss.length := by have := HOW.out.1; omega
          have hown2 : RowsOwn w w.heap.size w' v' (rowsAll C (ms.take k) ++ rowsL x.cells C (i + 1)) := by
            rw [rowsL_succ, ← List.append_assoc, HZ.out]
            exact RowsOwn.snoc hown' HXS.out hlx HP.out
          have hbel2 : Below w.heap.size w w' := (HB2.out.alloc HB2.out.size _).grown hgrow (by have := HB2.out.size; simp; omega) (fun q hq => (World.ownsRow.lt HOW.out q hq).1)
          have hbx2 : w'.heap[B1]? = some (.cells #[.int .i64 r, .int .i64 c, .slice sa sn sc] 24) := by
            have hlt := lt_of_block HBX.out
            rw [hgrow.block B1 (by simp; omega) (own_ne HOW.out HBX.out (by decide)), Below.heap_alloc _ _ B1 hlt]
            exact HBX.out
          have HO2 := hide hown2
          have HB3 := hide hbel2
          have HBX2 := hide hbx2
          clear hown' hgrow hown2 hbel2 hbx2 hlx
          go_wp2
          go_roundw
          case rel => exact ⟨i + 1, _, by omega, by have := HXI.out; omega, rfl, HO2.out, HB3.out, HBX2.out⟩
          case measure => have := HXI.out; simp [intOf]; omega
        · go_wp2
          go_roundw
          case rel => exact ⟨k + 1, by omega, by go_num, by
            have h := HRO2.out
            rw [take_snoc HX.out.1, rowsAll_snoc, show x.rows.toNat = i by have := HXI.out; have := HX.out.2.2.2.1; have := HX.out.2.2.1.r; omega]
            exact h, HB2.out⟩
          case measure => simp [intOf]; omega
    · go_wp2
      go_ret
      exact ⟨_, rfl, by have h := HRO.out; rw [List.take_of_length_le (by have := HN.out; omega)] at h; exact h, HB.out⟩
end Go.Proofs.YtokohpabmmcioaeDoor
