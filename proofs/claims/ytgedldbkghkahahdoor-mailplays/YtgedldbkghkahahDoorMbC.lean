/- What the queue of package mail does: put and take, in one goroutine. -/
import Derived.Test.YtgedldbkghkahahDoorMbQ
import Derived.Test.YtgedldbkghkahahDoorWrM
import Derived.Test.YtgedldbkghkahahDoorMbS
import Derived.Test.YtgedldbkghkahahDoorMbK
import Derived.KernelRfl
namespace Go.Proofs.YtgedldbkghkahahDoor
open Go.RowKit Go.Conc
theorem keep_five (U V : World) (hb : Below U.heap.size U V) (R : Nat) (y0 y1 y2 y3 y4 : Value) : Kept (fun b => b = R) U (((((V.setCell ⟨R, 0, none⟩ y0).setCell ⟨R, 1, none⟩ y1).setCell ⟨R, 2, none⟩ y2).setCell ⟨R, 3, none⟩ y3).setCell ⟨R, 4, none⟩ y4) :=
  (((((Kept.of hb).trans (Kept.set (X := fun b => b = R) (B := R) V rfl 0 y0) (fun _ _ e => e)).trans (Kept.set (X := fun b => b = R) (B := R) _ rfl 1 y1) (fun _ _ e => e)).trans (Kept.set (X := fun b => b = R) (B := R) _ rfl 2 y2) (fun _ _ e => e)).trans (Kept.set (X := fun b => b = R) (B := R) _ rfl 3 y3) (fun _ _ e => e)).trans (Kept.set (X := fun b => b = R) (B := R) _ rfl 4 y4) (fun _ _ e => e)
set_option maxHeartbeats 4000000 in
set_option maxRecDepth 100000 in
theorem qput_room (P Pv : Nat → Prop) (B C n : Nat) (ms : List (Int × Int × Mx)) (m : Int × Int × Mx) (v : Value) (w : World) (h : BoxIs w P B C n false ms) (hv : InQ w Pv v m) (hvl : ∀ b, Pv b → b < w.heap.size) (hvC : ¬ Pv C) (hroom : ms.length < n) :
    Calls Tryd.prog 34 #[.pointer (some ⟨B, 0, none⟩), v] w fun e w' => e = .returned .nilIface ∧ BoxIs w' (fun b => P b ∨ Pv b) B C n false (ms ++ [m]) ∧ Kept (fun b => b = C) w w' := by
  obtain ⟨s0, rfl, hs0, hp0⟩ := hv
  obtain ⟨x1, x2, b⟩ := m
  obtain ⟨r, hr⟩ : ∃ r, b.rows = r := ⟨_, rfl⟩
  obtain ⟨c, hc⟩ : ∃ c, b.cols = c := ⟨_, rfl⟩
  obtain ⟨sa, sc, rfl, hs2⟩ := id hs0
  obtain ⟨sn, hsn⟩ : ∃ x, b.cells.length = x := ⟨_, rfl⟩
  dsimp only at hs0 hp0 hsn ⊢
  rw [hsn] at hs0 hp0 ⊢
  rw [hr, hc]
  have hbl := below_one w (.cells #[.int .i64 x1, .int .i64 x2, .int .i64 r, .int .i64 c, .slice sa sn sc] 26)
  have hbk5 := Blk5.new w (.int .i64 x1) (.int .i64 x2) (.int .i64 r) (.int .i64 c) (.slice sa sn sc)
  obtain ⟨W, hW⟩ : ∃ x, x = w.alloc (.cells #[.int .i64 x1, .int .i64 x2, .int .i64 r, .int .i64 c, .slice sa sn sc] 26) := ⟨_, rfl⟩
  rw [← hW] at hbl hbk5
  have hB := h.keep (Kept.of (X := fun _ => False) hbl) (fun _ _ e => e)
  obtain ⟨buf, s, q, hch, hbs, hq⟩ := hB.ch
  have hcel := Joins.cell_of_block hB.bx
  have g0 : W.cell? ⟨B, 1, none⟩ = some (.int .i32 0) := by rw [hcel]; rfl
  have z0 := Joins.unfrozen_of_block hB.bx 1
  have hkV := Kept.set (X := fun b => b = B) W rfl 1 (.int .i32 1)
  have hVB := Joins.block_setCell hB.bx (i := 1) (.int .i32 1)
  have hVC := (hkV.block C (hB.lt C hB.pC) (fun e => hB.ne e.symm)).trans hch
  have hV5 : Blk5 (W.setCell ⟨B, 1, none⟩ (.int .i32 1)) w.heap.size (.int .i64 x1) (.int .i64 x2) (.int .i64 r) (.int .i64 c) (.slice sa sn sc) := (hkV.block _ hbk5.lt (fun e => by have := h.lt B h.pB; omega)).trans hbk5
  obtain ⟨V, hV⟩ : ∃ x, x = W.setCell ⟨B, 1, none⟩ (.int .i32 1) := ⟨_, rfl⟩
  rw [← hV] at hVB hVC hV5
  have hcv := Joins.cell_of_block hVB
  have k0 : V.cell? ⟨B, 0, none⟩ = some (.chan (some C)) := by rw [hcv]; rfl
  have k1 : V.cell? ⟨B, 1, none⟩ = some (.int .i32 1) := by rw [hcv]; rfl
  have k3 : V.cell? ⟨B, 3, none⟩ = some (.bool false) := by rw [hcv]; rfl
  have z1 := Joins.unfrozen_of_block hVB 1
  obtain ⟨d0, d1, d2, d3, d4⟩ := hV5.c
  have HW := hide hW
  have HV := hide hV
  clear hW hV hcel hcv
  refine calls_of_loneTo fun cs => ?_
  have e : Frame.enter Tryd.prog 34 #[.pointer (some ⟨B, 0, none⟩), .agg #[.int .i64 x1, .int .i64 x2, .int .i64 r, .int .i64 c, .slice sa sn sc]] .normal = (base 34).at ⟨#[.pointer (some ⟨B, 0, none⟩), .agg #[.int .i64 x1, .int .i64 x2, .int .i64 r, .int .i64 c, .slice sa sn sc], undef, undef, undef, undef, undef, undef, undef, undef, undef, undef, undef, undef, undef, undef, undef, undef, undef, undef, undef, undef, undef, undef, undef, undef], []⟩ [.code (Tryd.f34.body.getD .skip)] := by
    simp [Frame.enter, Frame.at, Tryd.func34, base, Tryd.f34]
  rw [e]
  refine LoneTo.goes (n := 60) ?_
  simp only [Tryd.f34, Option.getD_some]
  s_c stepG_seq
  s_reg
  s_op
  s_op
  s_c stepG_region_end
  s_c stepG_seq
  s_reg
  s_op
  s_op
  s_op
  s_stop
  refine lone_call (R := fun v w' => v = .tuple #[] ∧ w' = V) rfl rfl (run_call_body rfl Tryd.func42 (by kernel_rfl) (by kernel_rfl)) ?_ ?_
  · rw [← HW.out]
    walk_nrm
    refine (mlock ⟨B, 1, none⟩ W g0 z0).mono ?_
    rintro e w' ⟨rfl, rfl⟩
    exact ⟨_, rfl, rfl, HV.out.symm⟩
  rintro v w' ⟨rfl, rfl⟩
  walk_nrm
  refine LoneTo.goes (n := 60) ?_
  s_c stepG_region_end
  s_c stepG_seq
  s_reg
  s_op
  s_op
  s_op
  (s_in; rw [stepG_defer rfl rfl (by decide) rfl]; simp only [goes_go]; refine ⟨trivial, ?_⟩; walk_nrm)
  s_c stepG_region_end
  s_c stepG_seq
  s_c stepG_seq
  s_reg
  s_op
  s_op
  s_op
  s_op
  s_c stepG_region_end
  s_cond false
  s_c stepG_skip
  s_c stepG_seq
  s_c stepG_seq
  s_reg
  s_op
  s_op
  s_op
  s_op
  s_c stepG_region_end
  s_reg
  s_op
  s_c stepG_region_end
  s_c stepG_seq
  s_reg
  s_stop
  refine LoneTo.step (step_lone_select_send_room (c := C) (v := .agg #[.int .i64 x1, .int .i64 x2, .int .i64 r, .int .i64 c, .slice sa sn sc]) (z' := .agg #[.int .i64 0, .int .i64 0, .int .i64 0, .int .i64 0, .slice none 0 0]) (cap := n) (buf := buf) (s := s) (r := q) (tm := false) (stepG_comm (cases := #[scase C (.agg #[.int .i64 x1, .int .i64 x2, .int .i64 r, .int .i64 c, .slice sa sn sc]) (.agg #[.int .i64 0, .int .i64 0, .int .i64 0, .int .i64 0, .slice none 0 0])]) (blocking := false) (shape := .select) (w' := w') rfl rfl (by decide) (by simp [go_sem, execOp, scase, Act.eval])) hVC (by omega)) ?_
  rw [Frame.finish_at]
  walk_nrm
  refine LoneTo.goes (n := 20) ?_
  s_op
  s_op
  s_c stepG_region_end
  s_c stepG_block
  s_cond true
  s_c stepG_seq
  s_reg
  s_op
  s_c stepG_region_end
  s_c stepG_ret'
  s_stop
  have hkc := keep_chan (fun b => b = C) w' C n (buf.push (.agg #[.int .i64 x1, .int .i64 x2, .int .i64 r, .int .i64 c, .slice sa sn sc])) false (s + 1) q false rfl
  have hB3 := (hkc.block B (Array.getElem?_eq_some_iff.1 hVB).1 hB.ne).trans hVB
  refine lone_leaves Tryd.func34 rfl rfl rfl (by rintro _ ⟨h, _⟩; cases h) ?_
  refine leaves_cons (f := 43) (args := #[.pointer (some ⟨B, 1, none⟩)]) (by simp) (by simp [go_sem]) ?_
  refine (munlock ⟨B, 1, none⟩ .returning _ (by rw [Joins.cell_of_block hB3]; rfl) (Joins.unfrozen_of_block hB3 1)).mono ?_
  rintro e u' w'' ⟨rfl, rfl, rfl⟩
  refine ⟨_, results_tmp rfl _ _ _, rfl, ?_, ?_⟩
  · rw [HV.out, lock_chan hB.bx hB.ne]
    exact hB.push (m := (x1, x2, b)) (v := .agg #[.int .i64 x1, .int .i64 x2, .int .i64 r, .int .i64 c, .slice sa sn sc]) hch hbs hq ⟨_, by rw [hr, hc], hs0.below hbl, hp0⟩ (fun b hb => Nat.lt_of_lt_of_le (hvl b hb) hbl.size) hvC hroom rfl
  · rw [HV.out, lock_chan hB.bx hB.ne]
    exact (Kept.of hbl).trans (keep_chan (fun b => b = C) W C n _ false _ _ false rfl) (fun _ _ e => e)
set_option maxHeartbeats 4000000 in
set_option maxRecDepth 100000 in
theorem qput_full (P Pv : Nat → Prop) (B C n : Nat) (ms : List (Int × Int × Mx)) (m : Int × Int × Mx) (v : Value) (w : World) (h : BoxIs w P B C n false ms) (hv : InQ w Pv v m) (hfull : n ≤ ms.length) :
    Calls Tryd.prog 34 #[.pointer (some ⟨B, 0, none⟩), v] w fun e w' => e = .returned (.iface 32 (.int .i64 3)) ∧ Below w.heap.size w w' := by
  obtain ⟨s0, rfl, hs0, hp0⟩ := hv
  obtain ⟨x1, x2, b⟩ := m
  obtain ⟨r, hr⟩ : ∃ r, b.rows = r := ⟨_, rfl⟩
  obtain ⟨c, hc⟩ : ∃ c, b.cols = c := ⟨_, rfl⟩
  obtain ⟨sa, sc, rfl, hs2⟩ := id hs0
  obtain ⟨sn, hsn⟩ : ∃ x, b.cells.length = x := ⟨_, rfl⟩
  dsimp only at hs0 hp0 hsn ⊢
  rw [hsn] at hs0 hp0 ⊢
  rw [hr, hc]
  have hbl := below_one w (.cells #[.int .i64 x1, .int .i64 x2, .int .i64 r, .int .i64 c, .slice sa sn sc] 26)
  have hbk5 := Blk5.new w (.int .i64 x1) (.int .i64 x2) (.int .i64 r) (.int .i64 c) (.slice sa sn sc)
  obtain ⟨W, hW⟩ : ∃ x, x = w.alloc (.cells #[.int .i64 x1, .int .i64 x2, .int .i64 r, .int .i64 c, .slice sa sn sc] 26) := ⟨_, rfl⟩
  rw [← hW] at hbl hbk5
  have hB := h.keep (Kept.of (X := fun _ => False) hbl) (fun _ _ e => e)
  obtain ⟨buf, s, q, hch, hbs, hq⟩ := hB.ch
  have hcel := Joins.cell_of_block hB.bx
  have g0 : W.cell? ⟨B, 1, none⟩ = some (.int .i32 0) := by rw [hcel]; rfl
  have z0 := Joins.unfrozen_of_block hB.bx 1
  have hkV := Kept.set (X := fun b => b = B) W rfl 1 (.int .i32 1)
  have hVB := Joins.block_setCell hB.bx (i := 1) (.int .i32 1)
  have hVC := (hkV.block C (hB.lt C hB.pC) (fun e => hB.ne e.symm)).trans hch
  have hV5 : Blk5 (W.setCell ⟨B, 1, none⟩ (.int .i32 1)) w.heap.size (.int .i64 x1) (.int .i64 x2) (.int .i64 r) (.int .i64 c) (.slice sa sn sc) := (hkV.block _ hbk5.lt (fun e => by have := h.lt B h.pB; omega)).trans hbk5
  obtain ⟨V, hV⟩ : ∃ x, x = W.setCell ⟨B, 1, none⟩ (.int .i32 1) := ⟨_, rfl⟩
  rw [← hV] at hVB hVC hV5
  have hcv := Joins.cell_of_block hVB
  have k0 : V.cell? ⟨B, 0, none⟩ = some (.chan (some C)) := by rw [hcv]; rfl
  have k1 : V.cell? ⟨B, 1, none⟩ = some (.int .i32 1) := by rw [hcv]; rfl
  have k3 : V.cell? ⟨B, 3, none⟩ = some (.bool false) := by rw [hcv]; rfl
  have z1 := Joins.unfrozen_of_block hVB 1
  obtain ⟨d0, d1, d2, d3, d4⟩ := hV5.c
  have HW := hide hW
  have HV := hide hV
  clear hW hV hcel hcv
  refine calls_of_loneTo fun cs => ?_
  have e : Frame.enter Tryd.prog 34 #[.pointer (some ⟨B, 0, none⟩), .agg #[.int .i64 x1, .int .i64 x2, .int .i64 r, .int .i64 c, .slice sa sn sc]] .normal = (base 34).at ⟨#[.pointer (some ⟨B, 0, none⟩), .agg #[.int .i64 x1, .int .i64 x2, .int .i64 r, .int .i64 c, .slice sa sn sc], undef, undef, undef, undef, undef, undef, undef, undef, undef, undef, undef, undef, undef, undef, undef, undef, undef, undef, undef, undef, undef, undef, undef, undef], []⟩ [.code (Tryd.f34.body.getD .skip)] := by
    simp [Frame.enter, Frame.at, Tryd.func34, base, Tryd.f34]
  rw [e]
  refine LoneTo.goes (n := 60) ?_
  simp only [Tryd.f34, Option.getD_some]
  s_c stepG_seq
  s_reg
  s_op
  s_op
  s_c stepG_region_end
  s_c stepG_seq
  s_reg
  s_op
  s_op
  s_op
  s_stop
  refine lone_call (R := fun v w' => v = .tuple #[] ∧ w' = V) rfl rfl (run_call_body rfl Tryd.func42 (by kernel_rfl) (by kernel_rfl)) ?_ ?_
  · rw [← HW.out]
    walk_nrm
    refine (mlock ⟨B, 1, none⟩ W g0 z0).mono ?_
    rintro e w' ⟨rfl, rfl⟩
    exact ⟨_, rfl, rfl, HV.out.symm⟩
  rintro v w' ⟨rfl, rfl⟩
  walk_nrm
  refine LoneTo.goes (n := 60) ?_
  s_c stepG_region_end
  s_c stepG_seq
  s_reg
  s_op
  s_op
  s_op
  (s_in; rw [stepG_defer rfl rfl (by decide) rfl]; simp only [goes_go]; refine ⟨trivial, ?_⟩; walk_nrm)
  s_c stepG_region_end
  s_c stepG_seq
  s_c stepG_seq
  s_reg
  s_op
  s_op
  s_op
  s_op
  s_c stepG_region_end
  s_cond false
  s_c stepG_skip
  s_c stepG_seq
  s_c stepG_seq
  s_reg
  s_op
  s_op
  s_op
  s_op
  s_c stepG_region_end
  s_reg
  s_op
  s_c stepG_region_end
  s_c stepG_seq
  s_reg
  s_stop
  refine LoneTo.step (step_lone_select_send_full (c := C) (v := .agg #[.int .i64 x1, .int .i64 x2, .int .i64 r, .int .i64 c, .slice sa sn sc]) (z' := .agg #[.int .i64 0, .int .i64 0, .int .i64 0, .int .i64 0, .slice none 0 0]) (cap := n) (buf := buf) (s := s) (r := q) (tm := false) (stepG_comm (cases := #[scase C (.agg #[.int .i64 x1, .int .i64 x2, .int .i64 r, .int .i64 c, .slice sa sn sc]) (.agg #[.int .i64 0, .int .i64 0, .int .i64 0, .int .i64 0, .slice none 0 0])]) (blocking := false) (shape := .select) (w' := w') rfl rfl (by decide) (by simp [go_sem, execOp, scase, Act.eval])) hVC (by omega)) ?_
  rw [Frame.finish_at]
  walk_nrm
  refine LoneTo.goes (n := 20) ?_
  s_op
  s_op
  s_c stepG_region_end
  s_c stepG_block
  s_cond false
  s_c stepG_seq
  s_reg
  s_op
  s_op
  s_c stepG_region_end
  s_c stepG_ret'
  s_stop
  refine lone_leaves Tryd.func34 rfl rfl rfl (by rintro _ ⟨h, _⟩; cases h) ?_
  refine leaves_cons (f := 43) (args := #[.pointer (some ⟨B, 1, none⟩)]) (by simp) (by simp [go_sem]) ?_
  refine (munlock ⟨B, 1, none⟩ .returning _ k1 z1).mono ?_
  rintro e u' w'' ⟨rfl, rfl, rfl⟩
  refine ⟨_, results_tmp rfl _ _ _, rfl, ?_⟩
  rw [HV.out, lock_round hB.bx]
  exact hbl
set_option maxHeartbeats 4000000 in
set_option maxRecDepth 100000 in
theorem qput_shut (P Pv : Nat → Prop) (B C n : Nat) (ms : List (Int × Int × Mx)) (m : Int × Int × Mx) (v : Value) (w : World) (h : BoxIs w P B C n true ms) (hv : InQ w Pv v m) :
    Calls Tryd.prog 34 #[.pointer (some ⟨B, 0, none⟩), v] w fun e w' => e = .returned (.iface 32 (.int .i64 5)) ∧ Below w.heap.size w w' := by
  obtain ⟨s0, rfl, hs0, hp0⟩ := hv
  obtain ⟨x1, x2, b⟩ := m
  obtain ⟨r, hr⟩ : ∃ r, b.rows = r := ⟨_, rfl⟩
  obtain ⟨c, hc⟩ : ∃ c, b.cols = c := ⟨_, rfl⟩
  obtain ⟨sa, sc, rfl, hs2⟩ := id hs0
  obtain ⟨sn, hsn⟩ : ∃ x, b.cells.length = x := ⟨_, rfl⟩
  dsimp only at hs0 hp0 hsn ⊢
  rw [hsn] at hs0 hp0 ⊢
  rw [hr, hc]
  have hbl := below_one w (.cells #[.int .i64 x1, .int .i64 x2, .int .i64 r, .int .i64 c, .slice sa sn sc] 26)
  have hbk5 := Blk5.new w (.int .i64 x1) (.int .i64 x2) (.int .i64 r) (.int .i64 c) (.slice sa sn sc)
  obtain ⟨W, hW⟩ : ∃ x, x = w.alloc (.cells #[.int .i64 x1, .int .i64 x2, .int .i64 r, .int .i64 c, .slice sa sn sc] 26) := ⟨_, rfl⟩
  rw [← hW] at hbl hbk5
  have hB := h.keep (Kept.of (X := fun _ => False) hbl) (fun _ _ e => e)
  obtain ⟨buf, s, q, hch, hbs, hq⟩ := hB.ch
  have hcel := Joins.cell_of_block hB.bx
  have g0 : W.cell? ⟨B, 1, none⟩ = some (.int .i32 0) := by rw [hcel]; rfl
  have z0 := Joins.unfrozen_of_block hB.bx 1
  have hkV := Kept.set (X := fun b => b = B) W rfl 1 (.int .i32 1)
  have hVB := Joins.block_setCell hB.bx (i := 1) (.int .i32 1)
  have hVC := (hkV.block C (hB.lt C hB.pC) (fun e => hB.ne e.symm)).trans hch
  have hV5 : Blk5 (W.setCell ⟨B, 1, none⟩ (.int .i32 1)) w.heap.size (.int .i64 x1) (.int .i64 x2) (.int .i64 r) (.int .i64 c) (.slice sa sn sc) := (hkV.block _ hbk5.lt (fun e => by have := h.lt B h.pB; omega)).trans hbk5
  obtain ⟨V, hV⟩ : ∃ x, x = W.setCell ⟨B, 1, none⟩ (.int .i32 1) := ⟨_, rfl⟩
  rw [← hV] at hVB hVC hV5
  have hcv := Joins.cell_of_block hVB
  have k0 : V.cell? ⟨B, 0, none⟩ = some (.chan (some C)) := by rw [hcv]; rfl
  have k1 : V.cell? ⟨B, 1, none⟩ = some (.int .i32 1) := by rw [hcv]; rfl
  have k3 : V.cell? ⟨B, 3, none⟩ = some (.bool true) := by rw [hcv]; rfl
  have z1 := Joins.unfrozen_of_block hVB 1
  obtain ⟨d0, d1, d2, d3, d4⟩ := hV5.c
  have HW := hide hW
  have HV := hide hV
  clear hW hV hcel hcv
  have HL := hide (mlock ⟨B, 1, none⟩ W g0 z0)
  have HB := hide (And.intro hbl hB)
  clear hbl hB hch hbs hq hs0 hp0 hs2 g0 hkV hVB hVC hV5 d0 d1 d2 d3 d4 hbk5
  go_enter_defers Tryd.func34, Tryd.ntmps34
  go_wp2_with (go_at_call 42; rw [← HW.out]; refine HL.out.mono ?_; rintro e w' ⟨rfl, hw⟩; rw [← HV.out] at hw; subst hw)
  refine leaves_cons (f := 43) (args := #[.pointer (some ⟨B, 1, none⟩)]) (by simp) (by simp [go_sem]) ?_
  refine (munlock ⟨B, 1, none⟩ .returning _ k1 z1).mono ?_
  rintro e u' w'' ⟨rfl, rfl, rfl⟩
  refine ⟨_, results_tmp rfl _ _ _, rfl, ?_⟩
  rw [HV.out, lock_round HB.out.2.bx]
  exact HB.out.1
set_option maxHeartbeats 4000000 in
set_option maxRecDepth 100000 in
theorem qtake_some (P : Nat → Prop) (B C n : Nat) (cl : Bool) (m : Int × Int × Mx) (ms : List (Int × Int × Mx)) (w : World) (h : BoxIs w P B C n cl (m :: ms)) :
    Calls Tryd.prog 35 #[.pointer (some ⟨B, 0, none⟩)] w fun e w' => ∃ u, e = .returned (.tuple #[u, .nilIface]) ∧ InQ w' P u m ∧ BoxIs w' P B C n cl ms ∧ Kept (fun b => b = C) w w' := by
  have hbl := below_one w (.cells #[.int .i64 0, .int .i64 0, .int .i64 0, .int .i64 0, .slice none 0 0] 26)
  have hbm := below_one (w.alloc (.cells #[.int .i64 0, .int .i64 0, .int .i64 0, .int .i64 0, .slice none 0 0] 26)) (.cells #[.int .i64 0, .int .i64 0, .int .i64 0, .int .i64 0, .slice none 0 0] 26)
  have hbl2 := bel_on hbl hbm
  have hr1 := (Blk5.new w (.int .i64 0) (.int .i64 0) (.int .i64 0) (.int .i64 0) (.slice none 0 0)).bel hbm (Blk5.new w _ _ _ _ _).lt
  have hr2 := Blk5.new (w.alloc (.cells #[.int .i64 0, .int .i64 0, .int .i64 0, .int .i64 0, .slice none 0 0] 26)) (.int .i64 0) (.int .i64 0) (.int .i64 0) (.int .i64 0) (.slice none 0 0)
  rw [World.size_alloc] at hr2
  obtain ⟨W, hW⟩ : ∃ x, x = (w.alloc (.cells #[.int .i64 0, .int .i64 0, .int .i64 0, .int .i64 0, .slice none 0 0] 26)).alloc (.cells #[.int .i64 0, .int .i64 0, .int .i64 0, .int .i64 0, .slice none 0 0] 26) := ⟨_, rfl⟩
  rw [← hW] at hbl2 hr1 hr2
  have hB := h.keep (Kept.of (X := fun _ => False) hbl2) (fun _ _ e => e)
  obtain ⟨buf, s, q, hch, hbs, hq⟩ := hB.ch
  have hcel := Joins.cell_of_block hB.bx
  have k0 : ((w.alloc (.cells #[.int .i64 0, .int .i64 0, .int .i64 0, .int .i64 0, .slice none 0 0] 26)).alloc (.cells #[.int .i64 0, .int .i64 0, .int .i64 0, .int .i64 0, .slice none 0 0] 26)).cell? ⟨B, 0, none⟩ = some (.chan (some C)) := by rw [← hW, hcel]; rfl
  have HW := hide hW
  clear hW
  obtain ⟨hpop, hin⟩ := hB.pop hch hbs hq rfl
  obtain ⟨x1, x2, b⟩ := m
  obtain ⟨sx, hu, hsx, _⟩ := id hin
  obtain ⟨sa, sc, rfl, _⟩ := id hsx
  dsimp only at hu
  obtain ⟨r, hr⟩ : ∃ r, b.rows = r := ⟨_, rfl⟩
  obtain ⟨c, hc⟩ : ∃ c, b.cols = c := ⟨_, rfl⟩
  obtain ⟨sn, hsn⟩ : ∃ x, b.cells.length = x := ⟨_, rfl⟩
  dsimp only at hsn hsx
  rw [hr, hc, hsn] at hu
  obtain ⟨U, hU⟩ : ∃ x, x = W.setChan C n (buf.extract 1 buf.size) cl s (q + 1) false := ⟨_, rfl⟩
  rw [← hU] at hpop hin
  have hkU : Kept (fun b => b = C) W U := by rw [hU]; exact keep_chan _ _ _ _ _ _ _ _ _ rfl
  have HU := hide hU
  clear hU
  have hCn : C ≠ w.heap.size ∧ C ≠ w.heap.size + 1 := by have := h.lt C h.pC; omega
  have hv1 : Blk5 U w.heap.size (.int .i64 0) (.int .i64 0) (.int .i64 0) (.int .i64 0) (.slice none 0 0) := (hkU.block _ hr1.lt (fun e => hCn.1 e.symm)).trans hr1
  have hv2 := hv1.bel (below_one U (.cells #[.int .i64 x1, .int .i64 x2, .int .i64 r, .int .i64 c, .slice sa sn sc] 26)) hv1.lt
  obtain ⟨c0, c1, c2, c3, c4⟩ := hv2.c
  have f0 := hv2.f 0
  have f1 := hv2.f 1
  have f2 := hv2.f 2
  have f3 := hv2.f 3
  have f4 := hv2.f 4
  have hRP : ∀ b, P b → b ≠ w.heap.size := fun b hb e => by have := h.lt b hb; omega
  have HPOP := hide hpop
  have HIN := hide hin
  have HRC := hide (And.intro hr (And.intro hc hsn))
  have HKU := hide hkU
  clear hpop hin hsx hr hc hsn hq hcel hkU
  refine calls_of_loneTo fun cs => ?_
  have e : Frame.enter Tryd.prog 35 #[.pointer (some ⟨B, 0, none⟩)] .normal = (base 35).at ⟨#[.pointer (some ⟨B, 0, none⟩), undef, undef, undef, undef, undef, undef, undef, undef, undef, undef, undef, undef, undef, undef, undef, undef, undef, undef, undef, undef, undef, undef], []⟩ [.code (Tryd.f35.body.getD .skip)] := by
    simp [Frame.enter, Frame.at, Tryd.func35, base, Tryd.f35]
  rw [e]
  refine LoneTo.goes (n := 60) ?_
  simp only [Tryd.f35, Option.getD_some]
  s_c stepG_seq
  s_reg
  s_op
  s_op
  s_c stepG_region_end
  s_c stepG_seq
  s_reg
  s_op
  s_c stepG_region_end
  s_c stepG_seq
  s_reg
  s_op
  s_op
  s_op
  s_op
  s_c stepG_region_end
  s_c stepG_seq
  s_reg
  s_stop
  rw [← HW.out]
  refine LoneTo.step (step_lone_select_recv_buf (c := C) (z := .agg #[.int .i64 0, .int .i64 0, .int .i64 0, .int .i64 0, .slice none 0 0]) (cap := n) (buf := buf) (closed := cl) (s := s) (r := q) (tm := false) (stepG_comm (cases := #[rcase C (.agg #[.int .i64 0, .int .i64 0, .int .i64 0, .int .i64 0, .slice none 0 0])]) (blocking := false) (shape := .select) (w' := W) rfl rfl (by decide) (by simp [go_sem, execOp, rcase, Act.eval])) hch (by simp at hbs; omega)) ?_
  rw [Frame.finish_at, ← HU.out, hu]
  walk_nrm
  refine LoneTo.goes (n := 40) ?_
  s_op
  s_op
  s_c stepG_region_end
  s_c stepG_block
  s_cond true
  s_c stepG_seq
  s_reg
  s_op
  s_op
  s_op
  s_op
  s_op
  s_c stepG_region_end
  s_c stepG_seq
  s_c stepG_seq
  s_reg
  s_op
  s_op
  s_c stepG_region_end
  s_cond false
  s_c stepG_skip
  s_c stepG_seq
  s_reg
  s_op
  s_op
  s_op
  s_c stepG_region_end
  s_c stepG_ret'
  s_stop
  refine LoneTo.done ⟨.returned (.tuple #[.agg #[.int .i64 x1, .int .i64 x2, .int .i64 r, .int .i64 c, .slice sa sn sc], .nilIface]), _, rfl, ⟨_, rfl, ?_⟩, rfl, rfl, rfl, rfl, _, Tryd.func35, by simp [results, Tryd.f35, Frame.at, go_sem, c0, c1, c2, c3, c4]⟩
  have hk5 := keep_five U _ (below_one U (.cells #[.int .i64 x1, .int .i64 x2, .int .i64 r, .int .i64 c, .slice sa sn sc] 26)) w.heap.size (.int .i64 x1) (.int .i64 x2) (.int .i64 r) (.int .i64 c) (.slice sa sn sc)
  refine ⟨?_, HPOP.out.keep hk5 hRP, ?_⟩
  · have := HIN.out.keep hk5 hRP
    rw [hu] at this
    exact this
  · exact ((Kept.of hbl2).trans HKU.out (fun _ _ e => e)).trans hk5 (fun b hb e => absurd e (by omega))
set_option maxHeartbeats 4000000 in
set_option maxRecDepth 100000 in
theorem qtake_none (P : Nat → Prop) (B C n : Nat) (w : World) (h : BoxIs w P B C n false []) :
    Calls Tryd.prog 35 #[.pointer (some ⟨B, 0, none⟩)] w fun e w' => ∃ u, e = .returned (.tuple #[u, .iface 32 (.int .i64 4)]) ∧ u = .agg #[.int .i64 0, .int .i64 0, .int .i64 0, .int .i64 0, .slice none 0 0] ∧ InQ w' P u (0, 0, ⟨0, 0, []⟩) ∧ BoxIs w' P B C n false [] ∧ Kept (fun b => b = C) w w' := by
  have hbl := below_one w (.cells #[.int .i64 0, .int .i64 0, .int .i64 0, .int .i64 0, .slice none 0 0] 26)
  have hbm := below_one (w.alloc (.cells #[.int .i64 0, .int .i64 0, .int .i64 0, .int .i64 0, .slice none 0 0] 26)) (.cells #[.int .i64 0, .int .i64 0, .int .i64 0, .int .i64 0, .slice none 0 0] 26)
  have hbl2 := bel_on hbl hbm
  have hr1 := (Blk5.new w (.int .i64 0) (.int .i64 0) (.int .i64 0) (.int .i64 0) (.slice none 0 0)).bel hbm (Blk5.new w _ _ _ _ _).lt
  have hr2 := Blk5.new (w.alloc (.cells #[.int .i64 0, .int .i64 0, .int .i64 0, .int .i64 0, .slice none 0 0] 26)) (.int .i64 0) (.int .i64 0) (.int .i64 0) (.int .i64 0) (.slice none 0 0)
  rw [World.size_alloc] at hr2
  obtain ⟨W, hW⟩ : ∃ x, x = (w.alloc (.cells #[.int .i64 0, .int .i64 0, .int .i64 0, .int .i64 0, .slice none 0 0] 26)).alloc (.cells #[.int .i64 0, .int .i64 0, .int .i64 0, .int .i64 0, .slice none 0 0] 26) := ⟨_, rfl⟩
  rw [← hW] at hbl2 hr1 hr2
  have hB := h.keep (Kept.of (X := fun _ => False) hbl2) (fun _ _ e => e)
  obtain ⟨buf, s, q, hch, hbs, hq⟩ := hB.ch
  have hcel := Joins.cell_of_block hB.bx
  have k0 : ((w.alloc (.cells #[.int .i64 0, .int .i64 0, .int .i64 0, .int .i64 0, .slice none 0 0] 26)).alloc (.cells #[.int .i64 0, .int .i64 0, .int .i64 0, .int .i64 0, .slice none 0 0] 26)).cell? ⟨B, 0, none⟩ = some (.chan (some C)) := by rw [← hW, hcel]; rfl
  have HW := hide hW
  clear hW
  obtain ⟨c0, c1, c2, c3, c4⟩ := (hr1).c
  obtain ⟨d0, d1, d2, d3, d4⟩ := (hr2).c
  have f0 := (hr1).f 0
  have f1 := (hr1).f 1
  have f2 := (hr1).f 2
  have f3 := (hr1).f 3
  have f4 := (hr1).f 4
  have hRP : ∀ b, P b → b ≠ w.heap.size := fun b hb e => by have := h.lt b hb; omega
  obtain rfl : buf = #[] := Array.eq_empty_of_size_eq_zero hbs
  have HB := hide hB
  clear hq hcel hB
  refine calls_of_loneTo fun cs => ?_
  have e : Frame.enter Tryd.prog 35 #[.pointer (some ⟨B, 0, none⟩)] .normal = (base 35).at ⟨#[.pointer (some ⟨B, 0, none⟩), undef, undef, undef, undef, undef, undef, undef, undef, undef, undef, undef, undef, undef, undef, undef, undef, undef, undef, undef, undef, undef, undef], []⟩ [.code (Tryd.f35.body.getD .skip)] := by
    simp [Frame.enter, Frame.at, Tryd.func35, base, Tryd.f35]
  rw [e]
  refine LoneTo.goes (n := 60) ?_
  simp only [Tryd.f35, Option.getD_some]
  s_c stepG_seq
  s_reg
  s_op
  s_op
  s_c stepG_region_end
  s_c stepG_seq
  s_reg
  s_op
  s_c stepG_region_end
  s_c stepG_seq
  s_reg
  s_op
  s_op
  s_op
  s_op
  s_c stepG_region_end
  s_c stepG_seq
  s_reg
  s_stop
  rw [← HW.out]
  refine LoneTo.step (step_lone_select_default (c := C) (z := .agg #[.int .i64 0, .int .i64 0, .int .i64 0, .int .i64 0, .slice none 0 0]) (cap := n) (s := s) (r := q) (tm := false) (stepG_comm (cases := #[rcase C (.agg #[.int .i64 0, .int .i64 0, .int .i64 0, .int .i64 0, .slice none 0 0])]) (blocking := false) (shape := .select) (w' := W) rfl rfl (by decide) (by simp [go_sem, execOp, rcase, Act.eval])) hch) ?_
  rw [Frame.finish_at]
  walk_nrm
  refine LoneTo.goes (n := 40) ?_
  s_op
  s_op
  s_c stepG_region_end
  s_c stepG_block
  s_cond false
  s_c stepG_seq
  s_reg
  s_op
  s_op
  s_op
  s_op
  s_c stepG_region_end
  s_c stepG_ret'
  s_stop
  refine LoneTo.done ⟨.returned (.tuple #[.agg #[.int .i64 0, .int .i64 0, .int .i64 0, .int .i64 0, .slice none 0 0], .iface 32 (.int .i64 4)]), _, rfl, ⟨_, rfl, rfl, ⟨_, rfl, IsInts.nil _, .inl rfl⟩, ?_⟩, rfl, rfl, rfl, rfl, _, Tryd.func35, by simp [results, Tryd.f35, Frame.at, go_sem, c0, c1, c2, c3, c4]⟩
  have hk5 := keep_five W W (Below.refl _ _) w.heap.size (.int .i64 0) (.int .i64 0) (.int .i64 0) (.int .i64 0) (.slice none 0 0)
  exact ⟨HB.out.keep hk5 hRP, ((Kept.of hbl2).trans hk5 (fun b hb e => absurd e (by omega)))⟩
set_option maxHeartbeats 4000000 in
set_option maxRecDepth 100000 in
theorem qtake_shut (P : Nat → Prop) (B C n : Nat) (w : World) (h : BoxIs w P B C n true []) :
    Calls Tryd.prog 35 #[.pointer (some ⟨B, 0, none⟩)] w fun e w' => ∃ u, e = .returned (.tuple #[u, .iface 32 (.int .i64 5)]) ∧ u = .agg #[.int .i64 0, .int .i64 0, .int .i64 0, .int .i64 0, .slice none 0 0] ∧ InQ w' P u (0, 0, ⟨0, 0, []⟩) ∧ BoxIs w' P B C n true [] ∧ Kept (fun b => b = C) w w' := by
  have hbl := below_one w (.cells #[.int .i64 0, .int .i64 0, .int .i64 0, .int .i64 0, .slice none 0 0] 26)
  have hbm := below_one (w.alloc (.cells #[.int .i64 0, .int .i64 0, .int .i64 0, .int .i64 0, .slice none 0 0] 26)) (.cells #[.int .i64 0, .int .i64 0, .int .i64 0, .int .i64 0, .slice none 0 0] 26)
  have hbl2 := bel_on hbl hbm
  have hr1 := (Blk5.new w (.int .i64 0) (.int .i64 0) (.int .i64 0) (.int .i64 0) (.slice none 0 0)).bel hbm (Blk5.new w _ _ _ _ _).lt
  have hr2 := Blk5.new (w.alloc (.cells #[.int .i64 0, .int .i64 0, .int .i64 0, .int .i64 0, .slice none 0 0] 26)) (.int .i64 0) (.int .i64 0) (.int .i64 0) (.int .i64 0) (.slice none 0 0)
  rw [World.size_alloc] at hr2
  obtain ⟨W, hW⟩ : ∃ x, x = (w.alloc (.cells #[.int .i64 0, .int .i64 0, .int .i64 0, .int .i64 0, .slice none 0 0] 26)).alloc (.cells #[.int .i64 0, .int .i64 0, .int .i64 0, .int .i64 0, .slice none 0 0] 26) := ⟨_, rfl⟩
  rw [← hW] at hbl2 hr1 hr2
  have hB := h.keep (Kept.of (X := fun _ => False) hbl2) (fun _ _ e => e)
  obtain ⟨buf, s, q, hch, hbs, hq⟩ := hB.ch
  have hcel := Joins.cell_of_block hB.bx
  have k0 : ((w.alloc (.cells #[.int .i64 0, .int .i64 0, .int .i64 0, .int .i64 0, .slice none 0 0] 26)).alloc (.cells #[.int .i64 0, .int .i64 0, .int .i64 0, .int .i64 0, .slice none 0 0] 26)).cell? ⟨B, 0, none⟩ = some (.chan (some C)) := by rw [← hW, hcel]; rfl
  have HW := hide hW
  clear hW
  have hr3 := hr1.bel (below_one W (.cells #[.int .i64 0, .int .i64 0, .int .i64 0, .int .i64 0, .slice none 0 0] 26)) hr1.lt
  have hr4 := hr2.bel (below_one W (.cells #[.int .i64 0, .int .i64 0, .int .i64 0, .int .i64 0, .slice none 0 0] 26)) hr2.lt
  obtain ⟨c0, c1, c2, c3, c4⟩ := (hr3).c
  obtain ⟨d0, d1, d2, d3, d4⟩ := (hr4).c
  have f0 := (hr3).f 0
  have f1 := (hr3).f 1
  have f2 := (hr3).f 2
  have f3 := (hr3).f 3
  have f4 := (hr3).f 4
  have hRP : ∀ b, P b → b ≠ w.heap.size := fun b hb e => by have := h.lt b hb; omega
  obtain rfl : buf = #[] := Array.eq_empty_of_size_eq_zero hbs
  have HB := hide hB
  clear hq hcel hB
  refine calls_of_loneTo fun cs => ?_
  have e : Frame.enter Tryd.prog 35 #[.pointer (some ⟨B, 0, none⟩)] .normal = (base 35).at ⟨#[.pointer (some ⟨B, 0, none⟩), undef, undef, undef, undef, undef, undef, undef, undef, undef, undef, undef, undef, undef, undef, undef, undef, undef, undef, undef, undef, undef, undef], []⟩ [.code (Tryd.f35.body.getD .skip)] := by
    simp [Frame.enter, Frame.at, Tryd.func35, base, Tryd.f35]
  rw [e]
  refine LoneTo.goes (n := 60) ?_
  simp only [Tryd.f35, Option.getD_some]
  s_c stepG_seq
  s_reg
  s_op
  s_op
  s_c stepG_region_end
  s_c stepG_seq
  s_reg
  s_op
  s_c stepG_region_end
  s_c stepG_seq
  s_reg
  s_op
  s_op
  s_op
  s_op
  s_c stepG_region_end
  s_c stepG_seq
  s_reg
  s_stop
  rw [← HW.out]
  refine LoneTo.step (step_lone_select_recv_shut (c := C) (z := .agg #[.int .i64 0, .int .i64 0, .int .i64 0, .int .i64 0, .slice none 0 0]) (cap := n) (s := s) (r := q) (tm := false) (stepG_comm (cases := #[rcase C (.agg #[.int .i64 0, .int .i64 0, .int .i64 0, .int .i64 0, .slice none 0 0])]) (blocking := false) (shape := .select) (w' := W) rfl rfl (by decide) (by simp [go_sem, execOp, rcase, Act.eval])) hch) ?_
  rw [Frame.finish_at]
  walk_nrm
  refine LoneTo.goes (n := 40) ?_
  s_op
  s_op
  s_c stepG_region_end
  s_c stepG_block
  s_cond true
  s_c stepG_seq
  s_reg
  s_op
  s_op
  s_op
  s_op
  s_op
  s_c stepG_region_end
  s_c stepG_seq
  s_c stepG_seq
  s_reg
  s_op
  s_op
  s_c stepG_region_end
  s_cond true
  s_c stepG_seq
  s_reg
  s_op
  s_op
  s_op
  s_op
  s_c stepG_region_end
  s_c stepG_ret'
  s_stop
  refine LoneTo.done ⟨.returned (.tuple #[.agg #[.int .i64 0, .int .i64 0, .int .i64 0, .int .i64 0, .slice none 0 0], .iface 32 (.int .i64 5)]), _, rfl, ⟨_, rfl, rfl, ⟨_, rfl, IsInts.nil _, .inl rfl⟩, ?_⟩, rfl, rfl, rfl, rfl, _, Tryd.func35, by simp [results, Tryd.f35, Frame.at, go_sem, c0, c1, c2, c3, c4]⟩
  have hk5 := keep_five W _ (below_one W (.cells #[.int .i64 0, .int .i64 0, .int .i64 0, .int .i64 0, .slice none 0 0] 26)) w.heap.size (.int .i64 0) (.int .i64 0) (.int .i64 0) (.int .i64 0) (.slice none 0 0)
  exact ⟨HB.out.keep hk5 hRP, ((Kept.of hbl2).trans hk5 (fun b hb e => absurd e (by omega)))⟩
end Go.Proofs.YtgedldbkghkahahDoor
