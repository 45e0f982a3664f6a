/- What a box of package mail does: New, Put, Take, Len, Close. -/
import Derived.Test.YtgedldbkghkahahDoorMbC
import Derived.Test.YtgedldbkghkahahDoorOwZ
import Derived.Conc.LoneSelectN
import Derived.Laws.AppendOwnNone
import Derived.Lib.SliceRun
namespace Go.Proofs.YtgedldbkghkahahDoor
open Go.RowKit Go.Conc
theorem chanU : ∃ d, Tryd.prog.underlying 75 = some (.chan d 26) := ⟨_, Tryd.underlying75⟩
set_option maxHeartbeats 4000000 in
set_option maxRecDepth 100000 in
theorem qlen_any (P : Nat → Prop) (B C n : Nat) (cl : Bool) (ms : List (Int × Int × Mx)) (w : World) (h : BoxIs w P B C n cl ms) : Calls Tryd.prog 20 #[.pointer (some ⟨B, 0, none⟩)] w fun e w' => e = .returned (.int .i64 (ms.length : Int)) ∧ w' = w := by
  obtain ⟨buf, s, q, hch, hbs, _⟩ := h.ch
  have hcel := Joins.cell_of_block h.bx
  have k0 : w.cell? ⟨B, 0, none⟩ = some (.chan (some C)) := by rw [hcel]; rfl
  have hl := fun ty => run_len_chan (P := Tryd.prog) (w := w) 75 ty Tryd.underlying75 hch
  rw [hbs] at hl
  clear hcel hch hbs
  go_enter Tryd.func20, Tryd.ntmps20
  go_wp2
  go_ret
  exact ⟨rfl, rfl⟩
/-- What lies in a box stays where only the box's own struct and channel turn. -/
theorem BoxIs.inq {P : Nat → Prop} {B C n : Nat} {cl : Bool} {ms : List (Int × Int × Mx)} {w w' : World} (h : BoxIs w P B C n cl ms) (hk : Kept (fun b => b = B ∨ b = C) w w') {u : Value} {m : Int × Int × Mx} (hm : InQ w P u m) : InQ w' P u m := by
  obtain ⟨t, h1, h2, h3⟩ := hm
  obtain ⟨buf, s, r, hch, _, _⟩ := h.ch
  refine ⟨t, h1, ?_, h3⟩
  obtain ⟨a, cap, g1, g2, g3, g4⟩ := h2
  refine ⟨a, cap, g1, g2, g3, g4.imp id ?_⟩
  rintro ⟨b, off, ha, hcell⟩
  refine ⟨b, off, ha, fun i x hx => hk.cell (fun e => ?_) (hcell i x hx)⟩
  have hh := hcell i x hx
  rcases e with e | e
  · have e' : b = B := e
    subst e'
    rw [Joins.cell_of_block h.bx] at hh
    match hq : off + i, hh with
    | 0, hh => simp at hh
    | 1, hh => simp at hh
    | 2, hh => simp at hh
    | 3, hh => simp at hh
    | k + 4, hh => simp at hh
  · have e' : b = C := e
    subst e'
    simp [World.cell?, hch] at hh
set_option maxHeartbeats 4000000 in
set_option maxRecDepth 100000 in
theorem qshut_any (P : Nat → Prop) (B C n : Nat) (cl : Bool) (ms : List (Int × Int × Mx)) (w : World) (h : BoxIs w P B C n cl ms) : Calls Tryd.prog 36 #[.pointer (some ⟨B, 0, none⟩)] w fun e w' => e = .returned (.tuple #[]) ∧ BoxIs w' P B C n true ms ∧ Kept (fun b => b = B ∨ b = C) w w' := by
  have HH := hide h
  obtain ⟨buf, s, q, hch, hbs, hq⟩ := h.ch
  have hcel := Joins.cell_of_block h.bx
  have g0 : w.cell? ⟨B, 1, none⟩ = some (.int .i32 0) := by rw [hcel]; rfl
  have z0 := Joins.unfrozen_of_block h.bx 1
  have HL := hide (mlock ⟨B, 1, none⟩ w g0 z0)
  have hVB := Joins.block_setCell h.bx (i := 1) (.int .i32 1)
  have hk1 := Kept.set (X := fun b => b = B) w rfl 1 (.int .i32 1)
  have hVC := (hk1.block C (h.lt C h.pC) (fun e => h.ne e.symm)).trans hch
  obtain ⟨V, hV⟩ : ∃ x, x = w.setCell ⟨B, 1, none⟩ (.int .i32 1) := ⟨_, rfl⟩
  rw [← hV] at hVB hVC hk1 HL
  have hcv := Joins.cell_of_block hVB
  have k0 : V.cell? ⟨B, 0, none⟩ = some (.chan (some C)) := by rw [hcv]; rfl
  have k1 : V.cell? ⟨B, 1, none⟩ = some (.int .i32 1) := by rw [hcv]; rfl
  have k3 : V.cell? ⟨B, 3, none⟩ = some (.bool cl) := by rw [hcv]; rfl
  have z1 := Joins.unfrozen_of_block hVB 1
  have z3 := Joins.unfrozen_of_block hVB 3
  have HV := hide hV
  clear hcv hcel hV g0 z0
  cases cl with
  | true =>
    clear hch hbs hq h hVB hVC hk1
    go_enter_defers Tryd.func36, Tryd.ntmps36
    go_wp2_with (go_at_call 42; refine HL.out.mono ?_; rintro e w' ⟨rfl, hw⟩; subst hw)
    refine leaves_cons (f := 43) (args := #[.pointer (some ⟨B, 1, none⟩)]) (by simp) (by simp [go_sem]) ?_
    refine (munlock ⟨B, 1, none⟩ .returning _ k1 z1).mono ?_
    rintro e u' w'' ⟨rfl, rfl, rfl⟩
    refine ⟨_, results_none rfl _ _ _, rfl, ?_⟩
    rw [HV.out, lock_round HH.out.bx]
    exact ⟨HH.out, Kept.refl _ _⟩
  | false =>
    have hk3 := Kept.set (X := fun b => b = B) V rfl 3 (.bool true)
    have hch2 := (hk3.block C (Array.getElem?_eq_some_iff.1 hVC).1 (fun e => h.ne e.symm)).trans hVC
    have hl := fun ats ty => run_close_open (P := Tryd.prog) (w := V.setCell ⟨B, 3, none⟩ (.bool true)) ats ty hch2
    have hbx2 := Joins.block_setCell hVB (i := 3) (.bool true)
    have k2 : (V.setCell ⟨B, 3, none⟩ (.bool true)).cell? ⟨B, 0, none⟩ = some (.chan (some C)) := by rw [Joins.cell_of_block hbx2]; rfl
    have HQ := hide hq
    have HBS := hide hbs
    have HC2 := hide hch2
    have HBX := hide hbx2
    have HK1 := hide (hk1.trans hk3 (fun _ _ e => e))
    clear hch hbs hq h hch2 hbx2 hk1 hk3 hVB hVC
    go_enter_defers Tryd.func36, Tryd.ntmps36
    go_wp2_with (go_at_call 42; refine HL.out.mono ?_; rintro e w' ⟨rfl, hw⟩; subst hw)
    have hkc := keep_chan (fun b => b = C) (w'.setCell ⟨B, 3, none⟩ (.bool true)) C n buf true s q false rfl
    have hlt := (Array.getElem?_eq_some_iff.1 HC2.out).1
    have hbx3 := (hkc.block B (Array.getElem?_eq_some_iff.1 HBX.out).1 HH.out.ne).trans HBX.out
    refine leaves_cons (f := 43) (args := #[.pointer (some ⟨B, 1, none⟩)]) (by simp) (by simp [go_sem]) ?_
    refine (munlock ⟨B, 1, none⟩ .returning _ (by rw [Joins.cell_of_block hbx3]; rfl) (Joins.unfrozen_of_block hbx3 1)).mono ?_
    rintro e u' w'' ⟨rfl, rfl, rfl⟩
    have hku := Kept.set (X := fun b => b = B) ((w'.setCell ⟨B, 3, none⟩ (.bool true)).setChan C n buf true s q false) rfl 1 (.int .i32 0)
    have hbx4 := Joins.block_setCell hbx3 (i := 1) (.int .i32 0)
    have hk : Kept (fun b => b = B ∨ b = C) w (((w'.setCell ⟨B, 3, none⟩ (.bool true)).setChan C n buf true s q false).setCell ⟨B, 1, none⟩ (.int .i32 0)) := ((HK1.out.mono (fun _ _ e => .inl e)).trans hkc (fun _ _ e => .inr e)).trans hku (fun _ _ e => .inl e)
    refine ⟨_, results_none rfl _ _ _, rfl, ⟨hbx4, ⟨buf, s, q, ?_, HBS.out, fun i u m hu hm => HH.out.inq hk (HQ.out i u m hu hm)⟩, HH.out.le, HH.out.pB, HH.out.pC, HH.out.ne, fun b hb => Nat.lt_of_lt_of_le (HH.out.lt b hb) hk.size⟩, hk⟩
    exact (hku.block C (by rw [size_setChan]; exact hlt) (fun e => HH.out.ne e.symm)).trans (heap_setChan _ C n buf true s q false hlt)
set_option maxHeartbeats 4000000 in
set_option maxRecDepth 100000 in
theorem qclose_any (P : Nat → Prop) (B C n : Nat) (cl : Bool) (ms : List (Int × Int × Mx)) (w : World) (h : BoxIs w P B C n cl ms) : Calls Tryd.prog 19 #[.pointer (some ⟨B, 0, none⟩)] w fun e w' => e = .returned (.tuple #[]) ∧ BoxIs w' P B C n true ms ∧ Kept (fun b => b = B ∨ b = C) w w' := by
  have HX := hide (qshut_any P B C n cl ms w h)
  clear h
  go_enter Tryd.func19, Tryd.ntmps19
  go_wp2_with fail
  refine HX.out.mono ?_
  rintro e w1 ⟨rfl, hb, hk⟩
  have HB := hide (And.intro hb hk)
  clear hb hk
  go_wp2
  exact bodyPost_end (v := .tuple #[]) (by simp [results, Tryd.results19, go_sem]) rfl ⟨rfl, HB.out.1, HB.out.2⟩
theorem bytesMsg : ∃ i, Tryd.prog.info? 26 = some i ∧ i.bytes = 56 := by
  obtain ⟨e0, ei, _, _, hz2⟩ := info_parts infoMsg
  exact ⟨e0, ei, hz2⟩
theorem run_mkc (n : Nat) (xn : Int) (hx : xn = (n : Int)) (hn : n ≤ 16) (w : World) : (Instr.makeChan 75 (.int .i64 xn)).run Tryd.prog w = .ok (.chan (some w.heap.size)) (w.alloc (.chan n #[] false 0 0 false)) := by
  obtain ⟨i, hi, hb⟩ := bytesMsg
  subst hx
  exact run_makeChan (P := Tryd.prog) (w := w) Tryd.underlying75 hi .i64 n (by omega) (by rw [hb]; omega)
set_option maxHeartbeats 4000000 in
set_option maxRecDepth 100000 in
theorem mnew_any (n : Nat) (xn : Int) (hx : xn = (n : Int)) (h1 : 1 ≤ n) (hn : n ≤ 16) (w : World) : Calls Tryd.prog 16 #[.int .i64 xn] w fun e w' => ∃ B C P, e = .returned (.tuple #[.pointer (some ⟨B, 0, none⟩), .nilIface]) ∧ BoxIs w' P B C n false [] ∧ (∀ b, P b → w.heap.size ≤ b) ∧ Below w.heap.size w w' := by
  have hmk := run_mkc n xn hx hn w
  have b1 : 1 ≤ xn := by omega
  have b2 : xn ≤ 16 := by omega
  clear hx
  go_enter Tryd.func16, Tryd.ntmps16
  go_wp2
  refine bodyPost_ret (v := .tuple #[.pointer (some ⟨w.heap.size + 1, 0, none⟩), .nilIface]) (by simp [results, Tryd.results16, go_sem]) rfl ⟨w.heap.size + 1, w.heap.size, fun b => b = w.heap.size + 1 ∨ b = w.heap.size, rfl, ⟨?_, ⟨#[], 0, 0, ?_, rfl, fun i u m hu _ => by simp at hu⟩, Nat.zero_le _, .inl rfl, .inr rfl, by omega, fun b hb => by rw [World.size_alloc, World.size_alloc]; omega⟩, fun b hb => by omega, bel_on (below_one _ _) (below_one _ _)⟩
  · have := heap_alloc_new (w.alloc (.chan n #[] false 0 0 false)) (.cells #[.chan (some w.heap.size), .int .i32 0, .int .u32 0, .bool false] 86)
    rw [World.size_alloc] at this
    exact this
  · exact (Below.heap_alloc (w.alloc (.chan n #[] false 0 0 false)) _ _ (by rw [World.size_alloc]; omega)).trans (heap_alloc_new w _)
set_option maxHeartbeats 4000000 in
set_option maxRecDepth 100000 in
theorem mnew_no (xn : Int) (h : xn < 1 ∨ 16 < xn) (w : World) : Calls Tryd.prog 16 #[.int .i64 xn] w fun e w' => e = .returned (.tuple #[.pointer none, .iface 32 (.int .i64 1)]) ∧ w' = w := by
  rcases h with h | h
  · go_enter Tryd.func16, Tryd.ntmps16
    go_wp2
    go_ret2
    exact ⟨rfl, rfl⟩
  · have h2 : ¬ xn < 1 := by omega
    go_enter Tryd.func16, Tryd.ntmps16
    go_wp2
    go_ret2
    exact ⟨rfl, rfl⟩
theorem OwnZ.lit0 (w : World) : OwnZ (w.alloc (.cells #[] 3)) w.heap.size (.slice (some ⟨w.heap.size, 0, none⟩) 0 0) [] :=
  ⟨by simp, .inr ⟨w.heap.size, 0, #[], rfl, Nat.le_refl _, heap_alloc_new w _, Nat.le_refl _, by unfold maxLen; omega, by simp, by simp⟩⟩
/-- A list of one's own, and another one behind it. -/
theorem app_zs {w : World} {ops : Array Oper} {rest : List Oper} {o : Oper} {a : Act} {Q : Exit → Act → World → Prop} (hgd : o.guard = none) (s x : Operand)
    (ho : o.op = .call { callee := .builtin .append, args := #[s, x], argTypes := #[22, 22] }) (base : Nat) (v u : Value) (ys zs : List Int) (hs : a.eval s = v) (hown : OwnZ w base v ys) (hx : a.eval x = u) (hu : IsInts w u zs) (hn : NilOk u)
    (hsm : ys.length + zs.length ≤ 17592186044416) (hbase : base ≤ w.heap.size)
    (h : ∀ v' w', OwnZ w' base v' (ys ++ zs) → (∀ w0 : World, Below w0.heap.size w0 w → w0.heap.size ≤ base → Below w0.heap.size w0 w') → wpList Tryd.prog ops Q rest (a.put o.dst v') w') : wpList Tryd.prog ops Q (o :: rest) a w := by
  obtain ⟨e0, ei, hz0, hz1, hz2⟩ := info_parts infoInt
  obtain ⟨ad, cap, rfl, h2, h3, h4⟩ := hu
  cases ad with
  | none =>
    obtain ⟨q1, q2⟩ := hn _ _ rfl
    obtain rfl : zs = [] := List.eq_nil_of_length_eq_zero q1
    subst q2
    refine wpList_append_own_none hgd s x 22 ho base 3 e0 1 Tryd.underlying22 ei v _ _ hs hown hx ?_
    refine h v w (by rw [List.append_nil]; exact hown) (fun w0 hb _ => hb)
  | some ad =>
    refine wpList_append_own w hgd s x 22 ho base 3 e0 (.int .i64 0) 1 8 Tryd.underlying22 ei hz0 hz1 hz2 rfl (by decide) v _ _ hs hown ad zs.length cap (zs.map (Value.int .i64)) hx (by simp) ?_ ?_ (by unfold maxLen; omega) (by omega) hbase ?_
    · intro j u' hj
      rcases h4 with rfl | ⟨b, off, e, hc⟩
      · simp at hj
      · obtain rfl := Option.some.inj e
        rw [List.getElem?_map] at hj
        cases hz : zs[j]? with
        | none => rw [hz] at hj; cases hj
        | some y =>
          rw [hz] at hj
          obtain rfl : u' = .int .i64 y := (Option.some.inj hj).symm
          rw [Addr.add_lit]
          exact hc j y hz
    · intro u' hu'
      obtain ⟨y, _, rfl⟩ := List.mem_map.1 hu'
      rfl
    · intro v' w' ho' hg _
      refine h v' w' ?_ (fun w0 hb hle => hb.grown hg hb.size (fun k hk => Nat.le_trans hle (World.ownsRow.lt hown k hk).1))
      unfold OwnZ
      rw [List.length_append, List.map_append]
      exact ho'
set_option maxHeartbeats 4000000 in
set_option maxRecDepth 100000 in
theorem clone_any (v : Value) (zs : List Int) (w : World) (hv : IsInts w v zs) (hn : NilOk v) (hl : zs.length ≤ 17592186044416) : Calls Tryd.prog 33 #[v] w fun e w' => ∃ s, e = .returned s ∧ OwnZ w' w.heap.size s zs ∧ Below w.heap.size w w' := by
  have HV := hide hv
  have HNO := hide hn
  have HLE := hide hl
  obtain ⟨a, cap, rfl, _, _, _⟩ := hv
  obtain ⟨n, hnn⟩ : ∃ n, zs.length = n := ⟨_, rfl⟩
  have HN := hide hnn
  rw [hnn] at HV HNO ⊢
  cases a with
  | none =>
    obtain ⟨q1, q2⟩ := HNO.out _ _ rfl
    subst q1 q2
    have hz : zs = [] := List.eq_nil_of_length_eq_zero hnn
    subst hz
    have heq := Lib.run_eql_slice_nil (P := Tryd.prog) w 22 3 none 0 0 0 0 Tryd.underlying22
    clear hn hl hnn HN
    go_enter Tryd.func33, Tryd.ntmps33
    go_wp2
    go_ret
    exact ⟨_, rfl, OwnZ.nil _ _, Below.refl _ _⟩
  | some ad =>
    have HO := hide (OwnZ.lit0 w)
    have HB := hide (below_one w (.cells #[] 3))
    have heq := Lib.run_eql_slice_nil (P := Tryd.prog) w 22 3 (some ad) n cap 0 0 Tryd.underlying22
    clear hn hl hnn
    go_enter Tryd.func33, Tryd.ntmps33
    go_wp2_with (at_builtin; refine app_zs (w := w.alloc (.cells #[] 3)) rfl _ _ rfl w.heap.size (.slice (some ⟨w.heap.size, 0, none⟩) 0 0) (.slice (some ad) n cap) [] zs rfl HO.out rfl (HV.out.below HB.out) HNO.out ?h1 ?h2 ?_)
    case h1 => have := HLE.out; simp; omega
    case h2 => exact HB.out.size
    intro v' w' ho hb
    have HO2 := hide (show OwnZ w' w.heap.size v' zs from ho)
    have HB2 := hide (hb w HB.out (Nat.le_refl _))
    clear ho hb
    go_wp2
    exact bodyPost_ret (v := v') (by simp [results, Tryd.results33, go_sem]) rfl ⟨_, rfl, HO2.out, HB2.out⟩
end Go.Proofs.YtgedldbkghkahahDoor
