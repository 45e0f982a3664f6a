/- What Put and Take of a box of package mail do: a copy goes in, the first one comes out. -/
import Derived.Test.YtgedldbkghkahahDoorMbD
namespace Go.Proofs.YtgedldbkghkahahDoor
open Go.RowKit Go.Conc
theorem OwnZ.blk {w : World} {base : Nat} {v : Value} {zs : List Int} (h : OwnZ w base v zs) : ∀ a n c, v = .slice (some a) n c → base ≤ a.block ∧ a.block < w.heap.size := fun a n c e => by
  have := World.ownsRow.lt h a.block (by rw [e]; rfl)
  exact this
set_option maxHeartbeats 4000000 in
set_option maxRecDepth 100000 in
theorem mput_room (P : Nat → Prop) (B C n : Nat) (ms : List (Int × Int × Mx)) (m : Int × Int × Mx) (v : Value) (w : World) (h : BoxIs w P B C n false ms) (hv : IsMsg w v m.1 m.2.1 m.2.2) (hno : ∀ a0 a1 a2 a3 s, v = .agg #[a0, a1, a2, a3, s] → NilOk s) (hl : m.2.2.cells.length ≤ 17592186044416) (hroom : ms.length < n) :
    Calls Tryd.prog 17 #[.pointer (some ⟨B, 0, none⟩), v] w fun e w' => e = .returned (.nilIface) ∧ ∃ P', BoxIs w' P' B C n false (ms ++ [m]) ∧ (∀ b, P' b → P b ∨ w.heap.size ≤ b) ∧ Kept (fun b => b = C) w w' := by
  obtain ⟨x1, x2, b⟩ := m
  obtain ⟨s0, rfl, hs0⟩ := hv
  have hn0 := hno _ _ _ _ _ rfl
  dsimp only at hs0 hl hn0 ⊢
  obtain ⟨r, hr⟩ : ∃ r, b.rows = r := ⟨_, rfl⟩
  obtain ⟨c, hc⟩ : ∃ c, b.cols = c := ⟨_, rfl⟩
  obtain ⟨sa, sc, rfl, hs2⟩ := id hs0
  obtain ⟨sn, hsn⟩ : ∃ x, b.cells.length = x := ⟨_, rfl⟩
  rw [hsn] at hs0 hn0 ⊢
  rw [hr, hc]
  have HRC := hide (And.intro hr hc)
  have HB0 := hide (below_one w (.cells #[.int .i64 x1, .int .i64 x2, .int .i64 r, .int .i64 c, .slice sa sn sc] 26))
  have HBK := hide (Blk5.new w (.int .i64 x1) (.int .i64 x2) (.int .i64 r) (.int .i64 c) (.slice sa sn sc))
  have HCL := hide (clone_any (.slice sa sn sc) b.cells (w.alloc (.cells #[.int .i64 x1, .int .i64 x2, .int .i64 r, .int .i64 c, .slice sa sn sc] 26)) (hs0.below HB0.out) hn0 hl)
  have HH := hide h
  have HCO := hide hroom
  clear h hs0 hs2 hn0 hl hno hr hc hsn hroom
  go_enter Tryd.func17, Tryd.ntmps17
  go_wp2_with fail
  refine HCL.out.mono ?_
  rintro e w1 ⟨s1, rfl, ho1, hb1⟩
  have HO1 := hide ho1
  have HB1 := hide hb1
  have hbx := HBK.out.bel hb1 HBK.out.lt
  have HBK1 := hide hbx
  obtain ⟨q0, q1, q2, q3, q4⟩ := hbx.c
  have f4 := hbx.f 4
  obtain ⟨ya, yc, hye⟩ := ho1.shape
  obtain ⟨yn, hyn⟩ : ∃ x, b.cells.length = x := ⟨_, rfl⟩
  rw [hyn] at hye
  subst hye
  clear ho1 hb1 hbx hyn
  go_wp2_with fail
  obtain ⟨V2, hV2⟩ : ∃ x, x = w1.setCell ⟨w.heap.size, 4, none⟩ (.slice ya yn yc) := ⟨_, rfl⟩
  rw [← hV2]
  have HB3 := hide (show Below w.heap.size w V2.drew from bel_on (by rw [hV2]; exact Below.setCell (bel_on HB0.out HB1.out) (by exact Nat.le_refl _) _ : Below w.heap.size w V2) (below_drewN _ 1))
  have HBK2 := hide (show Blk5 V2.drew w.heap.size (.int .i64 x1) (.int .i64 x2) (.int .i64 r) (.int .i64 c) (.slice ya yn yc) by rw [hV2]; exact HBK1.out.set4 (.slice ya yn yc))
  have HSZ := hide (show w1.heap.size = V2.drew.heap.size by rw [hV2]; exact (World.size_setCell w1 _ _).symm)
  have HBX := hide (HH.out.keep (Kept.of (X := fun _ => False) HB3.out) (fun _ _ e => e))
  obtain ⟨Pv, hPv⟩ : ∃ Pv : Nat → Prop, Pv = fun b => (w.alloc (.cells #[.int .i64 x1, .int .i64 x2, .int .i64 r, .int .i64 c, .slice sa sn sc] 26)).heap.size ≤ b ∧ b < V2.drew.heap.size := ⟨_, rfl⟩
  have hIS : IsInts V2.drew (.slice ya yn yc) b.cells := by
    rw [hV2]
    have hz : OwnZ (w1.setCell ⟨w.heap.size, 4, none⟩ (.slice ya yn yc)) (w.alloc (.cells #[.int .i64 x1, .int .i64 x2, .int .i64 r, .int .i64 c, .slice sa sn sc] 26)).heap.size (.slice ya yn yc) b.cells := World.ownsRow.kept (row := some w.heap.size) HO1.out (grw_set _ _ _ _) (.inr (fun e => by have h1 := (World.ownsRow.lt HO1.out _ e).1; rw [World.size_alloc] at h1; omega))
    exact hz.isInts.below (below_drewN _ 1)
  have HIQ := hide (show InQ V2.drew Pv (.agg #[.int .i64 x1, .int .i64 x2, .int .i64 r, .int .i64 c, .slice ya yn yc]) (x1, x2, b) from ⟨_, by rw [HRC.out.1, HRC.out.2], hIS, .inr fun a n c e => by rw [hPv]; have := HO1.out.blk a n c e; rw [← HSZ.out]; exact this⟩)
  have HPL := hide (show ∀ b, Pv b → b < V2.drew.heap.size from fun b hb => by rw [hPv] at hb; exact hb.2)
  have HPC := hide (show ¬ Pv C from fun hb => by rw [hPv] at hb; have h1 := HH.out.lt C HH.out.pC; have h2 := hb.1; rw [World.size_alloc] at h2; omega)
  have HPW := hide (show ∀ b, Pv b → w.heap.size ≤ b from fun b hb => by rw [hPv] at hb; have h2 := hb.1; rw [World.size_alloc] at h2; omega)
  have HX := hide (qput_room P Pv B C n ms (x1, x2, b) _ _ HBX.out HIQ.out HPL.out HPC.out HCO.out)
  obtain ⟨r0, r1, r2, r3, r4⟩ := HBK2.out.c
  clear q0 q1 q2 q3 q4 f4 hV2 hIS HCL hPv
  go_region_with (go_at_call 34; refine HX.out.mono ?_; rintro e w3 ⟨rfl, hq, hk⟩)
  go_wp2
  go_ret
  exact ⟨rfl, _, hq, fun b hb => hb.imp id (fun e => by exact HPW.out b e), (Kept.of HB3.out).trans hk (fun _ _ e => e)⟩
set_option maxHeartbeats 4000000 in
set_option maxRecDepth 100000 in
theorem mput_full (P : Nat → Prop) (B C n : Nat) (ms : List (Int × Int × Mx)) (m : Int × Int × Mx) (v : Value) (w : World) (h : BoxIs w P B C n false ms) (hv : IsMsg w v m.1 m.2.1 m.2.2) (hno : ∀ a0 a1 a2 a3 s, v = .agg #[a0, a1, a2, a3, s] → NilOk s) (hl : m.2.2.cells.length ≤ 17592186044416) (hroom : n ≤ ms.length) :
    Calls Tryd.prog 17 #[.pointer (some ⟨B, 0, none⟩), v] w fun e w' => e = .returned (.iface 32 (.int .i64 3)) ∧ BoxIs w' P B C n false ms ∧ Kept (fun b => b = C) w w' := by
  obtain ⟨x1, x2, b⟩ := m
  obtain ⟨s0, rfl, hs0⟩ := hv
  have hn0 := hno _ _ _ _ _ rfl
  dsimp only at hs0 hl hn0 ⊢
  obtain ⟨r, hr⟩ : ∃ r, b.rows = r := ⟨_, rfl⟩
  obtain ⟨c, hc⟩ : ∃ c, b.cols = c := ⟨_, rfl⟩
  obtain ⟨sa, sc, rfl, hs2⟩ := id hs0
  obtain ⟨sn, hsn⟩ : ∃ x, b.cells.length = x := ⟨_, rfl⟩
  rw [hsn] at hs0 hn0 ⊢
  rw [hr, hc]
  have HRC := hide (And.intro hr hc)
  have HB0 := hide (below_one w (.cells #[.int .i64 x1, .int .i64 x2, .int .i64 r, .int .i64 c, .slice sa sn sc] 26))
  have HBK := hide (Blk5.new w (.int .i64 x1) (.int .i64 x2) (.int .i64 r) (.int .i64 c) (.slice sa sn sc))
  have HCL := hide (clone_any (.slice sa sn sc) b.cells (w.alloc (.cells #[.int .i64 x1, .int .i64 x2, .int .i64 r, .int .i64 c, .slice sa sn sc] 26)) (hs0.below HB0.out) hn0 hl)
  have HH := hide h
  have HCO := hide hroom
  clear h hs0 hs2 hn0 hl hno hr hc hsn hroom
  go_enter Tryd.func17, Tryd.ntmps17
  go_wp2_with fail
  refine HCL.out.mono ?_
  rintro e w1 ⟨s1, rfl, ho1, hb1⟩
  have HO1 := hide ho1
  have HB1 := hide hb1
  have hbx := HBK.out.bel hb1 HBK.out.lt
  have HBK1 := hide hbx
  obtain ⟨q0, q1, q2, q3, q4⟩ := hbx.c
  have f4 := hbx.f 4
  obtain ⟨ya, yc, hye⟩ := ho1.shape
  obtain ⟨yn, hyn⟩ : ∃ x, b.cells.length = x := ⟨_, rfl⟩
  rw [hyn] at hye
  subst hye
  clear ho1 hb1 hbx hyn
  go_wp2_with fail
  obtain ⟨V2, hV2⟩ : ∃ x, x = w1.setCell ⟨w.heap.size, 4, none⟩ (.slice ya yn yc) := ⟨_, rfl⟩
  rw [← hV2]
  have HB3 := hide (show Below w.heap.size w V2.drew from bel_on (by rw [hV2]; exact Below.setCell (bel_on HB0.out HB1.out) (by exact Nat.le_refl _) _ : Below w.heap.size w V2) (below_drewN _ 1))
  have HBK2 := hide (show Blk5 V2.drew w.heap.size (.int .i64 x1) (.int .i64 x2) (.int .i64 r) (.int .i64 c) (.slice ya yn yc) by rw [hV2]; exact HBK1.out.set4 (.slice ya yn yc))
  have HSZ := hide (show w1.heap.size = V2.drew.heap.size by rw [hV2]; exact (World.size_setCell w1 _ _).symm)
  have HBX := hide (HH.out.keep (Kept.of (X := fun _ => False) HB3.out) (fun _ _ e => e))
  obtain ⟨Pv, hPv⟩ : ∃ Pv : Nat → Prop, Pv = fun b => (w.alloc (.cells #[.int .i64 x1, .int .i64 x2, .int .i64 r, .int .i64 c, .slice sa sn sc] 26)).heap.size ≤ b ∧ b < V2.drew.heap.size := ⟨_, rfl⟩
  have hIS : IsInts V2.drew (.slice ya yn yc) b.cells := by
    rw [hV2]
    have hz : OwnZ (w1.setCell ⟨w.heap.size, 4, none⟩ (.slice ya yn yc)) (w.alloc (.cells #[.int .i64 x1, .int .i64 x2, .int .i64 r, .int .i64 c, .slice sa sn sc] 26)).heap.size (.slice ya yn yc) b.cells := World.ownsRow.kept (row := some w.heap.size) HO1.out (grw_set _ _ _ _) (.inr (fun e => by have h1 := (World.ownsRow.lt HO1.out _ e).1; rw [World.size_alloc] at h1; omega))
    exact hz.isInts.below (below_drewN _ 1)
  have HIQ := hide (show InQ V2.drew Pv (.agg #[.int .i64 x1, .int .i64 x2, .int .i64 r, .int .i64 c, .slice ya yn yc]) (x1, x2, b) from ⟨_, by rw [HRC.out.1, HRC.out.2], hIS, .inr fun a n c e => by rw [hPv]; have := HO1.out.blk a n c e; rw [← HSZ.out]; exact this⟩)
  have HPL := hide (show ∀ b, Pv b → b < V2.drew.heap.size from fun b hb => by rw [hPv] at hb; exact hb.2)
  have HPC := hide (show ¬ Pv C from fun hb => by rw [hPv] at hb; have h1 := HH.out.lt C HH.out.pC; have h2 := hb.1; rw [World.size_alloc] at h2; omega)
  have HPW := hide (show ∀ b, Pv b → w.heap.size ≤ b from fun b hb => by rw [hPv] at hb; have h2 := hb.1; rw [World.size_alloc] at h2; omega)
  have HX := hide (qput_full P Pv B C n ms (x1, x2, b) _ _ HBX.out HIQ.out HCO.out)
  obtain ⟨r0, r1, r2, r3, r4⟩ := HBK2.out.c
  clear q0 q1 q2 q3 q4 f4 hV2 hIS HCL hPv
  go_region_with (go_at_call 34; refine HX.out.mono ?_; rintro e w3 ⟨rfl, hk⟩)
  go_wp2
  go_ret
  exact ⟨rfl, HBX.out.keep (Kept.of (X := fun _ => False) hk) (fun _ _ e => e), Kept.of (bel_on HB3.out hk)⟩
set_option maxHeartbeats 4000000 in
set_option maxRecDepth 100000 in
theorem mput_shut (P : Nat → Prop) (B C n : Nat) (ms : List (Int × Int × Mx)) (m : Int × Int × Mx) (v : Value) (w : World) (h : BoxIs w P B C n true ms) (hv : IsMsg w v m.1 m.2.1 m.2.2) (hno : ∀ a0 a1 a2 a3 s, v = .agg #[a0, a1, a2, a3, s] → NilOk s) (hl : m.2.2.cells.length ≤ 17592186044416) :
    Calls Tryd.prog 17 #[.pointer (some ⟨B, 0, none⟩), v] w fun e w' => e = .returned (.iface 32 (.int .i64 5)) ∧ BoxIs w' P B C n true ms ∧ Kept (fun b => b = C) w w' := by
  obtain ⟨x1, x2, b⟩ := m
  obtain ⟨s0, rfl, hs0⟩ := hv
  have hn0 := hno _ _ _ _ _ rfl
  dsimp only at hs0 hl hn0 ⊢
  obtain ⟨r, hr⟩ : ∃ r, b.rows = r := ⟨_, rfl⟩
  obtain ⟨c, hc⟩ : ∃ c, b.cols = c := ⟨_, rfl⟩
  obtain ⟨sa, sc, rfl, hs2⟩ := id hs0
  obtain ⟨sn, hsn⟩ : ∃ x, b.cells.length = x := ⟨_, rfl⟩
  rw [hsn] at hs0 hn0 ⊢
  rw [hr, hc]
  have HRC := hide (And.intro hr hc)
  have HB0 := hide (below_one w (.cells #[.int .i64 x1, .int .i64 x2, .int .i64 r, .int .i64 c, .slice sa sn sc] 26))
  have HBK := hide (Blk5.new w (.int .i64 x1) (.int .i64 x2) (.int .i64 r) (.int .i64 c) (.slice sa sn sc))
  have HCL := hide (clone_any (.slice sa sn sc) b.cells (w.alloc (.cells #[.int .i64 x1, .int .i64 x2, .int .i64 r, .int .i64 c, .slice sa sn sc] 26)) (hs0.below HB0.out) hn0 hl)
  have HH := hide h
  clear h hs0 hs2 hn0 hl hno hr hc hsn
  go_enter Tryd.func17, Tryd.ntmps17
  go_wp2_with fail
  refine HCL.out.mono ?_
  rintro e w1 ⟨s1, rfl, ho1, hb1⟩
  have HO1 := hide ho1
  have HB1 := hide hb1
  have hbx := HBK.out.bel hb1 HBK.out.lt
  have HBK1 := hide hbx
  obtain ⟨q0, q1, q2, q3, q4⟩ := hbx.c
  have f4 := hbx.f 4
  obtain ⟨ya, yc, hye⟩ := ho1.shape
  obtain ⟨yn, hyn⟩ : ∃ x, b.cells.length = x := ⟨_, rfl⟩
  rw [hyn] at hye
  subst hye
  clear ho1 hb1 hbx hyn
  go_wp2_with fail
  obtain ⟨V2, hV2⟩ : ∃ x, x = w1.setCell ⟨w.heap.size, 4, none⟩ (.slice ya yn yc) := ⟨_, rfl⟩
  rw [← hV2]
  have HB3 := hide (show Below w.heap.size w V2.drew from bel_on (by rw [hV2]; exact Below.setCell (bel_on HB0.out HB1.out) (by exact Nat.le_refl _) _ : Below w.heap.size w V2) (below_drewN _ 1))
  have HBK2 := hide (show Blk5 V2.drew w.heap.size (.int .i64 x1) (.int .i64 x2) (.int .i64 r) (.int .i64 c) (.slice ya yn yc) by rw [hV2]; exact HBK1.out.set4 (.slice ya yn yc))
  have HSZ := hide (show w1.heap.size = V2.drew.heap.size by rw [hV2]; exact (World.size_setCell w1 _ _).symm)
  have HBX := hide (HH.out.keep (Kept.of (X := fun _ => False) HB3.out) (fun _ _ e => e))
  obtain ⟨Pv, hPv⟩ : ∃ Pv : Nat → Prop, Pv = fun b => (w.alloc (.cells #[.int .i64 x1, .int .i64 x2, .int .i64 r, .int .i64 c, .slice sa sn sc] 26)).heap.size ≤ b ∧ b < V2.drew.heap.size := ⟨_, rfl⟩
  have hIS : IsInts V2.drew (.slice ya yn yc) b.cells := by
    rw [hV2]
    have hz : OwnZ (w1.setCell ⟨w.heap.size, 4, none⟩ (.slice ya yn yc)) (w.alloc (.cells #[.int .i64 x1, .int .i64 x2, .int .i64 r, .int .i64 c, .slice sa sn sc] 26)).heap.size (.slice ya yn yc) b.cells := World.ownsRow.kept (row := some w.heap.size) HO1.out (grw_set _ _ _ _) (.inr (fun e => by have h1 := (World.ownsRow.lt HO1.out _ e).1; rw [World.size_alloc] at h1; omega))
    exact hz.isInts.below (below_drewN _ 1)
  have HIQ := hide (show InQ V2.drew Pv (.agg #[.int .i64 x1, .int .i64 x2, .int .i64 r, .int .i64 c, .slice ya yn yc]) (x1, x2, b) from ⟨_, by rw [HRC.out.1, HRC.out.2], hIS, .inr fun a n c e => by rw [hPv]; have := HO1.out.blk a n c e; rw [← HSZ.out]; exact this⟩)
  have HPL := hide (show ∀ b, Pv b → b < V2.drew.heap.size from fun b hb => by rw [hPv] at hb; exact hb.2)
  have HPC := hide (show ¬ Pv C from fun hb => by rw [hPv] at hb; have h1 := HH.out.lt C HH.out.pC; have h2 := hb.1; rw [World.size_alloc] at h2; omega)
  have HPW := hide (show ∀ b, Pv b → w.heap.size ≤ b from fun b hb => by rw [hPv] at hb; have h2 := hb.1; rw [World.size_alloc] at h2; omega)
  have HX := hide (qput_shut P Pv B C n ms (x1, x2, b) _ _ HBX.out HIQ.out)
  obtain ⟨r0, r1, r2, r3, r4⟩ := HBK2.out.c
  clear q0 q1 q2 q3 q4 f4 hV2 hIS HCL hPv
  go_region_with (go_at_call 34; refine HX.out.mono ?_; rintro e w3 ⟨rfl, hk⟩)
  go_wp2
  go_ret
  exact ⟨rfl, HBX.out.keep (Kept.of (X := fun _ => False) hk) (fun _ _ e => e), Kept.of (bel_on HB3.out hk)⟩
end Go.Proofs.YtgedldbkghkahahDoor
