/- What Take of a box of package mail does, whatever its queue's take does. -/
import Derived.Test.YtgedldbkghkahahDoorMbE
namespace Go.Proofs.YtgedldbkghkahahDoor
open Go.RowKit Go.Conc
set_option maxHeartbeats 4000000 in
set_option maxRecDepth 100000 in
theorem mtake_q (F : Value → Prop) (P : Nat → Prop) (B C n : Nat) (cl : Bool) (ms : List (Int × Int × Mx)) (E : Value) (k mi : Int) (b : Mx) (w : World) (hC : C < w.heap.size) (hP : ∀ b, P b → b < w.heap.size)
    (hc : ∀ W, Below w.heap.size w W → Calls Tryd.prog 35 #[.pointer (some ⟨B, 0, none⟩)] W fun e w' => ∃ u, e = .returned (.tuple #[u, E]) ∧ F u ∧ InQ w' P u (k, mi, b) ∧ BoxIs w' P B C n cl ms ∧ Kept (fun b => b = C) W w') :
    Calls Tryd.prog 18 #[.pointer (some ⟨B, 0, none⟩)] w fun e w' => ∃ u, e = .returned (.tuple #[u, E]) ∧ F u ∧ InQ w' P u (k, mi, b) ∧ BoxIs w' P B C n cl ms ∧ Kept (fun b => b = C) w w' := by
  have HB0 := hide (below_one w (.cells #[.int .i64 0, .int .i64 0, .int .i64 0, .int .i64 0, .slice none 0 0] 26))
  have HX := hide (hc _ HB0.out)
  have HBK := hide (Blk5.new w (.int .i64 0) (.int .i64 0) (.int .i64 0) (.int .i64 0) (.slice none 0 0))
  have HPW := hide hP
  have HCW := hide hC
  clear hc hP hC
  go_enter Tryd.func18, Tryd.ntmps18
  go_wp2_with fail
  refine HX.out.mono ?_
  rintro e w1 ⟨u, rfl, hfu, hm, hb, hk⟩
  obtain ⟨sa, sn, sc, rfl⟩ := hm.isMsg.shape
  dsimp only at hm ⊢
  obtain ⟨r, hr⟩ : ∃ r, b.rows = r := ⟨_, rfl⟩
  obtain ⟨c, hc⟩ : ∃ c, b.cols = c := ⟨_, rfl⟩
  rw [hr, hc] at hm hfu ⊢
  have HFU := hide hfu
  have HM := hide hm
  have HBX := hide hb
  have HK := hide hk
  have hbk := (hk.block w.heap.size HBK.out.lt (fun e => by have := HCW.out; omega)).trans HBK.out
  have hbk2 : Blk5 w1 w.heap.size (.int .i64 0) (.int .i64 0) (.int .i64 0) (.int .i64 0) (.slice none 0 0) := hbk
  obtain ⟨q0, q1, q2, q3, q4⟩ := hbk2.c
  have f0 := hbk2.f 0
  have f1 := hbk2.f 1
  have f2 := hbk2.f 2
  have f3 := hbk2.f 3
  have f4 := hbk2.f 4
  clear hm hb hk hfu hbk hbk2 hr hc
  go_wp2
  have hk5 := keep_five w1 w1 (Below.refl _ _) w.heap.size (.int .i64 k) (.int .i64 mi) (.int .i64 r) (.int .i64 c) (.slice sa sn sc)
  have hRP : ∀ b, P b → b ≠ w.heap.size := fun b hb e => by have := HPW.out b hb; omega
  refine bodyPost_ret (v := .tuple #[.agg #[.int .i64 k, .int .i64 mi, .int .i64 r, .int .i64 c, .slice sa sn sc], E]) (by simp [results, Tryd.results18, go_sem, q0, q1, q2, q3, q4]) rfl ⟨_, rfl, HFU.out, ?_, HBX.out.keep hk5 hRP, ((Kept.of HB0.out).trans HK.out (fun _ _ e => e)).trans hk5 (fun b hb e => absurd e (by omega))⟩
  exact HM.out.keep hk5 hRP
theorem mtake_of (P : Nat → Prop) (B C n : Nat) (cl : Bool) (ms : List (Int × Int × Mx)) (E : Value) (k mi : Int) (b : Mx) (w : World) (hC : C < w.heap.size) (hP : ∀ b, P b → b < w.heap.size)
    (hc : ∀ W, Below w.heap.size w W → Calls Tryd.prog 35 #[.pointer (some ⟨B, 0, none⟩)] W fun e w' => ∃ u, e = .returned (.tuple #[u, E]) ∧ InQ w' P u (k, mi, b) ∧ BoxIs w' P B C n cl ms ∧ Kept (fun b => b = C) W w') :
    Calls Tryd.prog 18 #[.pointer (some ⟨B, 0, none⟩)] w fun e w' => ∃ u, e = .returned (.tuple #[u, E]) ∧ IsMsg w' u k mi b ∧ BoxIs w' P B C n cl ms ∧ Kept (fun b => b = C) w w' := by
  refine (mtake_q (fun _ => True) P B C n cl ms E k mi b w hC hP (fun W hW => (hc W hW).mono ?_)).mono ?_
  · rintro e w' ⟨u, h1, h2⟩
    exact ⟨u, h1, trivial, h2⟩
  · rintro e w' ⟨u, h1, _, h2, h3⟩
    exact ⟨u, h1, h2.isMsg, h3⟩
/-- What Put says. -/
def putE (cl : Bool) (n : Nat) (ms : List (Int × Int × Mx)) : Int := if cl = true then 5 else if ms.length = n then 3 else 0
def putX (cl : Bool) (n : Nat) (ms : List (Int × Int × Mx)) (m : Int × Int × Mx) : List (Int × Int × Mx) := if putE cl n ms = 0 then ms ++ [m] else ms
theorem mput_any (P : Nat → Prop) (B C n : Nat) (cl : Bool) (ms : List (Int × Int × Mx)) (m : Int × Int × Mx) (v : Value) (w : World) (h : BoxIs w P B C n cl ms) (hv : IsMsg w v m.1 m.2.1 m.2.2) (hno : ∀ a0 a1 a2 a3 s, v = .agg #[a0, a1, a2, a3, s] → NilOk s) (hl : m.2.2.cells.length ≤ 17592186044416) :
    Calls Tryd.prog 17 #[.pointer (some ⟨B, 0, none⟩), v] w fun e w' => e = .returned (errV (putE cl n ms)) ∧ (∃ P', BoxIs w' P' B C n cl (putX cl n ms m) ∧ ∀ b, P' b → P b ∨ w.heap.size ≤ b) ∧ Kept (fun b => b = C) w w' := by
  cases cl with
  | true =>
    have e1 : putE true n ms = 5 := by unfold putE; rw [if_pos rfl]
    rw [e1, err_ne (by decide)]
    refine (mput_shut P B C n ms m v w h hv hno hl).mono ?_
    rintro e w' ⟨rfl, h1, h2⟩
    exact ⟨rfl, ⟨P, by unfold putX; rw [e1, if_neg (by decide)]; exact h1, fun _ e => .inl e⟩, h2⟩
  | false =>
    by_cases c : ms.length = n
    · have e1 : putE false n ms = 3 := by unfold putE; rw [if_neg (by decide), if_pos c]
      rw [e1, err_ne (by decide)]
      refine (mput_full P B C n ms m v w h hv hno hl (Nat.le_of_eq c.symm)).mono ?_
      rintro e w' ⟨rfl, h1, h2⟩
      exact ⟨rfl, ⟨P, by unfold putX; rw [e1, if_neg (by decide)]; exact h1, fun _ e => .inl e⟩, h2⟩
    · have e1 : putE false n ms = 0 := by unfold putE; rw [if_neg (by decide), if_neg c]
      rw [e1, err_eq rfl]
      refine (mput_room P B C n ms m v w h hv hno hl (by have := h.le; omega)).mono ?_
      rintro e w' ⟨rfl, P', h1, h2, h3⟩
      exact ⟨rfl, ⟨P', by unfold putX; rw [e1, if_pos rfl]; exact h1, h2⟩, h3⟩
end Go.Proofs.YtgedldbkghkahahDoor
