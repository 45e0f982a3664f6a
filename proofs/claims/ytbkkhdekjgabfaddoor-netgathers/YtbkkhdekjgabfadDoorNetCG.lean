/- What Zero of package net comes to: noughts for each layer. Condition: the room that any slice that comes in may have. -/
import Derived.Test.YtbkkhdekjgabfadDoorNetC2
import Derived.Test.YtbkkhdekjgabfadDoorNetB
namespace Go.Proofs.YtbkkhdekjgabfadDoor
open Go.RowKit
theorem run_mkI (n : Nat) (hn : n ≤ 17592186043904) (W : World) : (Instr.makeSlice 23 (.int .i64 (n : Int)) (.int .i64 (n : Int))).run Tryd.prog W = .ok (.slice (some ⟨W.heap.size, 0, none⟩) n n) (W.alloc (.cells (zeros n) 3)) := by
  obtain ⟨i0, hi, hz0, hz1, hz2⟩ := info_parts infoInt
  have hr := run_make (P := Tryd.prog) W 23 3 i0 (.int .i64 0) Tryd.underlying23 hi hz0 .i64 .i64 (n : Int) (n : Int) (by omega) (Int.le_refl _) (by rw [hz2]; omega) (by omega)
  simpa [zeros, hz1, Value.cells] using hr
set_option maxHeartbeats 2000000 in
set_option maxRecDepth 100000 in
theorem zeros_any (v : Value) (m : Mx) (w : World) (hv : IsMx w v m) (hn : m.cells.length ≤ 17592186043904) : Calls Tryd.prog 37 #[v] w fun e w' => ∃ s, e = .returned (.agg #[.int .i64 m.rows, .int .i64 m.cols, s]) ∧ IsInts w' s (zeroM m).cells ∧ Below w.heap.size w w' ∧ Fresh w.heap.size (.agg #[.int .i64 m.rows, .int .i64 m.cols, s]) := by
  obtain ⟨s, rfl, hs⟩ := hv
  obtain ⟨za, zk, rfl, _, _, _⟩ := id hs
  obtain ⟨n, hnn⟩ : ∃ n, m.cells.length = n := ⟨_, rfl⟩
  rw [hnn] at hn ⊢
  have HNN := hide hnn
  have hmk := run_mkI n hn
  obtain ⟨r, er⟩ : ∃ r, m.rows = r := ⟨_, rfl⟩
  obtain ⟨c, ec⟩ : ∃ r, m.cols = r := ⟨_, rfl⟩
  rw [er, ec]
  have HR := hide (And.intro er ec)
  have HSB : Hid (∀ W', Below (w.alloc (.cells #[.int .i64 r, .int .i64 c, .slice za n zk] 25)).heap.size (w.alloc (.cells #[.int .i64 r, .int .i64 c, .slice za n zk] 25)) W' → (fun W' => W'.cell? ⟨w.heap.size, 0, none⟩ = some (.int .i64 r) ∧ W'.cell? ⟨w.heap.size, 1, none⟩ = some (.int .i64 c) ∧ W'.cell? ⟨w.heap.size, 2, none⟩ = some (.slice za n zk)) W') := hide (fun W' h => have hx := (Box.new w [.int .i64 r, .int .i64 c, .slice za n zk] 25 rfl).below h; ⟨hx 0 _ rfl, hx 1 _ rfl, hx 2 _ rfl⟩)
  clear hs hnn er ec
  go_enter Tryd.func37, Tryd.ntmps37
  go_wp2
  go_region_held3 (fun W' => W'.cell? ⟨w.heap.size, 0, none⟩ = some (.int .i64 r) ∧ W'.cell? ⟨w.heap.size, 1, none⟩ = some (.int .i64 c) ∧ W'.cell? ⟨w.heap.size, 2, none⟩ = some (.slice za n zk)) ((refine HSB.out _ ?_; repeat' (first | with_reducible exact Below.refl _ _ | with_reducible refine bel_drew ?_ | with_reducible refine bel_alloc ?_ | with_reducible refine bel_set ?_ ?_ | exact Nat.le_refl _ | exact Nat.le_succ _))) (fail)
  all_goals go_wp2
  have HM := hide (show IsInts (((w.alloc (.cells #[.int .i64 r, .int .i64 c, .slice za n zk] 25)).alloc (.cells #[.int .i64 r, .int .i64 c, .slice (some ⟨w.heap.size + 1 + 1, 0, none⟩) n n] 25)).alloc (.cells (zeros n) 3)).drew (.slice (some ⟨w.heap.size + 1 + 1, 0, none⟩) n n) (zeroM m).cells by
    have h := RowAt.isTab (e := 3) (RowAt.drew (zeros_row ((w.alloc (.cells #[.int .i64 r, .int .i64 c, .slice za n zk] 25)).alloc (.cells #[.int .i64 r, .int .i64 c, .slice (some ⟨w.heap.size + 1 + 1, 0, none⟩) n n] 25)) n)) (by unfold maxLen; omega)
    rw [World.size_alloc, World.size_alloc] at h
    unfold zeroM
    rw [HNN.out]; exact h)
  exact bodyPost_ret (v := .agg #[.int .i64 r, .int .i64 c, .slice (some ⟨w.heap.size + 1 + 1, 0, none⟩) n n]) (by simp [results, Tryd.results37, go_sem]) rfl ⟨_, rfl, HM.out, bel_drew (bel_alloc (bel_alloc (bel_alloc (Below.refl _ _)))), fresh_at (by omega) _ _ _⟩
/-- Zero: noughts for each layer. -/
theorem zeroD_snoc (ls : List Ly) (l : Ly) : zeroD ls ++ [(zeroM l.w, zeroM l.b)] = zeroD (ls ++ [l]) := by unfold zeroD; simp
set_option maxHeartbeats 8000000 in
set_option maxRecDepth 100000 in
theorem netzero_any (v : Value) (ls : List Ly) (w : World) (hv : IsLys w v ls) (hle : ls.length ≤ 1599289640355) (hz : ∀ l ∈ ls, l.w.cells.length ≤ 17592186043904 ∧ l.b.cells.length ≤ 17592186043904) :
    Calls Tryd.prog 18 #[v] w fun e w' => ∃ u, e = .returned u ∧ IsGds w' u (zeroD ls) ∧ Below w.heap.size w w' := by
  obtain ⟨a, cap, rfl, hlc, hcm⟩ := hv.shape
  have HV := hide hv
  have HZ := hide hz
  obtain ⟨N, hN⟩ : ∃ N, ls.length = N := ⟨_, rfl⟩
  have HN := hide hN
  rw [hN] at HV hle ⊢
  have hmk := run_mkL 57 41 6 80 _ Tryd.underlying41 infoGd (N : Int) N rfl (by omega) (by omega)
  have HO0 := hide (show Owns w.heap.size w.heap.size (w.alloc (.cells (rawCells (.agg #[.int .i64 0, .int .i64 0, .slice none 0 0, .int .i64 0, .int .i64 0, .slice none 0 0]) (N * 6)) 57)) 57 6 (.slice (some ⟨w.heap.size, 0, none⟩) 0 N) 0 [] from
    Owns.room _ (Nat.le_refl _) (by unfold maxLen; omega) (rawCells_size _ _))
  have HLE := hide hle
  obtain ⟨e0, ei, hz0, hz1, hz2⟩ := info_parts infoGd
  have HEI := hide (And.intro ei (And.intro hz0 (And.intro hz1 hz2)))
  have hN63 : (N : Int) ≤ 1599289640355 := by omega
  clear hv hz hN hlc hcm hle ei hz0 hz1 hz2
  go_enter Tryd.func18, Tryd.ntmps18
  go_wp2
  clear hmk
  go_loopw [3, 11] (fun o a wr => ∃ (i : Nat) (xi : Int), i ≤ N ∧ xi = (i : Int) ∧ a = .int .i64 xi ∧ Owns w.heap.size w.heap.size wr 57 6 o i ((zeroD (ls.take i)).flatMap gdS) ∧ Below w.heap.size w wr) (fun _ a _ => N - (intOf a).toNat)
  case atStart => exact ⟨0, 0, Nat.zero_le _, rfl, rfl, by simpa [zeroD] using HO0.out, below_one _ _⟩
  case round =>
    obtain ⟨i, xi, hi, hxi, rfl, how, hb⟩ := hrel
    have HXI := hide hxi
    have HO := hide how
    have HB := hide hb
    have hxi0 : 0 ≤ xi := by omega
    have hxi1 : xi ≤ 1599289640355 := by omega
    clear hxi how hb HO0
    by_cases hlt : xi < (N : Int)
    · have hin : i < N := by have := HXI.out; omega
      have hxn : xi.toNat = i := by have := HXI.out; omega
      obtain ⟨l, hl⟩ : ∃ l, ls[i]? = some l := ⟨ls[i]'(by have := HN.out; omega), List.getElem?_eq_getElem _⟩
      obtain ⟨b, off, cp, sa, sn, sk, ta, tn, tk, ev, k0, k1, k2, k3, k4, k5, k6, hly⟩ := HV.out.at hl
      injection ev with ev1 ev2 ev3
      clear ev2 ev3
      subst ev1
      rw [← hxn] at k0 k1 k2 k3 k4 k5 k6
      replace k0 := cell_below HB.out k0
      replace k1 := cell_below HB.out k1
      replace k2 := cell_below HB.out k2
      replace k3 := cell_below HB.out k3
      replace k4 := cell_below HB.out k4
      replace k5 := cell_below HB.out k5
      replace k6 := cell_below HB.out k6
      obtain ⟨i1, i2⟩ := IsLys.ints hly
      obtain ⟨z1, z2⟩ := HZ.out l (List.mem_of_getElem? hl)
      have HLB := hide (show Box (wr.alloc (.cells #[.int .i64 l.k, .int .i64 l.w.rows, .int .i64 l.w.cols, .slice sa sn sk, .int .i64 l.b.rows, .int .i64 l.b.cols, .slice ta tn tk] 55)) wr.heap.size [.int .i64 l.k, .int .i64 l.w.rows, .int .i64 l.w.cols, .slice sa sn sk, .int .i64 l.b.rows, .int .i64 l.b.cols, .slice ta tn tk] from Box.new _ _ _ rfl)
      have HSB : Hid (∀ W', Below (wr.alloc (.cells #[.int .i64 l.k, .int .i64 l.w.rows, .int .i64 l.w.cols, .slice sa sn sk, .int .i64 l.b.rows, .int .i64 l.b.cols, .slice ta tn tk] 55)).heap.size (wr.alloc (.cells #[.int .i64 l.k, .int .i64 l.w.rows, .int .i64 l.w.cols, .slice sa sn sk, .int .i64 l.b.rows, .int .i64 l.b.cols, .slice ta tn tk] 55)) W' → (fun W' => W'.cell? ⟨wr.heap.size, 1, none⟩ = some (.int .i64 l.w.rows) ∧ W'.cell? ⟨wr.heap.size, 2, none⟩ = some (.int .i64 l.w.cols) ∧ W'.cell? ⟨wr.heap.size, 3, none⟩ = some (.slice sa sn sk) ∧ W'.cell? ⟨wr.heap.size, 4, none⟩ = some (.int .i64 l.b.rows) ∧ W'.cell? ⟨wr.heap.size, 5, none⟩ = some (.int .i64 l.b.cols) ∧ W'.cell? ⟨wr.heap.size, 6, none⟩ = some (.slice ta tn tk)) W') := hide (fun W' h => have hx := HLB.out.below h; ⟨hx 1 _ rfl, hx 2 _ rfl, hx 3 _ rfl, hx 4 _ rfl, hx 5 _ rfl, hx 6 _ rfl⟩)
      have HZ1 := hide (zeros_any (.agg #[.int .i64 l.w.rows, .int .i64 l.w.cols, .slice sa sn sk]) l.w (wr.alloc (.cells #[.int .i64 l.k, .int .i64 l.w.rows, .int .i64 l.w.cols, .slice sa sn sk, .int .i64 l.b.rows, .int .i64 l.b.cols, .slice ta tn tk] 55)).drew ⟨_, rfl, i1.below (bel_drew (bel_alloc HB.out))⟩ z1)
      have HZ2 := hide (fun W (h : Below (wr.alloc (.cells #[.int .i64 l.k, .int .i64 l.w.rows, .int .i64 l.w.cols, .slice sa sn sk, .int .i64 l.b.rows, .int .i64 l.b.cols, .slice ta tn tk] 55)).heap.size (wr.alloc (.cells #[.int .i64 l.k, .int .i64 l.w.rows, .int .i64 l.w.cols, .slice sa sn sk, .int .i64 l.b.rows, .int .i64 l.b.cols, .slice ta tn tk] 55)) W) => zeros_any (.agg #[.int .i64 l.b.rows, .int .i64 l.b.cols, .slice ta tn tk]) l.b W ⟨_, rfl, i2.below (below_next (bel_alloc HB.out) h)⟩ z2)
      have HGL := hide (show ∀ b, (fun b => u3.ownBlock = some b ∨ (w.heap.size ≤ b ∧ b < w.heap.size)) b → b < (wr.alloc (.cells #[.int .i64 l.k, .int .i64 l.w.rows, .int .i64 l.w.cols, .slice sa sn sk, .int .i64 l.b.rows, .int .i64 l.b.cols, .slice ta tn tk] 55)).drew.heap.size from fun b hb => by
        have h1 := szd1 wr (.cells #[.int .i64 l.k, .int .i64 l.w.rows, .int .i64 l.w.cols, .slice sa sn sk, .int .i64 l.b.rows, .int .i64 l.b.cols, .slice ta tn tk] 55)
        rcases hb with hb | hb
        · have := (HO.out.lt b hb).2; omega
        · omega)
      have HNE := hide (show some wr.heap.size ≠ u3.ownBlock from fun e => by have := (HO.out.lt _ e.symm).2; omega)
      have HM1 := hide (show i + 1 ≤ maxLen by unfold maxLen; have := HLE.out; omega)
      have HM2 := hide (show (i + 1) * 80 ≤ 140737488355328 by have := HLE.out; omega)
      have HTK := hide (show (zeroD (ls.take i)) ++ [(zeroM l.w, zeroM l.b)] = zeroD (ls.take (i + 1)) by rw [zeroD_snoc, take_end hl])
      clear hly i1 i2 z1 z2 hl hxn
      go_wp2
      obtain ⟨lm1, lm2, lm3, lm4, lm5, lm6⟩ := HSB.out (wr.alloc (.cells #[.int .i64 l.k, .int .i64 l.w.rows, .int .i64 l.w.cols, .slice sa sn sk, .int .i64 l.b.rows, .int .i64 l.b.cols, .slice ta tn tk] 55)) (Below.refl _ _)
      go_region_held3 (fun W' => W'.cell? ⟨wr.heap.size, 1, none⟩ = some (.int .i64 l.w.rows) ∧ W'.cell? ⟨wr.heap.size, 2, none⟩ = some (.int .i64 l.w.cols) ∧ W'.cell? ⟨wr.heap.size, 3, none⟩ = some (.slice sa sn sk) ∧ W'.cell? ⟨wr.heap.size, 4, none⟩ = some (.int .i64 l.b.rows) ∧ W'.cell? ⟨wr.heap.size, 5, none⟩ = some (.int .i64 l.b.cols) ∧ W'.cell? ⟨wr.heap.size, 6, none⟩ = some (.slice ta tn tk)) (first | exact HSW.out | (refine HSB.out _ ?_; repeat' (first | with_reducible exact Below.refl _ _ | with_reducible exact HB2.out | with_reducible exact HB1.out | with_reducible refine bel_drew ?_ | with_reducible refine bel_alloc ?_ | exact Nat.le_refl _ | exact Nat.le_succ _)))
        (first
          | (go_at_call 37; guard_target = Calls _ _ _ (World.drew (World.alloc wr _)) _; refine HZ1.out.mono ?_; rintro e w1 ⟨s1, rfl, hs1, hb1, hf1⟩; obtain ⟨pa, pn, pk, rfl⟩ := hs1.shape; have HS1 := hide hs1; have HB1 := hide (show Below (wr.alloc (.cells #[.int .i64 l.k, .int .i64 l.w.rows, .int .i64 l.w.cols, .slice sa sn sk, .int .i64 l.b.rows, .int .i64 l.b.cols, .slice ta tn tk] 55)).heap.size (wr.alloc (.cells #[.int .i64 l.k, .int .i64 l.w.rows, .int .i64 l.w.cols, .slice sa sn sk, .int .i64 l.b.rows, .int .i64 l.b.cols, .slice ta tn tk] 55)) w1 from below_next (bel_drew (Below.refl _ _)) hb1); have HF1 := hide hf1; have HZ3 := hide (HZ2.out w1 HB1.out); clear hs1 hb1 hf1)
          | (go_at_call 37; refine HZ3.out.mono ?_; rintro e w2 ⟨s2, rfl, hs2, hb2, hf2⟩; obtain ⟨qa, qn, qk, rfl⟩ := hs2.shape; have HB2 := hide (show Below (wr.alloc (.cells #[.int .i64 l.k, .int .i64 l.w.rows, .int .i64 l.w.cols, .slice sa sn sk, .int .i64 l.b.rows, .int .i64 l.b.cols, .slice ta tn tk] 55)).heap.size (wr.alloc (.cells #[.int .i64 l.k, .int .i64 l.w.rows, .int .i64 l.w.cols, .slice sa sn sk, .int .i64 l.b.rows, .int .i64 l.b.cols, .slice ta tn tk] 55)) w2 from below_next HB1.out hb2); have HBA := hide (show Below wr.heap.size wr (w2.alloc (.cells #[.int .i64 l.w.rows, .int .i64 l.w.cols, .slice pa pn pk, .int .i64 l.b.rows, .int .i64 l.b.cols, .slice qa qn qk] 57)) from bel_alloc (below_next (below_one _ _) HB2.out)); have HOA := hide (HO.out.below HBA.out); have HEN := hide (show Enc (w2.alloc (.cells #[.int .i64 l.w.rows, .int .i64 l.w.cols, .slice pa pn pk, .int .i64 l.b.rows, .int .i64 l.b.cols, .slice qa qn qk] 57)) (fun b => u3.ownBlock = some b ∨ (w.heap.size ≤ b ∧ b < w.heap.size)) (gdS (zeroM l.w, zeroM l.b)) [.int .i64 l.w.rows, .int .i64 l.w.cols, .slice pa pn pk, .int .i64 l.b.rows, .int .i64 l.b.cols, .slice qa qn qk] from enc_gd (d := (zeroM l.w, zeroM l.b)) ((part_fresh HS1.out HF1.out (fun b hb => HGL.out b hb)).below (bel_alloc hb2)) ((part_fresh hs2 hf2 (fun b hb => Nat.lt_of_lt_of_le (HGL.out b hb) HB1.out.size)).below (below_one _ _))); have HNB := hide (show Box (w2.alloc (.cells #[.int .i64 l.w.rows, .int .i64 l.w.cols, .slice pa pn pk, .int .i64 l.b.rows, .int .i64 l.b.cols, .slice qa qn qk] 57)) w2.heap.size [.int .i64 l.w.rows, .int .i64 l.w.cols, .slice pa pn pk, .int .i64 l.b.rows, .int .i64 l.b.cols, .slice qa qn qk] from Box.new _ _ _ rfl); have HBS := hide (show w.heap.size ≤ (w2.alloc (.cells #[.int .i64 l.w.rows, .int .i64 l.w.cols, .slice pa pn pk, .int .i64 l.b.rows, .int .i64 l.b.cols, .slice qa qn qk] 57)).heap.size from Nat.le_trans HB.out.size HBA.out.size); clear hs2 hb2 hf2)
          | ((try rw [if_pos (by rfl)]); refine wp_append_owns _ _ 41 rfl w.heap.size 57 e0 (.agg #[.int .i64 0, .int .i64 0, .slice none 0 0, .int .i64 0, .int .i64 0, .slice none 0 0]) 6 80 Tryd.underlying41 HEI.out.1 HEI.out.2.1 HEI.out.2.2.1 HEI.out.2.2.2 rfl (by decide) w.heap.size _ _ _ rfl HOA.out ⟨w2.heap.size, 0, none⟩ 1 1 [.int .i64 l.w.rows, .int .i64 l.w.cols, .slice pa pn pk, .int .i64 l.b.rows, .int .i64 l.b.cols, .slice qa qn qk] rfl rfl (fun q u hq => by rw [addr_add]; exact HNB.out q u hq) (gdS (zeroM l.w, zeroM l.b)) HEN.out HM1.out HM2.out HBS.out ?_; intro v' w' hown' hgrow hwh; have HOW := hide hown'; have HBW := hide (show Below w.heap.size w w' from (below_next HB.out HBA.out).grown hgrow HBS.out (fun k hk => (HO.out.lt k hk).1)); have HSW := hide (show (fun W' => W'.cell? ⟨wr.heap.size, 1, none⟩ = some (.int .i64 l.w.rows) ∧ W'.cell? ⟨wr.heap.size, 2, none⟩ = some (.int .i64 l.w.cols) ∧ W'.cell? ⟨wr.heap.size, 3, none⟩ = some (.slice sa sn sk) ∧ W'.cell? ⟨wr.heap.size, 4, none⟩ = some (.int .i64 l.b.rows) ∧ W'.cell? ⟨wr.heap.size, 5, none⟩ = some (.int .i64 l.b.cols) ∧ W'.cell? ⟨wr.heap.size, 6, none⟩ = some (.slice ta tn tk)) w' from (fun hx : Box w' wr.heap.size [.int .i64 l.k, .int .i64 l.w.rows, .int .i64 l.w.cols, .slice sa sn sk, .int .i64 l.b.rows, .int .i64 l.b.cols, .slice ta tn tk] => ⟨hx 1 _ rfl, hx 2 _ rfl, hx 3 _ rfl, hx 4 _ rfl, hx 5 _ rfl, hx 6 _ rfl⟩) (fun j u hu => hgrow.cell (((HLB.out.below HB2.out).below (below_one _ _)) j u hu) HNE.out)); clear hown' hgrow hwh))
      all_goals go_wp2
      all_goals go_roundw
      case rel => exact ⟨i + 1, _, by omega, by have := HXI.out; omega, rfl, by rw [← HTK.out, ← flat_snoc]; exact HOW.out, HBW.out⟩
      case measure => have := HXI.out; simp [intOf]; omega
    · have hin : i = N := by have := HXI.out; omega
      have HM := hide (show IsGds wr u3 (zeroD ls) by
        have h := HO.out.reads
        rw [hin, ← HN.out, List.take_length] at h
        show Reads _ _ (zeroD ls).length _
        rw [show (zeroD ls).length = ls.length by unfold zeroD; simp]; exact h)
      clear hin
      go_wp2
      go_ret
      exact ⟨_, rfl, HM.out, HB.out⟩
end Go.Proofs.YtbkkhdekjgabfadDoor
/- What addGrads and Gather of package net come to: two Grads, two lists of Grads, added one by one, or what is wrong. Condition of Gather: not more than 1,759,218,604,390 of them. -/
namespace Go.Proofs.YtbkkhdekjgabfadDoor
open Go.RowKit
/-- What addGrads comes to: two matrices side by side, new ones; or an error beside nothing. -/
def AddEnd (w : World) (p q : Mx × Mx) (e : Ending) (w' : World) : Prop := Below w.heap.size w w' ∧ ((gat1E p q = 0 ∧ ∃ pa pn pk qa qn qk, e = .returned (.tuple #[.agg #[.int .i64 (addX p.1 q.1).rows, .int .i64 (addX p.1 q.1).cols, .slice pa pn pk, .int .i64 (addX p.2 q.2).rows, .int .i64 (addX p.2 q.2).cols, .slice qa qn qk], .nilIface]) ∧
    IsInts w' (.slice pa pn pk) (addX p.1 q.1).cells ∧ IsInts w' (.slice qa qn qk) (addX p.2 q.2).cells ∧ Fresh w.heap.size (.agg #[.int .i64 (addX p.1 q.1).rows, .int .i64 (addX p.1 q.1).cols, .slice pa pn pk]) ∧ Fresh w.heap.size (.agg #[.int .i64 (addX p.2 q.2).rows, .int .i64 (addX p.2 q.2).cols, .slice qa qn qk])) ∨
  (gat1E p q ≠ 0 ∧ e = .returned (.tuple #[.agg #[.int .i64 0, .int .i64 0, .slice none 0 0, .int .i64 0, .int .i64 0, .slice none 0 0], errV (gat1E p q)])))
set_option maxHeartbeats 4000000 in
set_option maxRecDepth 100000 in
theorem addgrads_any (p q : Mx × Mx) (sa : Option Addr) (sn sk : Nat) (ta : Option Addr) (tn tk : Nat) (xa : Option Addr) (xn xk : Nat) (ya : Option Addr) (yn yk : Nat) (w : World) (hs : IsInts w (.slice sa sn sk) p.1.cells) (ht : IsInts w (.slice ta tn tk) p.2.cells) (hx : IsInts w (.slice xa xn xk) q.1.cells) (hy : IsInts w (.slice ya yn yk) q.2.cells) :
    Calls Tryd.prog 34 #[.agg #[.int .i64 p.1.rows, .int .i64 p.1.cols, .slice sa sn sk, .int .i64 p.2.rows, .int .i64 p.2.cols, .slice ta tn tk], .agg #[.int .i64 q.1.rows, .int .i64 q.1.cols, .slice xa xn xk, .int .i64 q.2.rows, .int .i64 q.2.cols, .slice ya yn yk]] w (AddEnd w p q) := by
  obtain ⟨V, hV⟩ : ∃ V, V = ((w.alloc (.cells #[.int .i64 p.1.rows, .int .i64 p.1.cols, .slice sa sn sk, .int .i64 p.2.rows, .int .i64 p.2.cols, .slice ta tn tk] 57)).alloc (.cells #[.int .i64 q.1.rows, .int .i64 q.1.cols, .slice xa xn xk, .int .i64 q.2.rows, .int .i64 q.2.cols, .slice ya yn yk] 57)).alloc (.cells #[.int .i64 0, .int .i64 0, .slice none 0 0, .int .i64 0, .int .i64 0, .slice none 0 0] 57) := ⟨_, rfl⟩
  have HV := hide hV
  have HWV : Hid (Below w.heap.size w V) := by rw [hV]; exact hide (bel_alloc (bel_alloc (bel_alloc (Below.refl _ _))))
  have HVS : Hid (V.heap.size = w.heap.size + 3) := by rw [hV]; exact hide (by simp)
  have HXA : Hid (Box V w.heap.size [.int .i64 p.1.rows, .int .i64 p.1.cols, .slice sa sn sk, .int .i64 p.2.rows, .int .i64 p.2.cols, .slice ta tn tk]) := by rw [hV]; exact hide (((Box.new w [.int .i64 p.1.rows, .int .i64 p.1.cols, .slice sa sn sk, .int .i64 p.2.rows, .int .i64 p.2.cols, .slice ta tn tk] 57 rfl).below (below_one _ _)).below (below_one _ _))
  have HXB : Hid (Box V (w.heap.size + 1) [.int .i64 q.1.rows, .int .i64 q.1.cols, .slice xa xn xk, .int .i64 q.2.rows, .int .i64 q.2.cols, .slice ya yn yk]) := by rw [hV]; exact hide ((Box.new _ [.int .i64 q.1.rows, .int .i64 q.1.cols, .slice xa xn xk, .int .i64 q.2.rows, .int .i64 q.2.cols, .slice ya yn yk] 57 (by simp)).below (below_one _ _))
  have HXZ : Hid (Box V (w.heap.size + 1 + 1) [.int .i64 0, .int .i64 0, .slice none 0 0, .int .i64 0, .int .i64 0, .slice none 0 0]) := by rw [hV]; exact hide (Box.new _ [.int .i64 0, .int .i64 0, .slice none 0 0, .int .i64 0, .int .i64 0, .slice none 0 0] 57 (by simp))
  have HXF : Hid (Free V (w.heap.size + 1 + 1)) := by rw [hV]; exact hide (Free.new _ _ _ (by simp))
  have HC1 := hide (madd_any (.agg #[.int .i64 p.1.rows, .int .i64 p.1.cols, .slice sa sn sk]) (.agg #[.int .i64 q.1.rows, .int .i64 q.1.cols, .slice xa xn xk]) p.1 q.1 V ⟨_, rfl, hs.below HWV.out⟩ ⟨_, rfl, hx.below HWV.out⟩)
  have HC2 := hide (fun W (h : Below w.heap.size w W) => madd_any (.agg #[.int .i64 p.2.rows, .int .i64 p.2.cols, .slice ta tn tk]) (.agg #[.int .i64 q.2.rows, .int .i64 q.2.cols, .slice ya yn yk]) p.2 q.2 W ⟨_, rfl, ht.below h⟩ ⟨_, rfl, hy.below h⟩)
  obtain ⟨X1, e1⟩ : ∃ X, addX p.1 q.1 = X := ⟨_, rfl⟩
  obtain ⟨X2, e2⟩ : ∃ X, addX p.2 q.2 = X := ⟨_, rfl⟩
  obtain ⟨E1, e3⟩ : ∃ X, addE p.1 q.1 = X := ⟨_, rfl⟩
  obtain ⟨E2, e4⟩ : ∃ X, addE p.2 q.2 = X := ⟨_, rfl⟩
  rw [e1, e3] at HC1
  rw [e2, e4] at HC2
  have HE := hide (And.intro e1 (And.intro e2 (And.intro e3 e4)))
  clear hV hs ht hx hy e1 e2 e3 e4
  have d0 := HXA.out 0 _ rfl
  have d1 := HXA.out 1 _ rfl
  have d2 := HXA.out 2 _ rfl
  have g0 := HXB.out 0 _ rfl
  have g1 := HXB.out 1 _ rfl
  have g2 := HXB.out 2 _ rfl
  rw [HV.out] at d0 d1 d2 g0 g1 g2
  go_enter Tryd.func34, Tryd.ntmps34
  go_wp2_with fail
  rw [← HV.out]
  refine HC1.out.mono ?_
  rintro e w1 ⟨v', rfl, ⟨s1, rfl, hs1⟩, hb1, hf1⟩
  obtain ⟨pa, pn, pk, rfl⟩ := hs1.shape
  have HB1 := hide hb1
  have HS1 := hide hs1
  have HF1 := hide hf1
  clear hs1 hb1 hf1 HC1 d0 d1 d2 g0 g1 g2
  by_cases hz1 : E1 = 0
  · subst hz1
    rw [err_eq rfl]
    have HBB := hide (show Below V.heap.size V (w1.alloc (.cells #[.int .i64 X1.rows, .int .i64 X1.cols, .slice pa pn pk] 25)) from bel_alloc HB1.out)
    have HC := hide (HC2.out (w1.alloc (.cells #[.int .i64 X1.rows, .int .i64 X1.cols, .slice pa pn pk] 25)) (below_next HWV.out HBB.out))
    have d3 := (HXA.out.below HBB.out) 3 _ rfl
    have d4 := (HXA.out.below HBB.out) 4 _ rfl
    have d5 := (HXA.out.below HBB.out) 5 _ rfl
    have g3 := (HXB.out.below HBB.out) 3 _ rfl
    have g4 := (HXB.out.below HBB.out) 4 _ rfl
    have g5 := (HXB.out.below HBB.out) 5 _ rfl
    go_wp2_with fail
    refine HC.out.mono ?_
    rintro e w2 ⟨v', rfl, ⟨s2, rfl, hs2⟩, hb2, hf2⟩
    obtain ⟨qa, qn, qk, rfl⟩ := hs2.shape
    have HB2 := hide hb2
    have HS2 := hide hs2
    have HF2 := hide (fresh_mono hf2 (Nat.le_trans HBB.out.size (Nat.le_refl _)))
    have HBC := hide (show Below V.heap.size V (w2.alloc (.cells #[.int .i64 X2.rows, .int .i64 X2.cols, .slice qa qn qk] 25)) from bel_alloc (below_next HBB.out hb2))
    clear hs2 hb2 hf2 HC HC2 d3 d4 d5 g3 g4 g5
    have t0 := (HXZ.out.below HBC.out) 0 _ rfl
    have t1 := (HXZ.out.below HBC.out) 1 _ rfl
    have t2 := (HXZ.out.below HBC.out) 2 _ rfl
    have t3 := (HXZ.out.below HBC.out) 3 _ rfl
    have t4 := (HXZ.out.below HBC.out) 4 _ rfl
    have t5 := (HXZ.out.below HBC.out) 5 _ rfl
    have f0 := (HXF.out.below HBC.out HXZ.out.lt) 0
    have f1 := (HXF.out.below HBC.out HXZ.out.lt) 1
    have f2 := (HXF.out.below HBC.out HXZ.out.lt) 2
    have f3 := (HXF.out.below HBC.out HXZ.out.lt) 3
    have f4 := (HXF.out.below HBC.out HXZ.out.lt) 4
    have f5 := (HXF.out.below HBC.out HXZ.out.lt) 5
    have c0 := ((Box.new w1 [.int .i64 X1.rows, .int .i64 X1.cols, .slice pa pn pk] 25 rfl).below (bel_alloc (o := .cells #[.int .i64 X2.rows, .int .i64 X2.cols, .slice qa qn qk] 25) HB2.out)) 0 _ rfl
    have c1 := ((Box.new w1 [.int .i64 X1.rows, .int .i64 X1.cols, .slice pa pn pk] 25 rfl).below (bel_alloc (o := .cells #[.int .i64 X2.rows, .int .i64 X2.cols, .slice qa qn qk] 25) HB2.out)) 1 _ rfl
    have c2 := ((Box.new w1 [.int .i64 X1.rows, .int .i64 X1.cols, .slice pa pn pk] 25 rfl).below (bel_alloc (o := .cells #[.int .i64 X2.rows, .int .i64 X2.cols, .slice qa qn qk] 25) HB2.out)) 2 _ rfl
    by_cases hz2 : E2 = 0
    · subst hz2
      rw [err_eq rfl]
      have HEE := hide (show gat1E p q = 0 by unfold gat1E; rw [HE.out.2.2.1, HE.out.2.2.2]; simp)
      have HI1 := hide (show IsInts (((((((w2.alloc (.cells #[.int .i64 X2.rows, .int .i64 X2.cols, .slice qa qn qk] 25)).setCell ⟨w.heap.size + 1 + 1, 0, none⟩ (.int .i64 X1.rows)).setCell ⟨w.heap.size + 1 + 1, 1, none⟩ (.int .i64 X1.cols)).setCell ⟨w.heap.size + 1 + 1, 2, none⟩ (.slice pa pn pk)).setCell ⟨w.heap.size + 1 + 1, 3, none⟩ (.int .i64 X2.rows)).setCell ⟨w.heap.size + 1 + 1, 4, none⟩ (.int .i64 X2.cols)).setCell ⟨w.heap.size + 1 + 1, 5, none⟩ (.slice qa qn qk)) (.slice pa pn pk) X1.cells from IsInts.aboveF ((HS1.out.below (below_one _ (.cells #[.int .i64 X1.rows, .int .i64 X1.cols, .slice pa pn pk] 25))).below (bel_alloc HB2.out)) HF1.out (abv_low (abv_low (abv_low (abv_low (abv_low (abv_low (Above.refl _ _) (by have := HVS.out; omega)) (by have := HVS.out; omega)) (by have := HVS.out; omega)) (by have := HVS.out; omega)) (by have := HVS.out; omega)) (by have := HVS.out; omega)))
      have HI2 := hide (show IsInts (((((((w2.alloc (.cells #[.int .i64 X2.rows, .int .i64 X2.cols, .slice qa qn qk] 25)).setCell ⟨w.heap.size + 1 + 1, 0, none⟩ (.int .i64 X1.rows)).setCell ⟨w.heap.size + 1 + 1, 1, none⟩ (.int .i64 X1.cols)).setCell ⟨w.heap.size + 1 + 1, 2, none⟩ (.slice pa pn pk)).setCell ⟨w.heap.size + 1 + 1, 3, none⟩ (.int .i64 X2.rows)).setCell ⟨w.heap.size + 1 + 1, 4, none⟩ (.int .i64 X2.cols)).setCell ⟨w.heap.size + 1 + 1, 5, none⟩ (.slice qa qn qk)) (.slice qa qn qk) X2.cells from IsInts.aboveF (HS2.out.below (below_one _ _)) HF2.out (abv_low (abv_low (abv_low (abv_low (abv_low (abv_low (Above.refl _ _) (by have := HVS.out; omega)) (by have := HVS.out; omega)) (by have := HVS.out; omega)) (by have := HVS.out; omega)) (by have := HVS.out; omega)) (by have := HVS.out; omega)))
      have HBE := hide (show Below w.heap.size w (((((((w2.alloc (.cells #[.int .i64 X2.rows, .int .i64 X2.cols, .slice qa qn qk] 25)).setCell ⟨w.heap.size + 1 + 1, 0, none⟩ (.int .i64 X1.rows)).setCell ⟨w.heap.size + 1 + 1, 1, none⟩ (.int .i64 X1.cols)).setCell ⟨w.heap.size + 1 + 1, 2, none⟩ (.slice pa pn pk)).setCell ⟨w.heap.size + 1 + 1, 3, none⟩ (.int .i64 X2.rows)).setCell ⟨w.heap.size + 1 + 1, 4, none⟩ (.int .i64 X2.cols)).setCell ⟨w.heap.size + 1 + 1, 5, none⟩ (.slice qa qn qk)) from bel_set (bel_set (bel_set (bel_set (bel_set (bel_set (below_next HWV.out HBC.out) (by omega)) (by omega)) (by omega)) (by omega)) (by omega)) (by omega))
      go_wp2
      exact bodyPost_ret (v := .tuple #[.agg #[.int .i64 X1.rows, .int .i64 X1.cols, .slice pa pn pk, .int .i64 X2.rows, .int .i64 X2.cols, .slice qa qn qk], .nilIface]) (by simp [results, Tryd.results34, go_sem, t0, t1, t2, t3, t4, t5]) rfl ⟨HBE.out, .inl ⟨HEE.out, by rw [HE.out.1, HE.out.2.1]; exact ⟨pa, pn, pk, qa, qn, qk, rfl, HI1.out, HI2.out, fresh_mono HF1.out HWV.out.size, fresh_mono HF2.out HWV.out.size⟩⟩⟩
    · have HEE := hide (show gat1E p q = E2 by unfold gat1E; rw [HE.out.2.2.1, HE.out.2.2.2]; simp)
      have HG := hide hz2
      rw [err_ne hz2]
      have HBE := hide (show Below w.heap.size w (((((((w2.alloc (.cells #[.int .i64 X2.rows, .int .i64 X2.cols, .slice qa qn qk] 25)).setCell ⟨w.heap.size + 1 + 1, 0, none⟩ (.int .i64 0)).setCell ⟨w.heap.size + 1 + 1, 1, none⟩ (.int .i64 0)).setCell ⟨w.heap.size + 1 + 1, 2, none⟩ (.slice none 0 0)).setCell ⟨w.heap.size + 1 + 1, 3, none⟩ (.int .i64 0)).setCell ⟨w.heap.size + 1 + 1, 4, none⟩ (.int .i64 0)).setCell ⟨w.heap.size + 1 + 1, 5, none⟩ (.slice none 0 0)) from bel_set (bel_set (bel_set (bel_set (bel_set (bel_set (below_next HWV.out HBC.out) (by omega)) (by omega)) (by omega)) (by omega)) (by omega)) (by omega))
      clear hz2
      go_wp2
      exact bodyPost_ret (v := .tuple #[.agg #[.int .i64 0, .int .i64 0, .slice none 0 0, .int .i64 0, .int .i64 0, .slice none 0 0], .iface 30 (.int .i64 E2)]) (by simp [results, Tryd.results34, go_sem, t0, t1, t2, t3, t4, t5]) rfl ⟨HBE.out, .inr (by rw [HEE.out, err_ne HG.out]; exact ⟨HG.out, rfl⟩)⟩
  · have HEE := hide (show gat1E p q = E1 by unfold gat1E; rw [HE.out.2.2.1, if_pos hz1])
    have HG := hide hz1
    rw [err_ne hz1]
    have HBB := hide (show Below V.heap.size V (w1.alloc (.cells #[.int .i64 X1.rows, .int .i64 X1.cols, .slice pa pn pk] 25)) from bel_alloc HB1.out)
    have t0 := (HXZ.out.below HBB.out) 0 _ rfl
    have t1 := (HXZ.out.below HBB.out) 1 _ rfl
    have t2 := (HXZ.out.below HBB.out) 2 _ rfl
    have t3 := (HXZ.out.below HBB.out) 3 _ rfl
    have t4 := (HXZ.out.below HBB.out) 4 _ rfl
    have t5 := (HXZ.out.below HBB.out) 5 _ rfl
    have f0 := (HXF.out.below HBB.out HXZ.out.lt) 0
    have f1 := (HXF.out.below HBB.out HXZ.out.lt) 1
    have f2 := (HXF.out.below HBB.out HXZ.out.lt) 2
    have f3 := (HXF.out.below HBB.out HXZ.out.lt) 3
    have f4 := (HXF.out.below HBB.out HXZ.out.lt) 4
    have f5 := (HXF.out.below HBB.out HXZ.out.lt) 5
    have HBE := hide (show Below w.heap.size w (((((((w1.alloc (.cells #[.int .i64 X1.rows, .int .i64 X1.cols, .slice pa pn pk] 25)).setCell ⟨w.heap.size + 1 + 1, 0, none⟩ (.int .i64 0)).setCell ⟨w.heap.size + 1 + 1, 1, none⟩ (.int .i64 0)).setCell ⟨w.heap.size + 1 + 1, 2, none⟩ (.slice none 0 0)).setCell ⟨w.heap.size + 1 + 1, 3, none⟩ (.int .i64 0)).setCell ⟨w.heap.size + 1 + 1, 4, none⟩ (.int .i64 0)).setCell ⟨w.heap.size + 1 + 1, 5, none⟩ (.slice none 0 0)) from bel_set (bel_set (bel_set (bel_set (bel_set (bel_set (below_next HWV.out HBB.out) (by omega)) (by omega)) (by omega)) (by omega)) (by omega)) (by omega))
    clear hz1
    go_wp2
    exact bodyPost_ret (v := .tuple #[.agg #[.int .i64 0, .int .i64 0, .slice none 0 0, .int .i64 0, .int .i64 0, .slice none 0 0], .iface 30 (.int .i64 E1)]) (by simp [results, Tryd.results34, go_sem, t0, t1, t2, t3, t4, t5]) rfl ⟨HBE.out, .inr (by rw [HEE.out, err_ne HG.out]; exact ⟨HG.out, rfl⟩)⟩
set_option maxHeartbeats 8000000 in
set_option maxRecDepth 100000 in
theorem netgather_any (v v' : Value) (ps qs : List (Mx × Mx)) (w : World) (hv : IsGds w v ps) (hv' : IsGds w v' qs) (hle : ps.length ≤ 1759218604390) :
    Calls Tryd.prog 16 #[v, v'] w fun e w' => ∃ u, e = .returned (.tuple #[u, errV (gaE ps qs)]) ∧ IsGds w' u (gaX ps qs) ∧ Below w.heap.size w w' := by
  obtain ⟨a, cap, rfl, _, _⟩ := hv.shape
  obtain ⟨a', cap', rfl, _, hcm⟩ := hv'.shape
  have H0 := hide hv
  have H1 := hide hv'
  obtain ⟨N, hN⟩ : ∃ N, ps.length = N := ⟨_, rfl⟩
  obtain ⟨N', hN'⟩ : ∃ N, qs.length = N := ⟨_, rfl⟩
  have HN := hide (And.intro hN hN')
  obtain ⟨X, hX⟩ : ∃ X, gaX ps qs = X := ⟨_, rfl⟩
  obtain ⟨E, hE⟩ : ∃ E, gaE ps qs = E := ⟨_, rfl⟩
  have HX := hide (And.intro hX hE)
  rw [hN] at hle
  rw [hX, hE]
  rw [hN] at H0 ⊢
  rw [hN'] at H1 ⊢
  clear hX hE hv hv' hN hN' hcm
  by_cases hll : N = N'
  · subst hll
    have HE0 := hide (show gatE ps qs = E by have h := HX.out.2; unfold gaE at h; rw [if_neg (by rw [HN.out.1, HN.out.2]; simp)] at h; exact h)
    have HX0 := hide (show (if E = 0 then gatX ps qs else []) = X by have h := HX.out.1; unfold gaX at h; rw [HX.out.2] at h; exact h)
    have hmk := run_mkL 57 41 6 80 _ Tryd.underlying41 infoGd (N : Int) N rfl (by omega) (by omega)
    have HO0 := hide (show Owns w.heap.size w.heap.size (w.alloc (.cells (rawCells (.agg #[.int .i64 0, .int .i64 0, .slice none 0 0, .int .i64 0, .int .i64 0, .slice none 0 0]) (N * 6)) 57)) 57 6 (.slice (some ⟨w.heap.size, 0, none⟩) 0 N) 0 [] from
      Owns.room _ (Nat.le_refl _) (by unfold maxLen; omega) (rawCells_size _ _))
    obtain ⟨e0, ei, hz0, hz1, hz2⟩ := info_parts infoGd
    have HEI := hide (And.intro ei (And.intro hz0 (And.intro hz1 hz2)))
    have hN63 : (N : Int) ≤ 1759218604390 := by omega
    have hNN : ((N : Int) != (N : Int)) = false := by simp
    have HLE := hide hle
    clear ei hz0 hz1 hz2 hle
    go_enter Tryd.func16, Tryd.ntmps16
    go_wp2
    clear hmk
    go_loopw [6, 21] (fun o a wr => ∃ (i : Nat) (xi : Int) (pre : List (Mx × Mx)), i ≤ N ∧ xi = (i : Int) ∧ a = .int .i64 xi ∧ pre.length = i ∧ pre ++ gatX (ps.drop i) (qs.drop i) = gatX ps qs ∧ gatE (ps.drop i) (qs.drop i) = E ∧ Owns w.heap.size w.heap.size wr 57 6 o i (pre.flatMap gdS) ∧ Below w.heap.size w wr) (fun _ a _ => N - (intOf a).toNat)
    case atStart => exact ⟨0, 0, [], Nat.zero_le _, rfl, rfl, rfl, rfl, HE0.out, HO0.out, below_one _ _⟩
    case round =>
      obtain ⟨i, xi, pre, hi, hxi, rfl, hpl, hpr, he, how, hb⟩ := hrel
      have HXI := hide hxi
      have HPL := hide (And.intro hpl (And.intro hpr he))
      have HO := hide how
      have HB := hide hb
      have hxi0 : 0 ≤ xi := by omega
      have hxi1 : xi ≤ 1759218604390 := by omega
      clear hxi hpl hpr he how hb HO0
      by_cases hlt : xi < (N : Int)
      · have hin : i < N := by have := HXI.out; omega
        have hxn : xi.toNat = i := by have := HXI.out; omega
        obtain ⟨p, hp⟩ : ∃ p, ps[i]? = some p := ⟨ps[i]'(by have := HN.out.1; omega), List.getElem?_eq_getElem _⟩
        obtain ⟨q, hq⟩ : ∃ q, qs[i]? = some q := ⟨qs[i]'(by have := HN.out.2; omega), List.getElem?_eq_getElem _⟩
        obtain ⟨b, off, cp, sa, sn, sk, ta, tn, tk, ev, k0, k1, k2, k3, k4, k5, hs, ht⟩ := H0.out.at hp
        injection ev with ev1 ev2 ev3
        clear ev2 ev3
        subst ev1
        obtain ⟨b', off', cp', xa, xn, xk, ya, yn, yk, ev, y0, y1, y2, y3, y4, y5, hs', ht'⟩ := H1.out.at hq
        injection ev with ev1 ev2 ev3
        clear ev2 ev3
        subst ev1
        rw [← hxn] at k0 k1 k2 k3 k4 k5 y0 y1 y2 y3 y4 y5
        have HK := hide (fun W (h : Below w.heap.size w W) => (And.intro (cell_below h k0) (And.intro (cell_below h k1) (And.intro (cell_below h k2) (And.intro (cell_below h k3) (And.intro (cell_below h k4) (And.intro (cell_below h k5) (And.intro (cell_below h y0) (And.intro (cell_below h y1) (And.intro (cell_below h y2) (And.intro (cell_below h y3) (And.intro (cell_below h y4) (cell_below h y5)))))))))))))
        have HI := hide (And.intro (And.intro hs hs') (And.intro ht ht'))
        obtain ⟨x1, hx1⟩ : ∃ x, addX p.1 q.1 = x := ⟨_, rfl⟩
        obtain ⟨x2, hx2⟩ : ∃ x, addX p.2 q.2 = x := ⟨_, rfl⟩
        have HXX := hide (And.intro hx1 hx2)
        obtain ⟨hpl, hpr, he⟩ := HPL.out
        rw [drop_at hp, drop_at hq] at hpr he
        have HE2 := hide (show (if gat1E p q ≠ 0 then gat1E p q else gatE (ps.drop (i + 1)) (qs.drop (i + 1))) = E from he)
        have HP2 := hide (show (pre ++ [(x1, x2)]) ++ gatX (ps.drop (i + 1)) (qs.drop (i + 1)) = gatX ps qs by rw [← hpr]; show _ = pre ++ (gat1X p q :: gatX (ps.drop (i + 1)) (qs.drop (i + 1))); unfold gat1X; rw [hx1, hx2]; simp)
        have HPN := hide hpl
        clear k0 k1 k2 k3 k4 k5 y0 y1 y2 y3 y4 y5 hs ht hs' ht' hp hq hxn hx1 hx2 hpl hpr he HPL
        by_cases hg : gat1E p q = 0
        · have HE3 := hide (show gatE (ps.drop (i + 1)) (qs.drop (i + 1)) = E by rw [← HE2.out, if_neg (by simp [hg])])
          have HT : Hid (∀ W, Below wr.heap.size wr W → Calls Tryd.prog 34 #[.agg #[.int .i64 p.1.rows, .int .i64 p.1.cols, .slice sa sn sk, .int .i64 p.2.rows, .int .i64 p.2.cols, .slice ta tn tk], .agg #[.int .i64 q.1.rows, .int .i64 q.1.cols, .slice xa xn xk, .int .i64 q.2.rows, .int .i64 q.2.cols, .slice ya yn yk]] W fun e w' => Below W.heap.size W w' ∧ ∃ pa pn pk qa qn qk, e = .returned (.tuple #[.agg #[.int .i64 x1.rows, .int .i64 x1.cols, .slice pa pn pk, .int .i64 x2.rows, .int .i64 x2.cols, .slice qa qn qk], .nilIface]) ∧ IsInts w' (.slice pa pn pk) x1.cells ∧ IsInts w' (.slice qa qn qk) x2.cells ∧ Fresh W.heap.size (.agg #[.int .i64 x1.rows, .int .i64 x1.cols, .slice pa pn pk]) ∧ Fresh W.heap.size (.agg #[.int .i64 x2.rows, .int .i64 x2.cols, .slice qa qn qk])) := hide (fun W h => (addgrads_any p q sa sn sk ta tn tk xa xn xk ya yn yk W (HI.out.1.1.below (below_next HB.out h)) (HI.out.2.1.below (below_next HB.out h)) (HI.out.1.2.below (below_next HB.out h)) (HI.out.2.2.below (below_next HB.out h))).mono (fun e w' hh => ⟨hh.1, by
            rcases hh.2 with ⟨h1, h2⟩ | ⟨h1, h2⟩
            · rw [HXX.out.1, HXX.out.2] at h2; exact h2
            · exact absurd hg h1⟩))
          have HSB : Hid (∀ W', Below wr.heap.size wr W' → (fun W' => W'.cell? ⟨b, off + xi.toNat * 6, none⟩ = some (.int .i64 p.1.rows) ∧ W'.cell? ⟨b, off + xi.toNat * 6 + 1, none⟩ = some (.int .i64 p.1.cols) ∧ W'.cell? ⟨b, off + xi.toNat * 6 + 2, none⟩ = some (.slice sa sn sk) ∧ W'.cell? ⟨b, off + xi.toNat * 6 + 3, none⟩ = some (.int .i64 p.2.rows) ∧ W'.cell? ⟨b, off + xi.toNat * 6 + 4, none⟩ = some (.int .i64 p.2.cols) ∧ W'.cell? ⟨b, off + xi.toNat * 6 + 5, none⟩ = some (.slice ta tn tk) ∧ W'.cell? ⟨b', off' + xi.toNat * 6, none⟩ = some (.int .i64 q.1.rows) ∧ W'.cell? ⟨b', off' + xi.toNat * 6 + 1, none⟩ = some (.int .i64 q.1.cols) ∧ W'.cell? ⟨b', off' + xi.toNat * 6 + 2, none⟩ = some (.slice xa xn xk) ∧ W'.cell? ⟨b', off' + xi.toNat * 6 + 3, none⟩ = some (.int .i64 q.2.rows) ∧ W'.cell? ⟨b', off' + xi.toNat * 6 + 4, none⟩ = some (.int .i64 q.2.cols) ∧ W'.cell? ⟨b', off' + xi.toNat * 6 + 5, none⟩ = some (.slice ya yn yk)) W') := hide (fun W' h => HK.out W' (below_next HB.out h))
          have HT3 := hide (HT.out (wr.alloc (.cells #[.int .i64 0, .int .i64 0, .slice none 0 0, .int .i64 0, .int .i64 0, .slice none 0 0] 57)).drew (bel_drew (bel_alloc (Below.refl wr.heap.size wr))))
          have HT0 := hide (HT.out wr.drew (bel_drew (Below.refl wr.heap.size wr)))
          obtain ⟨lm0, lm1, lm2, lm3, lm4, lm5, lm6, lm7, lm8, lm9, lm10, lm11⟩ := HSB.out wr (Below.refl _ _)
          clear hg
          go_wp2
          go_cut [8, 9] from 24 to 35 (fun a c wx => ∃ (Bk : Nat) (pa : Option Addr) (pn pk : Nat) (qa : Option Addr) (qn qk : Nat), a = .pointer (some ⟨Bk, 0, none⟩) ∧ c = .nilIface ∧ IsInts wx (.slice pa pn pk) x1.cells ∧ IsInts wx (.slice qa qn qk) x2.cells ∧ Cells6 wx Bk (.int .i64 x1.rows) (.int .i64 x1.cols) (.slice pa pn pk) (.int .i64 x2.rows) (.int .i64 x2.cols) (.slice qa qn qk) ∧ Fresh wr.heap.size (.agg #[.int .i64 x1.rows, .int .i64 x1.cols, .slice pa pn pk]) ∧ Fresh wr.heap.size (.agg #[.int .i64 x2.rows, .int .i64 x2.cols, .slice qa qn qk]) ∧ Below wr.heap.size wr wx)
          case first =>
            go_region_held3 (fun W' => W'.cell? ⟨b, off + xi.toNat * 6, none⟩ = some (.int .i64 p.1.rows) ∧ W'.cell? ⟨b, off + xi.toNat * 6 + 1, none⟩ = some (.int .i64 p.1.cols) ∧ W'.cell? ⟨b, off + xi.toNat * 6 + 2, none⟩ = some (.slice sa sn sk) ∧ W'.cell? ⟨b, off + xi.toNat * 6 + 3, none⟩ = some (.int .i64 p.2.rows) ∧ W'.cell? ⟨b, off + xi.toNat * 6 + 4, none⟩ = some (.int .i64 p.2.cols) ∧ W'.cell? ⟨b, off + xi.toNat * 6 + 5, none⟩ = some (.slice ta tn tk) ∧ W'.cell? ⟨b', off' + xi.toNat * 6, none⟩ = some (.int .i64 q.1.rows) ∧ W'.cell? ⟨b', off' + xi.toNat * 6 + 1, none⟩ = some (.int .i64 q.1.cols) ∧ W'.cell? ⟨b', off' + xi.toNat * 6 + 2, none⟩ = some (.slice xa xn xk) ∧ W'.cell? ⟨b', off' + xi.toNat * 6 + 3, none⟩ = some (.int .i64 q.2.rows) ∧ W'.cell? ⟨b', off' + xi.toNat * 6 + 4, none⟩ = some (.int .i64 q.2.cols) ∧ W'.cell? ⟨b', off' + xi.toNat * 6 + 5, none⟩ = some (.slice ya yn yk)) ((refine HSB.out _ ?_; repeat' (first | with_reducible exact Below.refl _ _ | with_reducible exact HB2.out | with_reducible refine bel_drew ?_ | with_reducible refine bel_alloc ?_ | with_reducible refine bel_set ?_ ?_ | exact Nat.le_refl _ | exact Nat.le_succ _ | exact HB2.out.size | exact Nat.le_succ_of_le HB2.out.size)))
              (first
                | (go_at_call 34; guard_target = Calls _ _ _ (World.drew (World.alloc wr (Obj.cells #[_, _, _, _, _, _] _))) _; refine HT3.out.mono ?_; rintro e wz ⟨hb2, pa, pn, pk, qa, qn, qk, rfl, hi1, hi2, hf1, hf2⟩; have hc2 := below_next (below_dr (Below.refl _ (wr.alloc (.cells #[.int .i64 0, .int .i64 0, .slice none 0 0, .int .i64 0, .int .i64 0, .slice none 0 0] 57)))) hb2; have HB2 := hide (show Below wr.heap.size wr wz from below_next (below_one wr (.cells #[.int .i64 0, .int .i64 0, .slice none 0 0, .int .i64 0, .int .i64 0, .slice none 0 0] 57)) hc2); have ZB3 := hide ((Box.new wr [.int .i64 0, .int .i64 0, .slice none 0 0, .int .i64 0, .int .i64 0, .slice none 0 0] 57 (B := wr.heap.size) rfl).below hc2); have ZB3l := hide (Box.new wr [.int .i64 0, .int .i64 0, .slice none 0 0, .int .i64 0, .int .i64 0, .slice none 0 0] 57 (B := wr.heap.size) rfl).lt; have ZF3 := hide ((Free.new wr #[.int .i64 0, .int .i64 0, .slice none 0 0, .int .i64 0, .int .i64 0, .slice none 0 0] 57 (B := wr.heap.size) rfl).below hc2 ZB3l.out); have z30 := ZB3.out 0 _ rfl; have f30 := ZF3.out 0; have z31 := ZB3.out 1 _ rfl; have f31 := ZF3.out 1; have z32 := ZB3.out 2 _ rfl; have f32 := ZF3.out 2; have z33 := ZB3.out 3 _ rfl; have f33 := ZF3.out 3; have z34 := ZB3.out 4 _ rfl; have f34 := ZF3.out 4; have z35 := ZB3.out 5 _ rfl; have f35 := ZF3.out 5; have HEa : Hid (Cells6 ((((((wz.setCell ⟨wr.heap.size, 0, none⟩ (.int .i64 x1.rows)).setCell ⟨wr.heap.size, 1, none⟩ (.int .i64 x1.cols)).setCell ⟨wr.heap.size, 2, none⟩ (.slice pa pn pk)).setCell ⟨wr.heap.size, 3, none⟩ (.int .i64 x2.rows)).setCell ⟨wr.heap.size, 4, none⟩ (.int .i64 x2.cols)).setCell ⟨wr.heap.size, 5, none⟩ (.slice qa qn qk)) wr.heap.size (.int .i64 x1.rows) (.int .i64 x1.cols) (.slice pa pn pk) (.int .i64 x2.rows) (.int .i64 x2.cols) (.slice qa qn qk)) := hide (cells6_of (set_six ZB3.out _ _ _ _ _ _)); have HF1 := hide (show Fresh (wr.heap.size + 1) (.agg #[.int .i64 x1.rows, .int .i64 x1.cols, .slice pa pn pk]) from fresh_mono hf1 (szd1 _ _)); have HF2 := hide (show Fresh (wr.heap.size + 1) (.agg #[.int .i64 x2.rows, .int .i64 x2.cols, .slice qa qn qk]) from fresh_mono hf2 (szd1 _ _)); have HG1 := hide (fresh_mono HF1.out (Nat.le_succ _)); have HG2 := hide (fresh_mono HF2.out (Nat.le_succ _)); have HI1 := hide (show IsInts ((((((wz.setCell ⟨wr.heap.size, 0, none⟩ (.int .i64 x1.rows)).setCell ⟨wr.heap.size, 1, none⟩ (.int .i64 x1.cols)).setCell ⟨wr.heap.size, 2, none⟩ (.slice pa pn pk)).setCell ⟨wr.heap.size, 3, none⟩ (.int .i64 x2.rows)).setCell ⟨wr.heap.size, 4, none⟩ (.int .i64 x2.cols)).setCell ⟨wr.heap.size, 5, none⟩ (.slice qa qn qk)) (.slice pa pn pk) x1.cells from IsInts.aboveF hi1 HF1.out (abv_low (abv_low (abv_low (abv_low (abv_low (abv_low (Above.refl _ _) (by omega)) (by omega)) (by omega)) (by omega)) (by omega)) (by omega))); have HI2 := hide (show IsInts ((((((wz.setCell ⟨wr.heap.size, 0, none⟩ (.int .i64 x1.rows)).setCell ⟨wr.heap.size, 1, none⟩ (.int .i64 x1.cols)).setCell ⟨wr.heap.size, 2, none⟩ (.slice pa pn pk)).setCell ⟨wr.heap.size, 3, none⟩ (.int .i64 x2.rows)).setCell ⟨wr.heap.size, 4, none⟩ (.int .i64 x2.cols)).setCell ⟨wr.heap.size, 5, none⟩ (.slice qa qn qk)) (.slice qa qn qk) x2.cells from IsInts.aboveF hi2 HF2.out (abv_low (abv_low (abv_low (abv_low (abv_low (abv_low (Above.refl _ _) (by omega)) (by omega)) (by omega)) (by omega)) (by omega)) (by omega))); clear hc2; clear hb2 hi1 hi2 hf1 hf2)
                | (go_at_call 34; guard_target = Calls _ _ _ (World.drew wr) _; refine HT0.out.mono ?_; rintro e wz ⟨hb2, pa, pn, pk, qa, qn, qk, rfl, hi1, hi2, hf1, hf2⟩; have hc2 := below_next (below_dr (Below.refl _ wr)) hb2; have HB2 := hide (show Below wr.heap.size wr wz from hc2); clear hc2; have HEa : Hid (Cells6 (wz.alloc (.cells #[.int .i64 x1.rows, .int .i64 x1.cols, .slice pa pn pk, .int .i64 x2.rows, .int .i64 x2.cols, .slice qa qn qk] 57)) wz.heap.size (.int .i64 x1.rows) (.int .i64 x1.cols) (.slice pa pn pk) (.int .i64 x2.rows) (.int .i64 x2.cols) (.slice qa qn qk)) := hide (cells6_of (Box.new wz [.int .i64 x1.rows, .int .i64 x1.cols, .slice pa pn pk, .int .i64 x2.rows, .int .i64 x2.cols, .slice qa qn qk] 57 rfl)); have HG1 := hide (show Fresh wr.heap.size (.agg #[.int .i64 x1.rows, .int .i64 x1.cols, .slice pa pn pk]) from hf1); have HG2 := hide (show Fresh wr.heap.size (.agg #[.int .i64 x2.rows, .int .i64 x2.cols, .slice qa qn qk]) from hf2); have HI1 := hide (show IsInts (wz.alloc (.cells #[.int .i64 x1.rows, .int .i64 x1.cols, .slice pa pn pk, .int .i64 x2.rows, .int .i64 x2.cols, .slice qa qn qk] 57)) (.slice pa pn pk) x1.cells from hi1.below (below_one _ _)); have HI2 := hide (show IsInts (wz.alloc (.cells #[.int .i64 x1.rows, .int .i64 x1.cols, .slice pa pn pk, .int .i64 x2.rows, .int .i64 x2.cols, .slice qa qn qk] 57)) (.slice qa qn qk) x2.cells from hi2.below (below_one _ _)); clear hb2 hi1 hi2 hf1 hf2))
            all_goals go_wp2
            all_goals go_meet
            all_goals
              refine ⟨_, pa, pn, pk, qa, qn, qk, rfl, rfl, ?_, ?_, ?_, HG1.out, HG2.out, ?_⟩
              · with_reducible exact HI1.out
              · with_reducible exact HI2.out
              · with_reducible exact HEa.out
              · repeat' (first | with_reducible exact Below.refl _ _ | with_reducible exact HB2.out | with_reducible refine bel_drew ?_ | with_reducible refine bel_alloc ?_ | with_reducible refine bel_set ?_ ?_ | exact Nat.le_refl _ | exact Nat.le_succ _ | exact HB2.out.size | exact Nat.le_succ_of_le HB2.out.size)
          case rest =>
            obtain ⟨B1, pa, pn, pk, qa, qn, qk, rfl, rfl, hi1, hi2, ⟨c0, c1, c2, c3, c4, c5⟩, hf1, hf2, hbc⟩ := hcut
            have HBC := hide (below_next HB.out hbc)
            have HBD := hide hbc
            have HGL := hide (show ∀ b, (fun b => u6.ownBlock = some b ∨ (w.heap.size ≤ b ∧ b < w.heap.size)) b → b < wr.heap.size from fun b hb => by
              rcases hb with hb | hb
              · exact (HO.out.lt b hb).2
              · omega)
            have HOA := hide (HO.out.below (bel_alloc (o := (.cells #[.int .i64 x1.rows, .int .i64 x1.cols, .slice pa pn pk, .int .i64 x2.rows, .int .i64 x2.cols, .slice qa qn qk] 57)) hbc))
            have HEN := hide (show Enc (wc.alloc (.cells #[.int .i64 x1.rows, .int .i64 x1.cols, .slice pa pn pk, .int .i64 x2.rows, .int .i64 x2.cols, .slice qa qn qk] 57)) (fun b => u6.ownBlock = some b ∨ (w.heap.size ≤ b ∧ b < w.heap.size)) (gdS (x1, x2)) [.int .i64 x1.rows, .int .i64 x1.cols, .slice pa pn pk, .int .i64 x2.rows, .int .i64 x2.cols, .slice qa qn qk] from enc_gd (d := (x1, x2)) ((part_fresh hi1 hf1 HGL.out).below (below_one _ _)) ((part_fresh hi2 hf2 HGL.out).below (below_one _ _)))
            have HNB := hide (show Box (wc.alloc (.cells #[.int .i64 x1.rows, .int .i64 x1.cols, .slice pa pn pk, .int .i64 x2.rows, .int .i64 x2.cols, .slice qa qn qk] 57)) wc.heap.size [.int .i64 x1.rows, .int .i64 x1.cols, .slice pa pn pk, .int .i64 x2.rows, .int .i64 x2.cols, .slice qa qn qk] from Box.new _ _ _ rfl)
            have HBS := hide (show w.heap.size ≤ (wc.alloc (.cells #[.int .i64 x1.rows, .int .i64 x1.cols, .slice pa pn pk, .int .i64 x2.rows, .int .i64 x2.cols, .slice qa qn qk] 57)).heap.size from Nat.le_trans HBC.out.size (below_one wc (.cells #[.int .i64 x1.rows, .int .i64 x1.cols, .slice pa pn pk, .int .i64 x2.rows, .int .i64 x2.cols, .slice qa qn qk] 57)).size)
            clear hi1 hi2 hf1 hf2 hbc HT HSB HT0 HT3 lm0 lm1 lm2 lm3 lm4 lm5 lm6 lm7 lm8 lm9 lm10 lm11
            go_wp2_with (at_builtin; refine wpList_append_owns rfl _ _ 41 rfl w.heap.size 57 e0 (.agg #[.int .i64 0, .int .i64 0, .slice none 0 0, .int .i64 0, .int .i64 0, .slice none 0 0]) 6 80 Tryd.underlying41 HEI.out.1 HEI.out.2.1 HEI.out.2.2.1 HEI.out.2.2.2 rfl (by decide) w.heap.size _ _ _ rfl HOA.out ⟨wc.heap.size, 0, none⟩ 1 1 [.int .i64 x1.rows, .int .i64 x1.cols, .slice pa pn pk, .int .i64 x2.rows, .int .i64 x2.cols, .slice qa qn qk] rfl rfl (fun q u hq => by rw [addr_add]; exact HNB.out q u hq) (gdS (x1, x2)) HEN.out ?d3 ?d4 HBS.out ?_)
            case d3 => unfold maxLen; have := HLE.out; omega
            case d4 => have := HLE.out; omega
            intro v' w' hown' hgrow hwh
            have HBW := hide (show Below w.heap.size w w' from (bel_alloc (o := (.cells #[.int .i64 x1.rows, .int .i64 x1.cols, .slice pa pn pk, .int .i64 x2.rows, .int .i64 x2.cols, .slice qa qn qk] 57)) HBC.out).grown hgrow HBS.out (fun k hk => (HO.out.lt k hk).1))
            rw [flat_snoc] at hown'
            have HOW := hide hown'
            clear hown' hgrow hwh
            go_wp2
            go_roundw
            case rel => exact ⟨i + 1, _, pre ++ [(x1, x2)], by omega, by have := HXI.out; omega, rfl, by rw [List.length_append, HPN.out]; rfl, HP2.out, HE3.out, HOW.out, HBW.out⟩
            case measure => have := HXI.out; simp [intOf]; omega
        · have HGE := hide (show gat1E p q = E by rw [← HE2.out, if_pos hg])
          have HEZ := hide (show E ≠ 0 by rw [← HGE.out]; exact hg)
          obtain rfl : X = [] := by rw [← HX0.out, if_neg HEZ.out]
          have HT : Hid (∀ W, Below wr.heap.size wr W → Calls Tryd.prog 34 #[.agg #[.int .i64 p.1.rows, .int .i64 p.1.cols, .slice sa sn sk, .int .i64 p.2.rows, .int .i64 p.2.cols, .slice ta tn tk], .agg #[.int .i64 q.1.rows, .int .i64 q.1.cols, .slice xa xn xk, .int .i64 q.2.rows, .int .i64 q.2.cols, .slice ya yn yk]] W fun e w' => Below W.heap.size W w' ∧ e = .returned (.tuple #[.agg #[.int .i64 0, .int .i64 0, .slice none 0 0, .int .i64 0, .int .i64 0, .slice none 0 0], .iface 30 (.int .i64 E)])) := hide (fun W h => (addgrads_any p q sa sn sk ta tn tk xa xn xk ya yn yk W (HI.out.1.1.below (below_next HB.out h)) (HI.out.2.1.below (below_next HB.out h)) (HI.out.1.2.below (below_next HB.out h)) (HI.out.2.2.below (below_next HB.out h))).mono (fun e w' hh => ⟨hh.1, by
            rcases hh.2 with ⟨h1, h2⟩ | ⟨h1, h2⟩
            · exact absurd h1 (by rw [HGE.out]; exact HEZ.out)
            · rw [HGE.out, err_ne HEZ.out] at h2; exact h2⟩))
          have HSB : Hid (∀ W', Below wr.heap.size wr W' → (fun W' => W'.cell? ⟨b, off + xi.toNat * 6, none⟩ = some (.int .i64 p.1.rows) ∧ W'.cell? ⟨b, off + xi.toNat * 6 + 1, none⟩ = some (.int .i64 p.1.cols) ∧ W'.cell? ⟨b, off + xi.toNat * 6 + 2, none⟩ = some (.slice sa sn sk) ∧ W'.cell? ⟨b, off + xi.toNat * 6 + 3, none⟩ = some (.int .i64 p.2.rows) ∧ W'.cell? ⟨b, off + xi.toNat * 6 + 4, none⟩ = some (.int .i64 p.2.cols) ∧ W'.cell? ⟨b, off + xi.toNat * 6 + 5, none⟩ = some (.slice ta tn tk) ∧ W'.cell? ⟨b', off' + xi.toNat * 6, none⟩ = some (.int .i64 q.1.rows) ∧ W'.cell? ⟨b', off' + xi.toNat * 6 + 1, none⟩ = some (.int .i64 q.1.cols) ∧ W'.cell? ⟨b', off' + xi.toNat * 6 + 2, none⟩ = some (.slice xa xn xk) ∧ W'.cell? ⟨b', off' + xi.toNat * 6 + 3, none⟩ = some (.int .i64 q.2.rows) ∧ W'.cell? ⟨b', off' + xi.toNat * 6 + 4, none⟩ = some (.int .i64 q.2.cols) ∧ W'.cell? ⟨b', off' + xi.toNat * 6 + 5, none⟩ = some (.slice ya yn yk)) W') := hide (fun W' h => HK.out W' (below_next HB.out h))
          have HT3 := hide (HT.out (wr.alloc (.cells #[.int .i64 0, .int .i64 0, .slice none 0 0, .int .i64 0, .int .i64 0, .slice none 0 0] 57)).drew (bel_drew (bel_alloc (Below.refl wr.heap.size wr))))
          have HT0 := hide (HT.out wr.drew (bel_drew (Below.refl wr.heap.size wr)))
          obtain ⟨lm0, lm1, lm2, lm3, lm4, lm5, lm6, lm7, lm8, lm9, lm10, lm11⟩ := HSB.out wr (Below.refl _ _)
          clear hg
          go_wp2
          go_cut [8, 9] from 24 to 35 (fun a c wx => ∃ (Bk : Nat), a = .pointer (some ⟨Bk, 0, none⟩) ∧ c = .iface 30 (.int .i64 E) ∧ Below wr.heap.size wr wx)
          case first =>
            go_region_held3 (fun W' => W'.cell? ⟨b, off + xi.toNat * 6, none⟩ = some (.int .i64 p.1.rows) ∧ W'.cell? ⟨b, off + xi.toNat * 6 + 1, none⟩ = some (.int .i64 p.1.cols) ∧ W'.cell? ⟨b, off + xi.toNat * 6 + 2, none⟩ = some (.slice sa sn sk) ∧ W'.cell? ⟨b, off + xi.toNat * 6 + 3, none⟩ = some (.int .i64 p.2.rows) ∧ W'.cell? ⟨b, off + xi.toNat * 6 + 4, none⟩ = some (.int .i64 p.2.cols) ∧ W'.cell? ⟨b, off + xi.toNat * 6 + 5, none⟩ = some (.slice ta tn tk) ∧ W'.cell? ⟨b', off' + xi.toNat * 6, none⟩ = some (.int .i64 q.1.rows) ∧ W'.cell? ⟨b', off' + xi.toNat * 6 + 1, none⟩ = some (.int .i64 q.1.cols) ∧ W'.cell? ⟨b', off' + xi.toNat * 6 + 2, none⟩ = some (.slice xa xn xk) ∧ W'.cell? ⟨b', off' + xi.toNat * 6 + 3, none⟩ = some (.int .i64 q.2.rows) ∧ W'.cell? ⟨b', off' + xi.toNat * 6 + 4, none⟩ = some (.int .i64 q.2.cols) ∧ W'.cell? ⟨b', off' + xi.toNat * 6 + 5, none⟩ = some (.slice ya yn yk)) ((refine HSB.out _ ?_; repeat' (first | with_reducible exact Below.refl _ _ | with_reducible exact HB2.out | with_reducible refine bel_drew ?_ | with_reducible refine bel_alloc ?_ | with_reducible refine bel_set ?_ ?_ | exact Nat.le_refl _ | exact Nat.le_succ _ | exact HB2.out.size | exact Nat.le_succ_of_le HB2.out.size)))
              (first
                | (go_at_call 34; guard_target = Calls _ _ _ (World.drew (World.alloc wr (Obj.cells #[_, _, _, _, _, _] _))) _; refine HT3.out.mono ?_; rintro e wz ⟨hb2, rfl⟩; have hc2 := below_next (below_dr (Below.refl _ (wr.alloc (.cells #[.int .i64 0, .int .i64 0, .slice none 0 0, .int .i64 0, .int .i64 0, .slice none 0 0] 57)))) hb2; have HB2 := hide (show Below wr.heap.size wr wz from below_next (below_one wr (.cells #[.int .i64 0, .int .i64 0, .slice none 0 0, .int .i64 0, .int .i64 0, .slice none 0 0] 57)) hc2); have ZB3 := hide ((Box.new wr [.int .i64 0, .int .i64 0, .slice none 0 0, .int .i64 0, .int .i64 0, .slice none 0 0] 57 (B := wr.heap.size) rfl).below hc2); have ZB3l := hide (Box.new wr [.int .i64 0, .int .i64 0, .slice none 0 0, .int .i64 0, .int .i64 0, .slice none 0 0] 57 (B := wr.heap.size) rfl).lt; have ZF3 := hide ((Free.new wr #[.int .i64 0, .int .i64 0, .slice none 0 0, .int .i64 0, .int .i64 0, .slice none 0 0] 57 (B := wr.heap.size) rfl).below hc2 ZB3l.out); have z30 := ZB3.out 0 _ rfl; have f30 := ZF3.out 0; have z31 := ZB3.out 1 _ rfl; have f31 := ZF3.out 1; have z32 := ZB3.out 2 _ rfl; have f32 := ZF3.out 2; have z33 := ZB3.out 3 _ rfl; have f33 := ZF3.out 3; have z34 := ZB3.out 4 _ rfl; have f34 := ZF3.out 4; have z35 := ZB3.out 5 _ rfl; have f35 := ZF3.out 5; clear hc2; clear hb2)
                | (go_at_call 34; guard_target = Calls _ _ _ (World.drew wr) _; refine HT0.out.mono ?_; rintro e wz ⟨hb2, rfl⟩; have hc2 := below_next (below_dr (Below.refl _ wr)) hb2; have HB2 := hide (show Below wr.heap.size wr wz from hc2); clear hc2; clear hb2))
            all_goals go_wp2
            all_goals go_meet
            all_goals
              refine ⟨_, rfl, rfl, ?_⟩
              repeat' (first | with_reducible exact Below.refl _ _ | with_reducible exact HB2.out | with_reducible refine bel_drew ?_ | with_reducible refine bel_alloc ?_ | with_reducible refine bel_set ?_ ?_ | exact Nat.le_refl _ | exact Nat.le_succ _ | exact HB2.out.size | exact Nat.le_succ_of_le HB2.out.size)
          case rest =>
            obtain ⟨B1, rfl, rfl, hbc⟩ := hcut
            have HBC := hide (below_next HB.out hbc)
            clear hbc HT HSB HT0 HT3 lm0 lm1 lm2 lm3 lm4 lm5 lm6 lm7 lm8 lm9 lm10 lm11
            go_wp2
            exact bodyPost_ret (v := .tuple #[.slice none 0 0, .iface 30 (.int .i64 E)]) (by simp [results, Tryd.results16, go_sem]) rfl ⟨_, by rw [err_ne HEZ.out], isGds_nil _, HBC.out⟩
      · have hin : i = N := by have := HXI.out; omega
        obtain ⟨hpl, hpr, he⟩ := HPL.out
        rw [hin, ← HN.out.1, List.drop_length] at hpr he
        replace hpr : pre = gatX ps qs := by rw [← hpr]; show pre = pre ++ []; simp
        replace he : 0 = E := he
        subst he
        obtain rfl : pre = X := by rw [hpr, ← HX0.out, if_pos rfl]
        have HM := hide (show IsGds wr u6 pre by show Reads _ _ pre.length _; rw [hpl]; exact HO.out.reads)
        clear hpr hin hpl
        go_wp2
        exact bodyPost_ret (v := .tuple #[u6, .nilIface]) (by simp [results, Tryd.results16, go_sem]) rfl ⟨_, rfl, HM.out, HB.out⟩
  · obtain rfl : E = 2 := by rw [← HX.out.2]; unfold gaE; rw [if_pos (by rw [HN.out.1, HN.out.2]; exact hll)]
    obtain rfl : X = [] := by rw [← HX.out.1]; unfold gaX; rw [HX.out.2, if_neg (by decide)]
    have hNN : ((N : Int) != (N' : Int)) = true := by simp; omega
    go_enter Tryd.func16, Tryd.ntmps16
    go_wp2
    exact bodyPost_ret (v := .tuple #[.slice none 0 0, .iface 30 (.int .i64 2)]) (by simp [results, Tryd.results16, go_sem]) rfl ⟨_, rfl, isGds_nil _, Below.refl _ _⟩
end Go.Proofs.YtbkkhdekjgabfadDoor
