/- What matrix of package wire's reader comes to, and ReadNumber and ReadMatrix. -/
import Derived.Test.YtaajlggpjholeahDoorWrC4
import Derived.Test.YtaajlggpjholeahDoorWrN
import Derived.Lib.SmallJoins
namespace Go.Proofs.YtaajlggpjholeahDoor
open Go.RowKit
theorem wcellof_any (x : Int) (w : World) (h0 : 0 ≤ x) (h1 : x ≤ 9223372036854775807) : Calls Tryd.prog 51 #[.int .i64 x] w fun e w' => e = .returned (.int .i64 (unz x)) ∧ w' = w := by
  by_cases c : x % 2 = 1
  · have HE := hide (show -(x / 2) - 1 = unz x by unfold unz; rw [if_pos c])
    go_enter Tryd.func51, Tryd.ntmps51
    go_wp2
    go_ret
    exact ⟨ret_int HE.out, rfl⟩
  · have HE := hide (show x / 2 = unz x by unfold unz; rw [if_neg c])
    go_enter Tryd.func51, Tryd.ntmps51
    go_wp2
    go_ret
    exact ⟨ret_int HE.out, rfl⟩
/-- So many numbers turned into cells, the others as they were read. -/
def mixL (zs : List Int) (i : Nat) : List Int := unzL (zs.take i) ++ zs.drop i
theorem mixL_zero (zs : List Int) : mixL zs 0 = zs := rfl
theorem mixL_all (zs : List Int) {i : Nat} (h : zs.length ≤ i) : mixL zs i = unzL zs := by unfold mixL; rw [List.take_of_length_le h, List.drop_of_length_le h, List.append_nil]
theorem mixL_len (zs : List Int) (i : Nat) : (mixL zs i).length = zs.length := by
  unfold mixL
  rw [List.length_append, unzL_len, List.length_take, List.length_drop]
  omega
theorem mixL_at {zs : List Int} {i : Nat} {x : Int} (h : zs[i]? = some x) : (mixL zs i)[i]? = some x := by
  obtain ⟨hi, _⟩ := List.getElem?_eq_some_iff.1 h
  have hl : (unzL (zs.take i)).length = i := by rw [unzL_len, List.length_take]; omega
  unfold mixL
  rw [List.getElem?_append_right (by omega), hl, Nat.sub_self, List.getElem?_drop, Nat.add_zero]
  exact h
theorem mixL_next {zs : List Int} {i : Nat} {x : Int} (h : zs[i]? = some x) : (mixL zs i).set i (unz x) = mixL zs (i + 1) := by
  obtain ⟨hi, e⟩ := List.getElem?_eq_some_iff.1 h
  have hl : (unzL (zs.take i)).length = i := by rw [unzL_len, List.length_take]; omega
  unfold mixL
  rw [List.set_append_right _ _ (by omega), hl, Nat.sub_self, List.drop_eq_getElem_cons hi, List.set_cons_zero, List.take_succ_eq_append_getElem hi, unzL_snoc, e, List.append_assoc]
  rfl
theorem hv_bytes {w : World} {v : Value} {l : List Int} (h : IsBys w v l) : ∀ x ∈ l, 0 ≤ x ∧ x < 256 := by obtain ⟨_, _, _, _, _, h, _⟩ := h; exact h
theorem bk5 {w : World} {R : Nat} {x0 x1 x2 x3 x4 : Value} {t : TypeId} (h : WBk w R #[x0, x1, x2, x3, x4] t) (y0 y1 y2 y3 y4 : Value) : WBk (((((w.setCell ⟨R, 0, none⟩ y0).setCell ⟨R, 1, none⟩ y1).setCell ⟨R, 2, none⟩ y2).setCell ⟨R, 3, none⟩ y3).setCell ⟨R, 4, none⟩ y4) R #[y0, y1, y2, y3, y4] t :=
  ((((h.set 0 y0).set 1 y1).set 2 y2).set 3 y3).set 4 y4
theorem WBk.c5 {w : World} {R : Nat} {x0 x1 x2 x3 x4 : Value} {t : TypeId} (h : WBk w R #[x0, x1, x2, x3, x4] t) : w.cell? ⟨R, 0, none⟩ = some x0 ∧ w.cell? ⟨R, 1, none⟩ = some x1 ∧ w.cell? ⟨R, 2, none⟩ = some x2 ∧ w.cell? ⟨R, 3, none⟩ = some x3 ∧ w.cell? ⟨R, 4, none⟩ = some x4 := ⟨h.c rfl, h.c rfl, h.c rfl, h.c rfl, h.c rfl⟩
theorem WBk.f5 {w : World} {R : Nat} {cs : Array Value} {t : TypeId} (h : WBk w R cs t) : w.frozen? ⟨R, 0, none⟩ = false ∧ w.frozen? ⟨R, 1, none⟩ = false ∧ w.frozen? ⟨R, 2, none⟩ = false ∧ w.frozen? ⟨R, 3, none⟩ = false ∧ w.frozen? ⟨R, 4, none⟩ = false := ⟨h.f 0, h.f 1, h.f 2, h.f 3, h.f 4⟩
theorem grw5 (w : World) (R : Nat) (y0 y1 y2 y3 y4 : Value) : w.grownBy (((((w.setCell ⟨R, 0, none⟩ y0).setCell ⟨R, 1, none⟩ y1).setCell ⟨R, 2, none⟩ y2).setCell ⟨R, 3, none⟩ y3).setCell ⟨R, 4, none⟩ y4) (some R) := by
  have q : ∀ k, some R = some k → w.heap.size ≤ k ∨ k = R := fun k e => .inr (Option.some.inj e).symm
  exact grw_trans (grw_trans (grw_trans (grw_trans (grw_set w R 0 y0) (grw_set _ R 1 y1) q) (grw_set _ R 2 y2) q) (grw_set _ R 3 y3) q) (grw_set _ R 4 y4) q
theorem OwnZ.base {w : World} {base base' : Nat} {v : Value} {zs : List Int} (h : OwnZ w base v zs) (hb : base' ≤ base) : OwnZ w base' v zs := Joins.ownsRow_le h hb
theorem four_of {hs : List Int} (h : hs.length = 4) : ∃ a b c d, hs = [a, b, c, d] := by
  match hs, h with
  | [a, b, c, d], _ => exact ⟨a, b, c, d, rfl⟩
theorem grw_bel {w w1 w2 : World} {B N : Nat} (h : w.grownBy w1 (some B)) (hb : Below N w1 w2) (hN : w.heap.size ≤ N) : w.grownBy w2 (some B) :=
  ⟨hb.os.trans h.os, hb.tape.trans h.tape, hb.output.trans h.output, Nat.le_trans h.size hb.size, fun k hk hne => (hb.block k (Nat.lt_of_lt_of_le hk hN)).trans (h.block k hk hne)⟩
theorem bk3 {w : World} {R : Nat} {x0 x1 x2 : Value} {t : TypeId} (h : WBk w R #[x0, x1, x2] t) (y0 y1 y2 : Value) : WBk (((w.setCell ⟨R, 0, none⟩ y0).setCell ⟨R, 1, none⟩ y1).setCell ⟨R, 2, none⟩ y2) R #[y0, y1, y2] t :=
  ((h.set 0 y0).set 1 y1).set 2 y2
theorem WBk.q3 {w : World} {R : Nat} {x0 x1 x2 : Value} {t : TypeId} (h : WBk w R #[x0, x1, x2] t) : w.cell? ⟨R, 0, none⟩ = some x0 ∧ w.cell? ⟨R, 1, none⟩ = some x1 ∧ w.cell? ⟨R, 2, none⟩ = some x2 := ⟨h.c rfl, h.c rfl, h.c rfl⟩
theorem WBk.f3 {w : World} {R : Nat} {cs : Array Value} {t : TypeId} (h : WBk w R cs t) : w.frozen? ⟨R, 0, none⟩ = false ∧ w.frozen? ⟨R, 1, none⟩ = false ∧ w.frozen? ⟨R, 2, none⟩ = false := ⟨h.f 0, h.f 1, h.f 2⟩
theorem grw3 (w : World) (R : Nat) (y0 y1 y2 : Value) : w.grownBy (((w.setCell ⟨R, 0, none⟩ y0).setCell ⟨R, 1, none⟩ y1).setCell ⟨R, 2, none⟩ y2) (some R) := by
  have q : ∀ k, some R = some k → w.heap.size ≤ k ∨ k = R := fun k e => .inr (Option.some.inj e).symm
  exact grw_trans (grw_trans (grw_set w R 0 y0) (grw_set _ R 1 y1) q) (grw_set _ R 2 y2) q
def MatEnd (w w' : World) (B : Nat) (v : Value) (l : List Int) (a : Nat) (e : Ending) : Prop := w.grownBy w' (some B) ∧ ((e = .returned (.tuple #[.agg #[.int .i64 0, .int .i64 0, .slice none 0 0], .bool false]) ∧ rdM (l.drop a) = none) ∨ ∃ b s a', e = .returned (.tuple #[.agg #[.int .i64 b.rows, .int .i64 b.cols, s], .bool true]) ∧ OwnZ w' w.heap.size s b.cells ∧ a' ≤ l.length ∧ WBk w' B #[v, .int .i64 (a' : Int)] 67 ∧ rdM (l.drop a) = some (b, l.drop a'))
set_option maxHeartbeats 16000000 in
set_option maxRecDepth 100000 in
theorem wmatrix_any (v : Value) (l : List Int) (B a : Nat) (xa : Int) (w0 w : World) (hv : IsBys w0 v l) (h0 : Below w0.heap.size w0 w) (hwB : w0.heap.size ≤ B) (hB : WBk w B #[v, .int .i64 xa] 67) (hxa : xa = (a : Int)) (ha : a ≤ l.length) : Calls Tryd.prog 41 #[.pointer (some ⟨B, 0, none⟩)] w (fun e w' => MatEnd w w' B v l a e) := by
  have HV := hide hv
  have H0 := hide h0
  have HWB := hide hwB
  have HLT := hide hB.lt
  obtain ⟨T, hT⟩ : ∃ T, l.drop a = T := ⟨_, rfl⟩
  have HT := hide hT
  obtain ⟨W1, hW1⟩ : ∃ x, x = w.alloc (.cells #[.int .i64 0, .int .i64 0, .slice none 0 0] 24) := ⟨_, rfl⟩
  have HW1 := hide hW1
  have HS1 := hide (show W1.heap.size = w.heap.size + 1 by rw [hW1, World.size_alloc])
  have HR1 := hide (show WBk W1 w.heap.size #[.int .i64 0, .int .i64 0, .slice none 0 0] 24 by rw [hW1]; exact WBk.new _ _ _)
  have HB1 := hide (show WBk W1 B #[v, .int .i64 xa] 67 by rw [hW1]; exact hB.kept (below_one _ _))
  have HG1 := hide (show w.grownBy W1 (some B) by rw [hW1]; exact World.grownBy_alloc _ _ _)
  have HL1 := hide (show Below w0.heap.size w0 W1 by rw [hW1]; exact bel_on h0 (below_one _ _))
  have HN1 := hide (wnumbers_any v l B a 2 xa 2 w0 W1 hv HL1.out hwB HB1.out hxa ha rfl (by omega))
  unfold NumsEnd at HN1
  rw [hT] at HN1
  have HQ := hide (show ∀ k : Nat, some B = some k → w.heap.size ≤ k ∨ k = B from fun k e => .inr (Option.some.inj e).symm)
  have HQR := hide (show ∀ k : Nat, some w.heap.size = some k → w.heap.size ≤ k ∨ k = B from fun k e => .inl (by rw [Option.some.inj e]; exact Nat.le_refl _))
  have HNN := hide (fun x hx => hv_bytes hv x (List.mem_of_mem_drop (show x ∈ l.drop a by rw [hT]; exact hx)))
  clear hv h0 hwB hB hW1 hxa ha hT
  cases h4 : rdNs 2 T with
  | none =>
    rw [h4] at HN1
    have HNO := hide (rdM_no h4)
    clear h4
    go_enter Tryd.func41, Tryd.ntmps41
    go_wp2_with (go_at_call 40; rw [← HW1.out]; refine HN1.out.mono ?_; rintro e w2 ⟨hg2, rfl⟩; have HG2 := hide hg2; have HR2 := hide (show WBk w2 w.heap.size #[.int .i64 0, .int .i64 0, .slice none 0 0] 24 from (hg2.block _ HR1.out.lt (fun e => by have := Option.some.inj e; have := HLT.out; omega)).trans HR1.out); obtain ⟨z0, z1, z2⟩ := HR2.out.f3; obtain ⟨y0, y1, y2⟩ := HR2.out.q3; clear hg2)
    have HF := hide (bk3 HR2.out (.int .i64 0) (.int .i64 0) (.slice none 0 0))
    obtain ⟨q0, q1, q2⟩ := HF.out.q3
    exact bodyPost_ret (v := .tuple #[.agg #[.int .i64 0, .int .i64 0, .slice none 0 0], .bool false]) (by simp [results, Tryd.results41, go_sem, q0, q1, q2]) rfl ⟨grw_trans (grw_trans HG1.out HG2.out HQ.out) (grw3 _ _ _ _ _) HQR.out, .inl ⟨rfl, by rw [HT.out]; exact HNO.out⟩⟩
  | some p =>
    obtain ⟨hs, t⟩ := p
    rw [h4] at HN1
    have H4 := hide h4
    have HP4 := hide (rdNs_nn HNN.out h4)
    clear h4
    go_enter Tryd.func41, Tryd.ntmps41
    go_wp2_with (go_at_call 40; rw [← HW1.out]; refine HN1.out.mono ?_; rintro e w2 ⟨hg2, hd, a1, rfl, ho2, hl2, hb2, ha1, ht1, hk2⟩; obtain ⟨r, c, rfl⟩ := twoI_of hl2; have HG2 := hide hg2; have HO2 := hide ho2; have HB2 := hide hb2; have HA1 := hide ha1; have HT1 := hide ht1; have HK2 := hide hk2; have HR2 := hide (show WBk w2 w.heap.size #[.int .i64 0, .int .i64 0, .slice none 0 0] 24 from (hg2.block _ HR1.out.lt (fun e => by have := Option.some.inj e; have := HLT.out; omega)).trans HR1.out); obtain ⟨hg, hcap, rfl⟩ := Joins.ownsRow_form (show w2.ownsRow W1.heap.size 3 1 hd 2 ([r, c].map (Value.int .i64)) from ho2) (by omega); clear hg2 ho2 hl2 hb2 ha1 ht1 hk2)
    have hbk := HB2.out
    have hr0 := hbk r (by simp)
    have hc0 := hbk c (by simp)
    have HOW := hide (show w2.ownsRow W1.heap.size 3 1 (.slice (some ⟨hg, 0, none⟩) 2 hcap) 2 ([r, c].map (Value.int .i64)) from HO2.out)
    have j0 : w2.cell? ⟨hg, 0, none⟩ = some (.int .i64 r) := World.ownsRow.cellAt HOW.out 0 (by omega)
    have j1 : w2.cell? ⟨hg, 1, none⟩ = some (.int .i64 c) := World.ownsRow.cellAt HOW.out 1 (by omega)
    obtain ⟨wd, hwd⟩ : ∃ x, x = w2.drew := ⟨_, rfl⟩
    have HRD := hide (show WBk wd w.heap.size #[.int .i64 0, .int .i64 0, .slice none 0 0] 24 by rw [hwd]; exact HR2.out)
    have HKD := hide (show WBk wd B #[v, .int .i64 (a1 : Int)] 67 by rw [hwd]; exact HK2.out)
    have HGD := hide (show w.grownBy wd (some B) by rw [hwd]; exact grown_drew (grw_trans HG1.out HG2.out HQ.out))
    have HLD := hide (show Below w0.heap.size w0 wd by rw [hwd]; exact (HL1.out.grown HG2.out HL1.out.size (fun k e => by rw [← Option.some.inj e]; exact HWB.out)).drew)
    have HWD := hide hwd
    clear hbk hwd
    go_region
    rw [← HWD.out]
    clear j0 j1
    obtain ⟨z0, z1, z2⟩ := HRD.out.f3
    obtain ⟨y0, y1, y2⟩ := HRD.out.q3
    have HF2 := hide (bk3 HRD.out (.int .i64 0) (.int .i64 0) (.slice none 0 0))
    by_cases hfar : 24 < r ∨ 12 < c
    · have HNO := hide (show rdM T = none by rw [rdM_two H4.out, if_pos hfar])
      obtain ⟨q0, q1, q2⟩ := HF2.out.q3
      by_cases f1 : 24 < r
      · go_wp2
        exact bodyPost_ret (v := .tuple #[.agg #[.int .i64 0, .int .i64 0, .slice none 0 0], .bool false]) (by simp [results, Tryd.results41, go_sem, q0, q1, q2]) rfl ⟨grw_trans HGD.out (grw3 _ _ _ _ _) HQR.out, .inl ⟨rfl, by rw [HT.out]; exact HNO.out⟩⟩
      · have f2 : 12 < c := hfar.resolve_left f1
        go_wp2
        exact bodyPost_ret (v := .tuple #[.agg #[.int .i64 0, .int .i64 0, .slice none 0 0], .bool false]) (by simp [results, Tryd.results41, go_sem, q0, q1, q2]) rfl ⟨grw_trans HGD.out (grw3 _ _ _ _ _) HQR.out, .inl ⟨rfl, by rw [HT.out]; exact HNO.out⟩⟩
    · have f1 : ¬ 24 < r := fun h => hfar (.inl h)
      have f2 : ¬ 12 < c := fun h => hfar (.inr h)
      have hrc := rc_bd r c ⟨by omega, by omega, by omega, by omega⟩
      obtain ⟨rc, hrce⟩ : ∃ x, r * c = x := ⟨_, rfl⟩
      rw [hrce] at hrc
      have hwrc : IntKind.i64.wrap (r * c) = rc := by rw [hrce, IntKind.wrap_i64]; omega
      have HNE := hide (show rdM T = match rdNs rc.toNat t with | none => none | some (zs, t') => some (⟨r, c, unzL zs⟩, t') by rw [rdM_two H4.out, if_neg hfar, hrce]; rfl)
      have HRC := hide hrce
      have HN2 := hide (wnumbers_any v l B a1 rc.toNat (a1 : Int) rc w0 wd HV.out HLD.out HWB.out HKD.out rfl HA1.out (by omega) (by omega))
      unfold NumsEnd at HN2
      rw [← HT1.out] at HN2
      clear hfar hrce
      cases hz : rdNs rc.toNat t with
      | none =>
        rw [hz] at HN2 HNE
        clear hz
        go_wp2_with (go_at_call 40; refine HN2.out.mono ?_; rintro e w3 ⟨hg3, rfl⟩; have HG3 := hide hg3; have HR3 := hide (show WBk w3 w.heap.size #[.int .i64 0, .int .i64 0, .slice none 0 0] 24 from (hg3.block _ HRD.out.lt (fun e => by have := Option.some.inj e; have := HLT.out; omega)).trans HRD.out); obtain ⟨u0, u1, u2⟩ := HR3.out.f3; obtain ⟨x0, x1, x2⟩ := HR3.out.q3; clear hg3)
        have HF := hide (bk3 HR3.out (.int .i64 0) (.int .i64 0) (.slice none 0 0))
        obtain ⟨q0, q1, q2⟩ := HF.out.q3
        exact bodyPost_ret (v := .tuple #[.agg #[.int .i64 0, .int .i64 0, .slice none 0 0], .bool false]) (by simp [results, Tryd.results41, go_sem, q0, q1, q2]) rfl ⟨grw_trans (grw_trans HGD.out HG3.out HQ.out) (grw3 _ _ _ _ _) HQR.out, .inl ⟨rfl, by rw [HT.out]; exact HNE.out⟩⟩
      | some p =>
        obtain ⟨zs, t'⟩ := p
        rw [hz] at HN2 HNE
        clear hz
        obtain ⟨n, hn⟩ : ∃ n, rc.toNat = n := ⟨_, rfl⟩
        rw [hn] at HN2
        have hn288 : n ≤ 288 := by omega
        clear hn
        go_wp2_with (go_at_call 40; refine HN2.out.mono ?_; rintro e w3 ⟨hg3, sv, a2, rfl, ho3, hl3, hb3, ha2, ht2, hk3⟩; have HG3 := hide hg3; have HO3 := hide ho3; have HB3 := hide hb3; have HA2 := hide ha2; have HT2 := hide ht2; have HK3 := hide hk3; have HL3 := hide hl3; obtain ⟨sa, sk, hse⟩ := ho3.shape; rw [hl3] at hse; subst hse; clear hg3 ho3 hl3 hb3 ha2 ht2 hk3)
        have HR3 := hide (show WBk w3 w.heap.size #[.int .i64 0, .int .i64 0, .slice none 0 0] 24 from (HG3.out.block _ HRD.out.lt (fun e => by have := Option.some.inj e; have := HLT.out; omega)).trans HRD.out)
        have HGW := hide (grw_trans HGD.out HG3.out HQ.out)
        clear z0 z1 z2 y0 y1 y2
        go_loopw [9, 10, 45] (fun _ _ iv wr => ∃ (i : Nat) (xi : Int), i ≤ n ∧ xi = (i : Int) ∧ iv = .int .i64 xi ∧ OwnZ wr wd.heap.size (.slice sa n sk) (mixL zs i) ∧ Below wd.heap.size w3 wr) (fun _ _ iv _ => n - (intOf iv).toNat)
        case atStart => exact ⟨0, 0, Nat.zero_le _, rfl, rfl, by rw [mixL_zero]; exact HO3.out, Below.refl _ _⟩
        case round =>
          obtain ⟨i, xi, hi, hxi, rfl, hown, hbel⟩ := hrel
          have HO := hide hown
          have HBL := hide hbel
          have HXI := hide hxi
          have hi0 : 0 ≤ xi := by omega
          have hi1 : xi ≤ 288 := by omega
          clear hown hbel hxi
          by_cases hlt : xi < (n : Int)
          · obtain ⟨x, hx⟩ : ∃ x, zs[i]? = some x := ⟨_, List.getElem?_eq_getElem (by rw [HL3.out]; have := HXI.out; omega)⟩
            have hxb := HB3.out x (List.mem_of_getElem? hx)
            have HCO := fun W => wcellof_any x W hxb.1 hxb.2
            have HML := hide (show (mixL zs i).length = n by rw [mixL_len, HL3.out])
            have hown : wr.ownsRow wd.heap.size 3 1 (.slice sa n sk) n ((mixL zs i).map (Value.int .i64)) := by have := HO.out; unfold OwnZ at this; rw [HML.out] at this; exact this
            obtain ⟨g, gc, he⟩ := Joins.ownsRow_form hown (by have := HXI.out; omega)
            injection he with he1 he2 he3
            subst he1 he3
            have d1 : wr.cell? ⟨g, i, none⟩ = some (.int .i64 x) := by
              rw [World.ownsRow.cellAt hown i (by have := HXI.out; omega), List.getElem?_map, mixL_at hx]
              rfl
            have d2 := World.ownsRow.frozenAt hown i
            have HST := hide (World.ownsRow.stored hown i (.int .i64 (unz x)))
            have HGB := hide (World.ownsRow.lt hown g rfl)
            have HNX := hide (mixL_next hx)
            rw [show i = xi.toNat by have := HXI.out; omega] at d1 d2
            obtain ⟨ux, hux⟩ : ∃ z, unz x = z := ⟨_, rfl⟩
            rw [hux] at HST HNX
            have HCO2 := hide (HCO wr)
            rw [hux] at HCO2
            clear hown hx hux HCO hxb
            go_wp2_with (go_at_call 51; refine HCO2.out.mono ?_; rintro e w4 ⟨rfl, rfl⟩)
            go_roundw
            case rel =>
              have hii : xi.toNat = i := by have := HXI.out; omega
              refine ⟨i + 1, _, by have := HXI.out; omega, by have := HXI.out; omega, rfl, ?_, ?_⟩
              · rw [hii]
                unfold OwnZ
                rw [← HNX.out, List.length_set, HML.out, List.map_set]
                exact HST.out.1
              · rw [hii]
                exact HBL.out.grown HST.out.2 (Nat.le_trans HG3.out.size HBL.out.size) (fun k e => by rw [← Option.some.inj e]; exact HGB.out.1)
            case measure => have := HXI.out; simp [intOf]; omega
          · have HOF := hide (show OwnZ wr wd.heap.size (.slice sa n sk) (unzL zs) by rw [← mixL_all zs (i := i) (by rw [HL3.out]; have := HXI.out; omega)]; exact HO.out)
            have HBD := hide (show WBk wr w.heap.size #[.int .i64 0, .int .i64 0, .slice none 0 0] 24 from HR3.out.bel HBL.out HRD.out.lt)
            have HKR := hide (show WBk wr B #[v, .int .i64 (a2 : Int)] 67 from HK3.out.bel HBL.out HKD.out.lt)
            obtain ⟨z0, z1, z2⟩ := HBD.out.f3
            obtain ⟨y0, y1, y2⟩ := HBD.out.q3
            have HFB := hide (bk3 HBD.out (.int .i64 r) (.int .i64 c) (.slice sa n sk))
            obtain ⟨q0, q1, q2⟩ := HFB.out.q3
            go_wp2
            have HG5 := hide (grw3 wr w.heap.size (.int .i64 r) (.int .i64 c) (.slice sa n sk))
            refine bodyPost_ret (v := .tuple #[.agg #[.int .i64 r, .int .i64 c, .slice sa n sk], .bool true]) (by simp [results, Tryd.results41, go_sem, q0, q1, q2]) rfl ⟨?_, .inr ⟨⟨r, c, unzL zs⟩, _, a2, rfl, ?_, HA2.out, ?_, ?_⟩⟩
            · exact grw_trans (grw_bel HGW.out HBL.out HGD.out.size) HG5.out HQR.out
            · exact (HOF.out.keptB HG5.out HRD.out.lt).base HGD.out.size
            · exact (HG5.out.block B HKR.out.lt (fun e => by have := Option.some.inj e; have := HLT.out; omega)).trans HKR.out
            · rw [HT.out, ← HT2.out]
              exact HNE.out
end Go.Proofs.YtaajlggpjholeahDoor
