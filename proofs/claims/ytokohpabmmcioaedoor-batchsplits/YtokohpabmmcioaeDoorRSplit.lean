/- What SplitOf of the document's answer comes to: a batch in parts. -/
import Derived.Test.YtokohpabmmcioaeDoorRBatch
import Derived.Test.YtokohpabmmcioaeDoorRMatA
import Derived.Test.YtokohpabmmcioaeDoorNetB
import Derived.Test.YtokohpabmmcioaeDoorBatS
namespace Go.Proofs.YtokohpabmmcioaeDoor
open Go.RowKit

set_option maxHeartbeats 16000000 in
set_option maxRecDepth 100000 in
theorem rsplit_any (b : Mx × Mx) (parts : Int) (sa : Option Addr) (sn sk : Nat) (ta : Option Addr) (tn tk : Nat) (w : World) (hs : IsInts w (.slice sa sn sk) b.1.cells) (ht : IsInts w (.slice ta tn tk) b.2.cells) :
    Calls Tryd.prog 12 #[.agg #[.int .i64 b.1.rows, .int .i64 b.1.cols, .slice sa sn sk, .int .i64 b.2.rows, .int .i64 b.2.cols, .slice ta tn tk], .int .i64 parts] w fun e w' => ∃ u, e = .returned (.tuple #[u, .int .i64 (splE b parts)]) ∧ IsBts w' u (splX b parts) ∧ Below w.heap.size w w' := by
  obtain ⟨V, hV⟩ : ∃ V, V = w.alloc (.cells #[.int .i64 b.1.rows, .int .i64 b.1.cols, .slice sa sn sk, .int .i64 b.2.rows, .int .i64 b.2.cols, .slice ta tn tk] 26) := ⟨_, rfl⟩
  have HV := hide hV
  have HWV : Hid (Below w.heap.size w V) := by rw [hV]; exact hide (below_one _ _)
  have HBX : Hid (Box V w.heap.size [.int .i64 b.1.rows, .int .i64 b.1.cols, .slice sa sn sk, .int .i64 b.2.rows, .int .i64 b.2.cols, .slice ta tn tk]) := by rw [hV]; exact hide (Box.new w _ 26 rfl)
  obtain ⟨E, hE⟩ : ∃ E, splE b parts = E := ⟨_, rfl⟩
  obtain ⟨X, hX⟩ : ∃ X, splX b parts = X := ⟨_, rfl⟩
  have HE := hide (show (if batE b ≠ 0 then batE b else szE b.1.rows parts) = E by rw [← hE]; rfl)
  have HX := hide (show (if E = 0 then (List.range parts.toNat).map (partX b parts.toNat b.1.rows.toNat) else []) = X by rw [← hX, ← hE]; rfl)
  rw [hE, hX]
  have HI := hide (And.intro hs ht)
  have HF := hide (rbatfault_any b sa sn sk ta tn tk V (hs.below HWV.out) (ht.below HWV.out))
  obtain ⟨g1, hg1⟩ : ∃ x, batE b = x := ⟨_, rfl⟩
  rw [hg1] at HF HE
  have HG1 := hide hg1
  have d0 := HBX.out 0 _ rfl
  have d1 := HBX.out 1 _ rfl
  have d2 := HBX.out 2 _ rfl
  have d3 := HBX.out 3 _ rfl
  have d4 := HBX.out 4 _ rfl
  have d5 := HBX.out 5 _ rfl
  rw [HV.out] at d0 d1 d2 d3 d4 d5
  clear hV hE hX hs ht hg1
  go_enter Tryd.func12, Tryd.ntmps12
  go_wp2_with fail
  rw [← HV.out]
  refine HF.out.mono ?_
  rintro e w1 ⟨rfl, hb1⟩
  have HB1 := hide hb1
  have HW1 := hide (below_next HWV.out hb1)
  clear hb1 d0 d1 d2 d3 d4 d5 HF
  by_cases c1 : g1 = 0
  · subst c1
    have HE2 := hide (show szE b.1.rows parts = E by rw [← HE.out, if_neg (by simp)])
    have HZ := hide (rsizes_any b.1.rows parts w1)
    rw [HE2.out] at HZ
    have d0 := (HBX.out.below HB1.out) 0 _ rfl
    go_wp2_with fail
    refine HZ.out.mono ?_
    rintro e W2 ⟨z, rfl, hz, hb2, _⟩
    have HZI := hide hz
    have HB2 := hide (below_next HB1.out hb2)
    have HW2 := hide (below_next HW1.out hb2)
    clear hz hb2 d0 HZ
    by_cases c2 : E = 0
    · subst c2
      obtain ⟨h1, h2, h3, h4⟩ := bat_good HG1.out
      have hsz : ¬ (b.1.rows < 1 ∨ 24 < b.1.rows ∨ parts < 1 ∨ 12 < parts) ∧ ¬ b.1.rows < parts := by
        have h := HE2.out
        unfold szE at h
        by_cases a1 : b.1.rows < 1 ∨ 24 < b.1.rows ∨ parts < 1 ∨ 12 < parts
        · rw [if_pos a1] at h; cases h
        · rw [if_neg a1] at h
          by_cases a2 : b.1.rows < parts
          · rw [if_pos a2] at h; cases h
          · exact ⟨a1, a2⟩
      obtain ⟨P, hP⟩ : ∃ P : Nat, parts = (P : Int) := ⟨parts.toNat, by omega⟩
      obtain ⟨Q, hQ⟩ : ∃ Q : Nat, b.1.rows = (Q : Int) := ⟨b.1.rows.toNat, by omega⟩
      have HXE : Hid (X = (List.range P).map (partX b P Q)) := hide (by rw [← HX.out, if_pos rfl, hP, hQ]; simp)
      have HPQ := hide (show parts = (P : Int) ∧ b.1.rows = (Q : Int) ∧ b.2.rows = (Q : Int) ∧ 0 < P ∧ P ≤ 12 ∧ Q ≤ 24 from ⟨hP, hQ, by omega, by omega, by omega, by omega⟩)
      have HFF := hide (And.intro h1 h2)
      have HZX : Hid (szX b.1.rows parts = tab P (fun j => cnt P j Q)) := hide (by unfold szX; rw [if_pos HE2.out, hP, hQ]; simp)
      obtain ⟨za, zn, zk, rfl⟩ := HZI.out.shape
      have hzn : zn = P := by
        obtain ⟨_, _, e1, _⟩ := HZI.out
        have e2 := (Value.slice.inj e1).2.1
        rw [HZX.out, tab_len] at e2; exact e2
      subst hzn
      obtain ⟨e0, ei, hz0, hz1, hz2⟩ := info_parts infoBt
      have HEI := hide (And.intro ei (And.intro hz0 (And.intro hz1 hz2)))
      have hpl : parts ≤ 12 := by have := HPQ.out; omega
      clear h1 h2 h3 h4 hsz hP hQ ei hz0 hz1 hz2
      go_wp2
      go_loopw [8, 9, 10] (fun u f c wr => ∃ (i : Nat) (xi xf : Int), i ≤ zn ∧ xi = (i : Int) ∧ c = .int .i64 xi ∧ f = .int .i64 xf ∧ xf = begAt zn Q i ∧ Owns W2.heap.size W2.heap.size wr 26 6 u i (((List.range i).map (partX b zn Q)).flatMap gdS) ∧ Below W2.heap.size W2 wr) (fun _ _ c _ => zn - (intOf c).toNat)
      case atStart => exact ⟨0, 0, 0, Nat.zero_le _, rfl, rfl, rfl, rfl, Owns.nil _ _ _ _ _, Below.refl _ _⟩
      case round =>
        obtain ⟨i, xi, xf, hi, hxi, rfl, rfl, hxf, how, hb⟩ := hrel
        have HXI := hide hxi
        have HXF := hide hxf
        have HO := hide how
        have HB := hide hb
        have hxi0 : 0 ≤ xi := by omega
        have hxi1 : xi ≤ 12 := by have := HPQ.out; omega
        have hf0 : 0 ≤ xf := by have := begAt_nonneg zn Q i; omega
        have hf1 : xf ≤ 24 := by have := begAt_le zn i Q; have := HPQ.out; omega
        clear hxi hxf how hb
        by_cases hlt : xi < parts
        · have hin : i < zn := by have := HXI.out; have := HPQ.out.1; omega
          have hlz : xi < (zn : Int) := by have := HPQ.out.1; omega
          have hxn : xi.toNat = i := by have := HXI.out; omega
          obtain ⟨si, hsi⟩ : ∃ x, cnt zn i Q = x := ⟨_, rfl⟩
          have hs0 : 0 ≤ si := by have := cnt_nonneg zn i Q; omega
          have hs1 : si ≤ 24 := by have := cnt_le zn i Q; have := HPQ.out; omega
          have hnx : begAt zn Q (i + 1) = xf + si := by show begAt zn Q i + cnt zn i Q = _; rw [hsi, ← HXF.out]
          have hle : xf + si ≤ (Q : Int) := by rw [← hnx]; exact begAt_le zn (i + 1) Q
          have HNX := hide hnx
          have hwr : IntKind.i64.wrap (xf + si) = xf + si := by rw [IntKind.wrap_i64]; omega
          obtain ⟨zo', zcap, hz1, _, _, h4z⟩ := HZI.out
          have hzi : (szX b.1.rows parts)[i]? = some si := by rw [HZX.out, tab_at hin, hsi]
          obtain ⟨zb, zo, rz, hclz⟩ := h4z.resolve_left (fun e => by rw [e] at hzi; simp at hzi)
          replace hz1 := (Value.slice.inj hz1).1
          rw [rz] at hz1
          subst hz1
          have HCZ := hide (show W2.cell? ⟨zb, zo + xi.toNat, none⟩ = some (.int .i64 si) by rw [hxn]; exact hclz _ _ hzi)
          have rE1 : rowsE b.1 xf (xf + si) = 0 := by unfold rowsE; rw [if_neg (by simp [HFF.out.1]), if_neg (by have := HPQ.out.2.1; omega)]
          have rE2 : rowsE b.2 xf (xf + si) = 0 := by unfold rowsE; rw [if_neg (by simp [HFF.out.2]), if_neg (by have := HPQ.out.2.2.1; omega)]
          obtain ⟨x1, ex1⟩ : ∃ x, rowsX b.1 xf (xf + si) = x := ⟨_, rfl⟩
          obtain ⟨x2, ex2⟩ : ∃ x, rowsX b.2 xf (xf + si) = x := ⟨_, rfl⟩
          have HPX := hide (show partX b zn Q i = (x1, x2) by unfold partX; rw [hnx, ← HXF.out, ex1, ex2])
          have HT := hide (fun W (h : Below wr.heap.size wr W) => ref_rows xf (xf + si) W (va := (.agg #[.int .i64 b.1.rows, .int .i64 b.1.cols, .slice sa sn sk])) (a := b.1) ⟨_, rfl, HI.out.1.below (below_next HW2.out (below_next HB.out h))⟩ rE1 HFF.out.1 hf0 (by omega) (by have := HPQ.out.2.1; omega))
          rw [ex1] at HT
          have HTB := hide (fun W (h : Below W2.heap.size W2 W) => ref_rows xf (xf + si) W (va := (.agg #[.int .i64 b.2.rows, .int .i64 b.2.cols, .slice ta tn tk])) (a := b.2) ⟨_, rfl, HI.out.2.below (below_next HW2.out h)⟩ rE2 HFF.out.2 hf0 (by omega) (by have := HPQ.out.2.2.1; omega))
          rw [ex2] at HTB
          have HSB : Hid (∀ W', Below wr.heap.size wr W' → (fun W' => W'.cell? ⟨w.heap.size, 0, none⟩ = some (.int .i64 b.1.rows) ∧ W'.cell? ⟨w.heap.size, 1, none⟩ = some (.int .i64 b.1.cols) ∧ W'.cell? ⟨w.heap.size, 2, none⟩ = some (.slice sa sn sk) ∧ W'.cell? ⟨zb, zo + xi.toNat, none⟩ = some (.int .i64 si)) W') := hide (fun W' h => have hx := HBX.out.below (below_next HB2.out (below_next HB.out h)); ⟨hx 0 _ rfl, hx 1 _ rfl, hx 2 _ rfl, cell_below (below_next HB.out h) HCZ.out⟩)
          clear hclz h4z rz hzi rE1 rE2 ex1 ex2 hsi hnx hxn
          have HT3 := hide (HT.out (wr.alloc (.cells #[.int .i64 0, .int .i64 0, .slice none 0 0] 24)).drew (bel_drew (bel_alloc (Below.refl wr.heap.size wr))))
          have HT0 := hide (HT.out wr.drew (bel_drew (Below.refl wr.heap.size wr)))
          obtain ⟨lm0, lm1, lm2, lm3⟩ := HSB.out wr (Below.refl _ _)
          go_wp2
          go_cut [11] from 34 to 43 (fun a wx => ∃ (Bk : Nat) (qa : Option Addr) (qn qk : Nat), a = .pointer (some ⟨Bk, 0, none⟩) ∧ IsMx wx (.agg #[.int .i64 x1.rows, .int .i64 x1.cols, .slice qa qn qk]) x1 ∧ Cells3 wx Bk (.int .i64 x1.rows) (.int .i64 x1.cols) (.slice qa qn qk) ∧ wr.heap.size ≤ Bk ∧ Fresh wr.heap.size (.agg #[.int .i64 x1.rows, .int .i64 x1.cols, .slice qa qn qk]) ∧ Below wr.heap.size wr wx)
          case first =>
            go_region_held3 (fun W' => W'.cell? ⟨w.heap.size, 0, none⟩ = some (.int .i64 b.1.rows) ∧ W'.cell? ⟨w.heap.size, 1, none⟩ = some (.int .i64 b.1.cols) ∧ W'.cell? ⟨w.heap.size, 2, none⟩ = some (.slice sa sn sk) ∧ W'.cell? ⟨zb, zo + xi.toNat, none⟩ = some (.int .i64 si)) ((refine HSB.out _ ?_; repeat' (first | with_reducible exact Below.refl _ _ | with_reducible exact HB2.out | with_reducible refine bel_drew ?_ | with_reducible refine bel_alloc ?_ | with_reducible refine bel_set ?_ ?_ | exact Nat.le_refl _ | exact Nat.le_succ _ | exact HB2.out.size | exact Nat.le_succ_of_le HB2.out.size)))
              (first
                | (go_at_call 19; guard_target = Calls _ _ _ (World.drew (World.alloc wr (Obj.cells #[_, _, _] _))) _; refine HT3.out.mono ?_; rintro e wz ⟨ja, jn, jk, rfl, hm, hb2, hf⟩; have hc2 := below_next (below_dr (Below.refl _ (wr.alloc (.cells #[.int .i64 0, .int .i64 0, .slice none 0 0] 24)))) hb2; have HB2 := hide (show Below wr.heap.size wr wz from below_next (below_one wr (.cells #[.int .i64 0, .int .i64 0, .slice none 0 0] 24)) hc2); have ZB3 := hide ((Box.new wr [.int .i64 0, .int .i64 0, .slice none 0 0] 24 (B := wr.heap.size) rfl).below hc2); have ZB3l := hide (Box.new wr [.int .i64 0, .int .i64 0, .slice none 0 0] 24 (B := wr.heap.size) rfl).lt; have ZF3 := hide ((Free.new wr #[.int .i64 0, .int .i64 0, .slice none 0 0] 24 (B := wr.heap.size) rfl).below hc2 ZB3l.out); have z30 := ZB3.out 0 _ rfl; have f30 := ZF3.out 0; have z31 := ZB3.out 1 _ rfl; have f31 := ZF3.out 1; have z32 := ZB3.out 2 _ rfl; have f32 := ZF3.out 2; have HEa : Hid (Cells3 (((wz.setCell ⟨wr.heap.size, 0, none⟩ (.int .i64 x1.rows)).setCell ⟨wr.heap.size, 1, none⟩ (.int .i64 x1.cols)).setCell ⟨wr.heap.size, 2, none⟩ (.slice ja jn jk)) wr.heap.size (.int .i64 x1.rows) (.int .i64 x1.cols) (.slice ja jn jk)) := hide (cells3_of (set_three ZB3.out _ _ _)); have HF := hide (show Fresh (wr.heap.size + 1) (.agg #[.int .i64 x1.rows, .int .i64 x1.cols, .slice ja jn jk]) from fresh_mono hf (szd1 _ _)); have HG := hide (fresh_mono HF.out (Nat.le_succ _)); have HNb := hide (Nat.le_refl wr.heap.size); clear hc2; have HN := hide hm; clear hb2 hm hf)
                | (go_at_call 19; guard_target = Calls _ _ _ (World.drew wr) _; refine HT0.out.mono ?_; rintro e wz ⟨ja, jn, jk, rfl, hm, hb2, hf⟩; have hc2 := below_next (below_dr (Below.refl _ wr)) hb2; have HB2 := hide (show Below wr.heap.size wr wz from hc2); have HEa : Hid (Cells3 (wz.alloc (.cells #[.int .i64 x1.rows, .int .i64 x1.cols, .slice ja jn jk] 24)) wz.heap.size (.int .i64 x1.rows) (.int .i64 x1.cols) (.slice ja jn jk)) := hide (cells3_of (Box.new wz [.int .i64 x1.rows, .int .i64 x1.cols, .slice ja jn jk] 24 rfl)); have HF := hide (show Fresh wr.heap.size (.agg #[.int .i64 x1.rows, .int .i64 x1.cols, .slice ja jn jk]) from hf); have HG := HF; have HNb := hide HB2.out.size; clear hc2; have HN := hide hm; clear hb2 hm hf))
            all_goals go_wp2
            all_goals go_meet
            all_goals
              refine ⟨_, ja, jn, jk, rfl, ?_, ?_, HNb.out, HG.out, ?_⟩
              · (refine HN.out.above HF.out ?_; repeat' (first | with_reducible exact Above.refl _ _ | with_reducible refine abv_drew ?_ | with_reducible refine abv_alloc ?_ | with_reducible refine abv_low ?_ (by omega)))
              · with_reducible exact HEa.out
              · repeat' (first | with_reducible exact Below.refl _ _ | with_reducible exact HB2.out | with_reducible refine bel_drew ?_ | with_reducible refine bel_alloc ?_ | with_reducible refine bel_set ?_ ?_ | exact Nat.le_refl _ | exact Nat.le_succ _ | exact HB2.out.size | exact Nat.le_succ_of_le HB2.out.size)
          case rest =>
            obtain ⟨B1, ja, jn, jk, rfl, hmx, ⟨c0, c1, c2⟩, hBk, hfq, hbc⟩ := hcut
            obtain ⟨wa, hwa⟩ : ∃ wa, wa = wc := ⟨_, rfl⟩
            subst hwa
            have HDA := hide hbc
            have HBA := hide (below_next HB.out hbc)
            have HM1 := hide hmx.ints
            have HF1 := hide hfq
            have HC1 := hide (show Cells3 wa B1 (.int .i64 x1.rows) (.int .i64 x1.cols) (.slice ja jn jk) from ⟨c0, c1, c2⟩)
            clear hmx hBk hfq hbc c0 c1 c2 HT HSB HT0 HT3 lm0 lm1 lm2 lm3
            have HT := hide (fun W (h : Below wa.heap.size wa W) => HTB.out W (below_next HBA.out h))
            have HSB : Hid (∀ W', Below wa.heap.size wa W' → (fun W' => W'.cell? ⟨w.heap.size, 3, none⟩ = some (.int .i64 b.2.rows) ∧ W'.cell? ⟨w.heap.size, 4, none⟩ = some (.int .i64 b.2.cols) ∧ W'.cell? ⟨w.heap.size, 5, none⟩ = some (.slice ta tn tk) ∧ W'.cell? ⟨zb, zo + xi.toNat, none⟩ = some (.int .i64 si)) W') := hide (fun W' h => have hx := HBX.out.below (below_next HB2.out (below_next HBA.out h)); ⟨hx 3 _ rfl, hx 4 _ rfl, hx 5 _ rfl, cell_below (below_next HBA.out h) HCZ.out⟩)
            have HT3 := hide (HT.out (wa.alloc (.cells #[.int .i64 0, .int .i64 0, .slice none 0 0] 24)).drew (bel_drew (bel_alloc (Below.refl wa.heap.size wa))))
            have HT0 := hide (HT.out wa.drew (bel_drew (Below.refl wa.heap.size wa)))
            obtain ⟨lm0, lm1, lm2, lm3⟩ := HSB.out wa (Below.refl _ _)
            go_wp2
            go_cut [12] from 44 to 53 (fun a wx => ∃ (Bk : Nat) (qa : Option Addr) (qn qk : Nat), a = .pointer (some ⟨Bk, 0, none⟩) ∧ IsMx wx (.agg #[.int .i64 x2.rows, .int .i64 x2.cols, .slice qa qn qk]) x2 ∧ Cells3 wx Bk (.int .i64 x2.rows) (.int .i64 x2.cols) (.slice qa qn qk) ∧ wa.heap.size ≤ Bk ∧ Fresh wa.heap.size (.agg #[.int .i64 x2.rows, .int .i64 x2.cols, .slice qa qn qk]) ∧ Below wa.heap.size wa wx)
            case first =>
              go_region_held3 (fun W' => W'.cell? ⟨w.heap.size, 3, none⟩ = some (.int .i64 b.2.rows) ∧ W'.cell? ⟨w.heap.size, 4, none⟩ = some (.int .i64 b.2.cols) ∧ W'.cell? ⟨w.heap.size, 5, none⟩ = some (.slice ta tn tk) ∧ W'.cell? ⟨zb, zo + xi.toNat, none⟩ = some (.int .i64 si)) ((refine HSB.out _ ?_; repeat' (first | with_reducible exact Below.refl _ _ | with_reducible exact HB2.out | with_reducible refine bel_drew ?_ | with_reducible refine bel_alloc ?_ | with_reducible refine bel_set ?_ ?_ | exact Nat.le_refl _ | exact Nat.le_succ _ | exact HB2.out.size | exact Nat.le_succ_of_le HB2.out.size)))
                (first
                  | (go_at_call 19; guard_target = Calls _ _ _ (World.drew (World.alloc wa (Obj.cells #[_, _, _] _))) _; refine HT3.out.mono ?_; rintro e wz ⟨ga, gn, gk, rfl, hm, hb2, hf⟩; have hc2 := below_next (below_dr (Below.refl _ (wa.alloc (.cells #[.int .i64 0, .int .i64 0, .slice none 0 0] 24)))) hb2; have HB2 := hide (show Below wa.heap.size wa wz from below_next (below_one wa (.cells #[.int .i64 0, .int .i64 0, .slice none 0 0] 24)) hc2); have ZB3 := hide ((Box.new wa [.int .i64 0, .int .i64 0, .slice none 0 0] 24 (B := wa.heap.size) rfl).below hc2); have ZB3l := hide (Box.new wa [.int .i64 0, .int .i64 0, .slice none 0 0] 24 (B := wa.heap.size) rfl).lt; have ZF3 := hide ((Free.new wa #[.int .i64 0, .int .i64 0, .slice none 0 0] 24 (B := wa.heap.size) rfl).below hc2 ZB3l.out); have z30 := ZB3.out 0 _ rfl; have f30 := ZF3.out 0; have z31 := ZB3.out 1 _ rfl; have f31 := ZF3.out 1; have z32 := ZB3.out 2 _ rfl; have f32 := ZF3.out 2; have HEa : Hid (Cells3 (((wz.setCell ⟨wa.heap.size, 0, none⟩ (.int .i64 x2.rows)).setCell ⟨wa.heap.size, 1, none⟩ (.int .i64 x2.cols)).setCell ⟨wa.heap.size, 2, none⟩ (.slice ga gn gk)) wa.heap.size (.int .i64 x2.rows) (.int .i64 x2.cols) (.slice ga gn gk)) := hide (cells3_of (set_three ZB3.out _ _ _)); have HF := hide (show Fresh (wa.heap.size + 1) (.agg #[.int .i64 x2.rows, .int .i64 x2.cols, .slice ga gn gk]) from fresh_mono hf (szd1 _ _)); have HG := hide (fresh_mono HF.out (Nat.le_succ _)); have HNb := hide (Nat.le_refl wa.heap.size); clear hc2; have HN := hide hm; clear hb2 hm hf)
                  | (go_at_call 19; guard_target = Calls _ _ _ (World.drew wa) _; refine HT0.out.mono ?_; rintro e wz ⟨ga, gn, gk, rfl, hm, hb2, hf⟩; have hc2 := below_next (below_dr (Below.refl _ wa)) hb2; have HB2 := hide (show Below wa.heap.size wa wz from hc2); have HEa : Hid (Cells3 (wz.alloc (.cells #[.int .i64 x2.rows, .int .i64 x2.cols, .slice ga gn gk] 24)) wz.heap.size (.int .i64 x2.rows) (.int .i64 x2.cols) (.slice ga gn gk)) := hide (cells3_of (Box.new wz [.int .i64 x2.rows, .int .i64 x2.cols, .slice ga gn gk] 24 rfl)); have HF := hide (show Fresh wa.heap.size (.agg #[.int .i64 x2.rows, .int .i64 x2.cols, .slice ga gn gk]) from hf); have HG := HF; have HNb := hide HB2.out.size; clear hc2; have HN := hide hm; clear hb2 hm hf))
              all_goals go_wp2
              all_goals go_meet
              all_goals
                refine ⟨_, ga, gn, gk, rfl, ?_, ?_, HNb.out, HG.out, ?_⟩
                · (refine HN.out.above HF.out ?_; repeat' (first | with_reducible exact Above.refl _ _ | with_reducible refine abv_drew ?_ | with_reducible refine abv_alloc ?_ | with_reducible refine abv_low ?_ (by omega)))
                · with_reducible exact HEa.out
                · repeat' (first | with_reducible exact Below.refl _ _ | with_reducible exact HB2.out | with_reducible refine bel_drew ?_ | with_reducible refine bel_alloc ?_ | with_reducible refine bel_set ?_ ?_ | exact Nat.le_refl _ | exact Nat.le_succ _ | exact HB2.out.size | exact Nat.le_succ_of_le HB2.out.size)
            case rest =>
              obtain ⟨B2, ga, gn, gk, rfl, hmx, ⟨c0, c1, c2⟩, hBk, hfq, hbc⟩ := hcut
              obtain ⟨wb, hwb⟩ : ∃ wb, wb = wc := ⟨_, rfl⟩
              subst hwb
              have HDB := hide hbc
              have HDR := hide (below_next HDA.out hbc)
              have HBB := hide (below_next HBA.out hbc)
              have HM2 := hide hmx.ints
              have HF2 := hide hfq
              have HGL := hide (show ∀ x, (fun b => u8.ownBlock = some b ∨ (W2.heap.size ≤ b ∧ b < W2.heap.size)) x → x < wr.heap.size from fun x hx => by
                rcases hx with hx | hx
                · exact (HO.out.lt x hx).2
                · omega)
              have HGA := hide (show ∀ x, (fun b => u8.ownBlock = some b ∨ (W2.heap.size ≤ b ∧ b < W2.heap.size)) x → x < wa.heap.size from fun x hx => Nat.lt_of_lt_of_le (HGL.out x hx) HDA.out.size)
              have HOA := hide (HO.out.below (bel_alloc (o := (.cells #[.int .i64 x1.rows, .int .i64 x1.cols, .slice ja jn jk, .int .i64 x2.rows, .int .i64 x2.cols, .slice ga gn gk] 26)) HDR.out))
              have HEN := hide (show Enc (wb.alloc (.cells #[.int .i64 x1.rows, .int .i64 x1.cols, .slice ja jn jk, .int .i64 x2.rows, .int .i64 x2.cols, .slice ga gn gk] 26)) (fun b => u8.ownBlock = some b ∨ (W2.heap.size ≤ b ∧ b < W2.heap.size)) (gdS (x1, x2)) [.int .i64 x1.rows, .int .i64 x1.cols, .slice ja jn jk, .int .i64 x2.rows, .int .i64 x2.cols, .slice ga gn gk] from enc_gd (d := (x1, x2)) (((part_fresh HM1.out HF1.out HGL.out).below HDB.out).below (below_one _ _)) ((part_fresh HM2.out HF2.out HGA.out).below (below_one _ _)))
              have HNB := hide (show Box (wb.alloc (.cells #[.int .i64 x1.rows, .int .i64 x1.cols, .slice ja jn jk, .int .i64 x2.rows, .int .i64 x2.cols, .slice ga gn gk] 26)) wb.heap.size [.int .i64 x1.rows, .int .i64 x1.cols, .slice ja jn jk, .int .i64 x2.rows, .int .i64 x2.cols, .slice ga gn gk] from Box.new _ _ _ rfl)
              have HBS := hide (show W2.heap.size ≤ (wb.alloc (.cells #[.int .i64 x1.rows, .int .i64 x1.cols, .slice ja jn jk, .int .i64 x2.rows, .int .i64 x2.cols, .slice ga gn gk] 26)).heap.size from Nat.le_trans HBB.out.size (below_one wb (.cells #[.int .i64 x1.rows, .int .i64 x1.cols, .slice ja jn jk, .int .i64 x2.rows, .int .i64 x2.cols, .slice ga gn gk] 26)).size)
              obtain ⟨p0, p1, p2⟩ := HC1.out
              replace p0 := cell_below HDB.out p0
              replace p1 := cell_below HDB.out p1
              replace p2 := cell_below HDB.out p2
              clear hmx hBk hfq hbc HT HSB HT0 HT3 lm0 lm1 lm2 lm3
              go_wp2_with (at_builtin; refine wpList_append_owns rfl _ _ 38 rfl W2.heap.size 26 e0 (.agg #[.int .i64 0, .int .i64 0, .slice none 0 0, .int .i64 0, .int .i64 0, .slice none 0 0]) 6 80 Tryd.underlying38 HEI.out.1 HEI.out.2.1 HEI.out.2.2.1 HEI.out.2.2.2 rfl (by decide) W2.heap.size _ _ _ rfl HOA.out ⟨wb.heap.size, 0, none⟩ 1 1 [.int .i64 x1.rows, .int .i64 x1.cols, .slice ja jn jk, .int .i64 x2.rows, .int .i64 x2.cols, .slice ga gn gk] rfl rfl (fun q u hq => by rw [addr_add]; exact HNB.out q u hq) (gdS (x1, x2)) HEN.out ?d3 ?d4 HBS.out ?_)
              case d3 => unfold maxLen; have := HPQ.out; omega
              case d4 => have := HPQ.out; omega
              intro v9 w9 hown hgrow hwh
              have HB9 := hide (show Below W2.heap.size W2 w9 from (bel_alloc (o := (.cells #[.int .i64 x1.rows, .int .i64 x1.cols, .slice ja jn jk, .int .i64 x2.rows, .int .i64 x2.cols, .slice ga gn gk] 26)) HBB.out).grown hgrow HBS.out (fun k hk => (HO.out.lt k hk).1))
              rw [flat_snoc, ← HPX.out, range_map_snoc] at hown
              have HOW := hide hown
              have m0 := cell_below HB9.out HCZ.out
              clear hown hgrow hwh p0 p1 p2 c0 c1 c2
              go_wp2
              go_roundw
              case rel => exact ⟨i + 1, _, _, by omega, by have := HXI.out; omega, rfl, rfl, HNX.out.symm, HOW.out, HB9.out⟩
              case measure => have := HXI.out; have := HPQ.out.1; simp [intOf]; omega
        · have hin : i = zn := by have := HXI.out; have := HPQ.out.1; omega
          have HM := hide (show IsBts wr u8 X by
            rw [HXE.out]
            show Reads _ _ ((List.range zn).map (partX b zn Q)).length _
            rw [List.length_map, List.length_range]
            have h := HO.out.reads
            rw [hin] at h; exact h)
          clear hin
          go_wp2
          exact bodyPost_ret (v := .tuple #[u8, .int .i64 0]) (by simp [results, Tryd.results12, go_sem]) rfl ⟨_, rfl, HM.out, below_next HW2.out HB.out⟩
    · obtain rfl : X = [] := by rw [← HX.out, if_neg c2]
      have n2 : (E != 0) = true := by simpa using c2
      clear c2
      obtain ⟨za, zn, zk, rfl⟩ := HZI.out.shape
      go_wp2
      exact bodyPost_ret (v := .tuple #[.slice none 0 0, .int .i64 E]) (by simp [results, Tryd.results12, go_sem]) rfl ⟨_, rfl, isBts_nil _, HW2.out⟩
  · obtain rfl : g1 = E := by rw [← HE.out, if_pos c1]
    obtain rfl : X = [] := by rw [← HX.out, if_neg c1]
    have n1 : (g1 != 0) = true := by simpa using c1
    clear c1
    go_wp2
    exact bodyPost_ret (v := .tuple #[.slice none 0 0, .int .i64 g1]) (by simp [results, Tryd.results12, go_sem]) rfl ⟨_, rfl, isBts_nil _, HW1.out⟩
end Go.Proofs.YtokohpabmmcioaeDoor
