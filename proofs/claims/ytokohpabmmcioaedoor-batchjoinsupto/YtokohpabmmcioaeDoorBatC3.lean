/- What stack and Join of package batch come to: batches joined. Condition: not more than two million batches. -/
import Derived.Test.YtokohpabmmcioaeDoorBatC1
import Derived.Test.YtokohpabmmcioaeDoorBatJ
import Derived.Test.YtokohpabmmcioaeDoorMkL
import Derived.Test.YtokohpabmmcioaeDoorLists2
namespace Go.Proofs.YtokohpabmmcioaeDoor
open Go.RowKit
/-- What a call that gives a batch comes to. -/
def BtErr (w : World) (X : Mx × Mx) (E : Int) (e : Ending) (w' : World) : Prop := ∃ (pa : Option Addr) (pn pk : Nat) (qa : Option Addr) (qn qk : Nat), e = .returned (.tuple #[.agg #[.int .i64 X.1.rows, .int .i64 X.1.cols, .slice pa pn pk, .int .i64 X.2.rows, .int .i64 X.2.cols, .slice qa qn qk], errV E]) ∧ IsInts w' (.slice pa pn pk) X.1.cells ∧ IsInts w' (.slice qa qn qk) X.2.cells ∧ Fresh w.heap.size (.agg #[.int .i64 X.1.rows, .int .i64 X.1.cols, .slice pa pn pk]) ∧ Fresh w.heap.size (.agg #[.int .i64 X.2.rows, .int .i64 X.2.cols, .slice qa qn qk]) ∧ Below w.heap.size w w'
theorem MxErr.full {w : World} {m : Mx} {j : Int} {e : Ending} {w' : World} (h : MxErr w m j e w') : ∃ a n k, e = .returned (.tuple #[.agg #[.int .i64 m.rows, .int .i64 m.cols, .slice a n k], errV j]) ∧ IsInts w' (.slice a n k) m.cells ∧ Below w.heap.size w w' ∧ Fresh w.heap.size (.agg #[.int .i64 m.rows, .int .i64 m.cols, .slice a n k]) := by
  obtain ⟨v, rfl, ⟨s, rfl, hs⟩, hb, hf⟩ := h
  obtain ⟨a, n, k, rfl⟩ := hs.shape
  exact ⟨a, n, k, rfl, hs, hb, hf⟩
theorem btErr_no {w w' : World} {E : Int} {v : Value} (hv : v = errV E) (hb : Below w.heap.size w w') : BtErr w (noMx, noMx) E (.returned (.tuple #[.agg #[.int .i64 0, .int .i64 0, .slice none 0 0, .int .i64 0, .int .i64 0, .slice none 0 0], v])) w' := ⟨none, 0, 0, none, 0, 0, by rw [hv]; rfl, IsInts.nil _, IsInts.nil _, fresh_no _ _ _, fresh_no _ _ _, hb⟩
set_option maxHeartbeats 16000000 in
set_option maxRecDepth 100000 in
theorem bstack_any (v : Value) (ds : List (Mx × Mx)) (w : World) (hv : IsGds w v ds) (hmax : ds.length ≤ 2000000) :
    Calls Tryd.prog 21 #[v] w (BtErr w (stkX ds) (stkE ds)) := by
  obtain ⟨a, cap, rfl, hlc, hcm⟩ := hv.shape
  have HV := hide hv
  obtain ⟨n, hn⟩ : ∃ n, ds.length = n := ⟨_, rfl⟩
  have HN := hide hn
  rw [hn] at HV hmax ⊢
  clear hv hlc hcm hn
  obtain ⟨V, hV⟩ : ∃ V, V = w.alloc (.cells #[.int .i64 0, .int .i64 0, .slice none 0 0, .int .i64 0, .int .i64 0, .slice none 0 0] 26) := ⟨_, rfl⟩
  have HVV := hide hV
  have HWV : Hid (Below w.heap.size w V) := by rw [hV]; exact hide (below_one _ _)
  have HZB : Hid (Box V w.heap.size [.int .i64 0, .int .i64 0, .slice none 0 0, .int .i64 0, .int .i64 0, .slice none 0 0]) := by rw [hV]; exact hide (Box.new w _ 26 rfl)
  have HZF : Hid (Free V w.heap.size) := by rw [hV]; exact hide (Free.new w _ _ rfl)
  have HVS : Hid (V.heap.size = w.heap.size + 1) := by rw [hV]; exact hide (by simp)
  have hmk := run_mkL 24 60 3 40 _ Tryd.underlying60 infoMx (n : Int) n rfl (by omega) (by omega)
  obtain ⟨e0, ei, hz0, hz1, hz2⟩ := info_parts infoMx
  have HEI := hide (And.intro ei (And.intro hz0 (And.intro hz1 hz2)))
  obtain ⟨X, hX⟩ : ∃ X, stkX ds = X := ⟨_, rfl⟩
  obtain ⟨E, hE⟩ : ∃ E, stkE ds = E := ⟨_, rfl⟩
  have HX := hide hX
  have HE := hide hE
  rw [hX, hE]
  clear ei hz0 hz1 hz2 hV hX hE
  go_enter Tryd.func21, Tryd.ntmps21
  go_wp2_with fail
  rw [← HVV.out]
  go_wp2
  clear hmk
  go_loopw [4, 5, 19] (fun o t c wr => ∃ (i : Nat) (xi : Int), i ≤ n ∧ xi = (i : Int) ∧ c = .int .i64 xi ∧ OwnsX (fun b => t.ownBlock = some b) (w.heap.size + 1) wr 24 3 o i (((ds.take i).map Prod.fst).flatMap mxS) ∧ OwnsX (fun b => o.ownBlock = some b) (w.heap.size + 1) wr 24 3 t i (((ds.take i).map Prod.snd).flatMap mxS) ∧ (∀ b, o.ownBlock = some b → t.ownBlock ≠ some b) ∧ Below (w.heap.size + 1) V wr) (fun _ _ c _ => n - (intOf c).toNat)
  case atStart =>
    have s1 := HVS.out
    refine ⟨0, 0, Nat.zero_le _, rfl, rfl, ?_, ?_, ?_, ?_⟩
    · have h := (OwnsX.room (X := fun b => (Value.slice (some ⟨w.heap.size + 1 + 1, 0, none⟩) 0 n).ownBlock = some b) (w := V) (base := w.heap.size + 1) (e := 24) (size := 3) (cap := n) (rawCells (.agg #[.int .i64 0, .int .i64 0, .slice none 0 0]) (n * 3)) (by omega) (by unfold maxLen; omega) (rawCells_size _ _)).below (below_one _ (.cells (rawCells (.agg #[.int .i64 0, .int .i64 0, .slice none 0 0]) (n * 3)) 24))
      rw [s1] at h
      exact h
    · have h := OwnsX.room (X := fun b => (Value.slice (some ⟨w.heap.size + 1, 0, none⟩) 0 n).ownBlock = some b) (w := (V.alloc (.cells (rawCells (.agg #[.int .i64 0, .int .i64 0, .slice none 0 0]) (n * 3)) 24))) (base := w.heap.size + 1) (e := 24) (size := 3) (cap := n) (rawCells (.agg #[.int .i64 0, .int .i64 0, .slice none 0 0]) (n * 3)) (by rw [World.size_alloc]; omega) (by unfold maxLen; omega) (rawCells_size _ _)
      rw [World.size_alloc, s1] at h
      exact h
    · intro b hb hb'
      simp [Value.ownBlock] at hb hb'
      omega
    · rw [← s1]; exact bel_alloc (below_one _ _)
  case round =>
    obtain ⟨i, xi, hi, hxi, rfl, ho1, ho2, hne, hb⟩ := hrel
    obtain ⟨o4, ho4⟩ : ∃ x, x = u4 := ⟨_, rfl⟩
    subst ho4
    obtain ⟨t5, ht5⟩ : ∃ x, x = u5 := ⟨_, rfl⟩
    subst ht5
    have HXI := hide hxi
    have HO1 := hide ho1
    have HO2 := hide ho2
    have HNE := hide hne
    have HVB := hide hb
    have HB := hide (show Below w.heap.size w wr from HWV.out.trans (hb.mono (Nat.le_succ _)))
    have HSZ := hide (show w.heap.size + 1 ≤ wr.heap.size by have := HVS.out; have := hb.size; omega)
    have hxi0 : 0 ≤ xi := by omega
    have hxi1 : xi ≤ 2000000 := by omega
    clear hxi ho1 ho2 hne hb
    by_cases hlt : xi < (n : Int)
    · have hin : i < n := by have := HXI.out; omega
      have hxn : xi.toNat = i := by have := HXI.out; omega
      obtain ⟨d, hd⟩ : ∃ x, ds[i]? = some x := ⟨ds[i]'(by have := HN.out; omega), List.getElem?_eq_getElem _⟩
      obtain ⟨b, off, cp, sa, sn, sk, ta, tn, tk, ev, k0, k1, k2, k3, k4, k5, hs, ht⟩ := HV.out.at hd
      injection ev with ev1 ev2 ev3
      clear ev2 ev3
      subst ev1
      rw [← hxn] at k0 k1 k2 k3 k4 k5
      replace k0 := cell_below HB.out k0
      replace k1 := cell_below HB.out k1
      replace k2 := cell_below HB.out k2
      replace k3 := cell_below HB.out k3
      replace k4 := cell_below HB.out k4
      replace k5 := cell_below HB.out k5
      have HS := hide (And.intro hs ht)
      have HSN := hide (show ds.take (i + 1) = ds.take i ++ [d] from take_end hd)
      have HGL := hide (show ∀ x, (o4.ownBlock = some x ∨ t5.ownBlock = some x) → w.heap.size + 1 ≤ x ∧ x < wr.heap.size from fun x hx => hx.elim (fun h => HO1.out.lt x h) (fun h => HO2.out.lt x h))
      have HBA := hide (show Below w.heap.size w ((wr.alloc (.cells #[.int .i64 d.1.rows, .int .i64 d.1.cols, .slice sa sn sk, .int .i64 d.2.rows, .int .i64 d.2.cols, .slice ta tn tk] 26)).alloc (.cells #[.int .i64 d.1.rows, .int .i64 d.1.cols, .slice sa sn sk] 24)) from bel_alloc (bel_alloc HB.out))
      have HSA := hide (show ((wr.alloc (.cells #[.int .i64 d.1.rows, .int .i64 d.1.cols, .slice sa sn sk, .int .i64 d.2.rows, .int .i64 d.2.cols, .slice ta tn tk] 26)).alloc (.cells #[.int .i64 d.1.rows, .int .i64 d.1.cols, .slice sa sn sk] 24)).heap.size = wr.heap.size + 2 by simp)
      have HOA := hide (show OwnsX (fun b => t5.ownBlock = some b) (w.heap.size + 1) ((wr.alloc (.cells #[.int .i64 d.1.rows, .int .i64 d.1.cols, .slice sa sn sk, .int .i64 d.2.rows, .int .i64 d.2.cols, .slice ta tn tk] 26)).alloc (.cells #[.int .i64 d.1.rows, .int .i64 d.1.cols, .slice sa sn sk] 24)) 24 3 o4 i (((ds.take i).map Prod.fst).flatMap mxS) from HO1.out.below (bel_alloc (below_one _ _)))
      have HEN := hide (show Enc ((wr.alloc (.cells #[.int .i64 d.1.rows, .int .i64 d.1.cols, .slice sa sn sk, .int .i64 d.2.rows, .int .i64 d.2.cols, .slice ta tn tk] 26)).alloc (.cells #[.int .i64 d.1.rows, .int .i64 d.1.cols, .slice sa sn sk] 24)) (fun b => o4.ownBlock = some b ∨ t5.ownBlock = some b) (mxS d.1) [.int .i64 d.1.rows, .int .i64 d.1.cols, .slice sa sn sk] from enc_mx (part_old hs HBA.out (fun b hb => by have := (HGL.out b hb).1; omega)))
      have HNB := hide (show Box ((wr.alloc (.cells #[.int .i64 d.1.rows, .int .i64 d.1.cols, .slice sa sn sk, .int .i64 d.2.rows, .int .i64 d.2.cols, .slice ta tn tk] 26)).alloc (.cells #[.int .i64 d.1.rows, .int .i64 d.1.cols, .slice sa sn sk] 24)) (wr.heap.size + 1) [.int .i64 d.1.rows, .int .i64 d.1.cols, .slice sa sn sk] from Box.new _ _ _ (World.size_alloc _ _))
      have HDB := hide (show Box ((wr.alloc (.cells #[.int .i64 d.1.rows, .int .i64 d.1.cols, .slice sa sn sk, .int .i64 d.2.rows, .int .i64 d.2.cols, .slice ta tn tk] 26)).alloc (.cells #[.int .i64 d.1.rows, .int .i64 d.1.cols, .slice sa sn sk] 24)) wr.heap.size [.int .i64 d.1.rows, .int .i64 d.1.cols, .slice sa sn sk, .int .i64 d.2.rows, .int .i64 d.2.cols, .slice ta tn tk] from (Box.new wr [.int .i64 d.1.rows, .int .i64 d.1.cols, .slice sa sn sk, .int .i64 d.2.rows, .int .i64 d.2.cols, .slice ta tn tk] 26 rfl).below (below_one _ _))
      have HBS := hide (show w.heap.size + 1 ≤ ((wr.alloc (.cells #[.int .i64 d.1.rows, .int .i64 d.1.cols, .slice sa sn sk, .int .i64 d.2.rows, .int .i64 d.2.cols, .slice ta tn tk] 26)).alloc (.cells #[.int .i64 d.1.rows, .int .i64 d.1.cols, .slice sa sn sk] 24)).heap.size by rw [HSA.out]; have := HSZ.out; omega)
      have HXL := hide (show ∀ x, t5.ownBlock = some x → x < ((wr.alloc (.cells #[.int .i64 d.1.rows, .int .i64 d.1.cols, .slice sa sn sk, .int .i64 d.2.rows, .int .i64 d.2.cols, .slice ta tn tk] 26)).alloc (.cells #[.int .i64 d.1.rows, .int .i64 d.1.cols, .slice sa sn sk] 24)).heap.size from fun x hx => by rw [HSA.out]; have := (HO2.out.lt x hx).2; omega)
      have HM1 := hide (show i + 1 ≤ maxLen by unfold maxLen; omega)
      have HM2 := hide (show (i + 1) * 40 ≤ 140737488355328 by omega)
      clear hd hxn hs ht
      go_wp2_with (at_builtin; refine wpList_append_ownsX rfl _ _ 60 rfl (w.heap.size + 1) 24 e0 (.agg #[.int .i64 0, .int .i64 0, .slice none 0 0]) 3 40 Tryd.underlying60 HEI.out.1 HEI.out.2.1 HEI.out.2.2.1 HEI.out.2.2.2 rfl (by decide) (fun b => t5.ownBlock = some b) o4 _ _ rfl HOA.out ⟨wr.heap.size + 1, 0, none⟩ 1 1 [.int .i64 d.1.rows, .int .i64 d.1.cols, .slice sa sn sk] rfl rfl (fun q u hq => by rw [addr_add]; exact HNB.out q u hq) (mxS d.1) HEN.out HM1.out HM2.out HBS.out HXL.out ?_)
      intro v8 w8 h81 h82 h83 h84
      have nu : ∀ x, wr.heap.size ≤ x ∨ x < w.heap.size + 1 → some x ≠ o4.ownBlock := fun x hx e => by
        have h1 := HO1.out.lt x e.symm
        rcases hx with hx | hx <;> omega
      have HSM := hide (show ∀ b, b < ((wr.alloc (.cells #[.int .i64 d.1.rows, .int .i64 d.1.cols, .slice sa sn sk, .int .i64 d.2.rows, .int .i64 d.2.cols, .slice ta tn tk] 26)).alloc (.cells #[.int .i64 d.1.rows, .int .i64 d.1.cols, .slice sa sn sk] 24)).heap.size → v8.ownBlock = some b → o4.ownBlock = some b from fun b hlt hb => by
        rcases h83 with h | h
        · rw [← h]; exact hb
        · rw [h] at hb
          have := Option.some.inj hb
          rw [HSA.out] at hlt
          omega)
      have HN8 := hide (show ∀ b, t5.ownBlock = some b → v8.ownBlock ≠ some b from fun b hb => h84 b hb (fun h => HNE.out b h hb))
      have HO8 := hide (show OwnsX (fun b => v8.ownBlock = some b) (w.heap.size + 1) w8 24 3 t5 i (((ds.take i).map Prod.snd).flatMap mxS) from (HO2.out.below (bel_alloc (below_one wr (.cells #[.int .i64 d.1.rows, .int .i64 d.1.cols, .slice sa sn sk, .int .i64 d.2.rows, .int .i64 d.2.cols, .slice ta tn tk] 26)))).kept h82 (fun b hb he => HNE.out b he hb) (fun b hb => hb) (fun b hlt hb => HSM.out b hlt hb))
      have HB8 := hide (show Below (w.heap.size + 1) V w8 from ((HVB.out.alloc HSZ.out (.cells #[.int .i64 d.1.rows, .int .i64 d.1.cols, .slice sa sn sk, .int .i64 d.2.rows, .int .i64 d.2.cols, .slice ta tn tk] 26)).alloc (by rw [World.size_alloc]; have := HSZ.out; omega) (.cells #[.int .i64 d.1.rows, .int .i64 d.1.cols, .slice sa sn sk] 24)).grown h82 HBS.out (fun k hk => (HO1.out.lt k hk).1))
      have HW8 := hide (show Below w.heap.size w w8 from HWV.out.trans (HB8.out.mono (Nat.le_succ _)))
      have HP8 := hide (show OwnsX (fun b => t5.ownBlock = some b) (w.heap.size + 1) w8 24 3 v8 (i + 1) (((ds.take (i + 1)).map Prod.fst).flatMap mxS) by rw [HSN.out, List.map_append, List.flatMap_append]; simpa using h81)
      have HD8 := hide (show Box w8 wr.heap.size [.int .i64 d.1.rows, .int .i64 d.1.cols, .slice sa sn sk, .int .i64 d.2.rows, .int .i64 d.2.cols, .slice ta tn tk] from fun j x hx => h82.cell (HDB.out j x hx) (nu _ (.inl (Nat.le_refl _))))
      have HS8 := hide (show wr.heap.size + 2 ≤ w8.heap.size by rw [← HSA.out]; exact h82.size)
      have HOB := hide (show OwnsX (fun b => v8.ownBlock = some b) (w.heap.size + 1) (w8.alloc (.cells #[.int .i64 d.2.rows, .int .i64 d.2.cols, .slice ta tn tk] 24)) 24 3 t5 i (((ds.take i).map Prod.snd).flatMap mxS) from HO8.out.below (below_one _ _))
      have HGL8 := hide (show ∀ x, (t5.ownBlock = some x ∨ v8.ownBlock = some x) → w.heap.size + 1 ≤ x ∧ x < w8.heap.size from fun x hx => hx.elim (fun h => HO8.out.lt x h) (fun h => HP8.out.lt x h))
      have HEN2 := hide (show Enc (w8.alloc (.cells #[.int .i64 d.2.rows, .int .i64 d.2.cols, .slice ta tn tk] 24)) (fun b => t5.ownBlock = some b ∨ v8.ownBlock = some b) (mxS d.2) [.int .i64 d.2.rows, .int .i64 d.2.cols, .slice ta tn tk] from enc_mx (part_old HS.out.2 (bel_alloc HW8.out) (fun b hb => by have := (HGL8.out b hb).1; omega)))
      have HNB2 := hide (show Box (w8.alloc (.cells #[.int .i64 d.2.rows, .int .i64 d.2.cols, .slice ta tn tk] 24)) w8.heap.size [.int .i64 d.2.rows, .int .i64 d.2.cols, .slice ta tn tk] from Box.new _ _ _ rfl)
      have HBS2 := hide (show w.heap.size + 1 ≤ (w8.alloc (.cells #[.int .i64 d.2.rows, .int .i64 d.2.cols, .slice ta tn tk] 24)).heap.size by rw [World.size_alloc]; have := HS8.out; have := HSZ.out; omega)
      have HXL2 := hide (show ∀ x, v8.ownBlock = some x → x < (w8.alloc (.cells #[.int .i64 d.2.rows, .int .i64 d.2.cols, .slice ta tn tk] 24)).heap.size from fun x hx => by rw [World.size_alloc]; have := (HP8.out.lt x hx).2; omega)
      have c3 := HD8.out 3 _ rfl
      have c4 := HD8.out 4 _ rfl
      have c5 := HD8.out 5 _ rfl
      clear h81 h82 h83 h84 nu k0 k1 k2 k3 k4 k5
      go_wp2_with (at_builtin; refine wpList_append_ownsX rfl _ _ 60 rfl (w.heap.size + 1) 24 e0 (.agg #[.int .i64 0, .int .i64 0, .slice none 0 0]) 3 40 Tryd.underlying60 HEI.out.1 HEI.out.2.1 HEI.out.2.2.1 HEI.out.2.2.2 rfl (by decide) (fun b => v8.ownBlock = some b) t5 _ _ rfl HOB.out ⟨w8.heap.size, 0, none⟩ 1 1 [.int .i64 d.2.rows, .int .i64 d.2.cols, .slice ta tn tk] rfl rfl (fun q u hq => by rw [addr_add]; exact HNB2.out q u hq) (mxS d.2) HEN2.out HM1.out HM2.out HBS2.out HXL2.out ?_)
      intro v9 w9 h91 h92 h93 h94
      have HSM9 := hide (show ∀ b, b < (w8.alloc (.cells #[.int .i64 d.2.rows, .int .i64 d.2.cols, .slice ta tn tk] 24)).heap.size → v9.ownBlock = some b → t5.ownBlock = some b from fun b hlt hb => by
        rcases h93 with h | h
        · rw [← h]; exact hb
        · rw [h] at hb
          have := Option.some.inj hb
          rw [World.size_alloc] at hlt
          omega)
      have HN9 := hide (show ∀ b, v8.ownBlock = some b → v9.ownBlock ≠ some b from fun b hb => h94 b hb (fun h => HN8.out b h hb))
      have HO9 := hide (show OwnsX (fun b => v9.ownBlock = some b) (w.heap.size + 1) w9 24 3 v8 (i + 1) (((ds.take (i + 1)).map Prod.fst).flatMap mxS) from (HP8.out.below (below_one _ _)).kept h92 (fun b hb he => HN8.out b he hb) (fun b hb => hb) (fun b hlt hb => HSM9.out b hlt hb))
      have HP9 := hide (show OwnsX (fun b => v8.ownBlock = some b) (w.heap.size + 1) w9 24 3 v9 (i + 1) (((ds.take (i + 1)).map Prod.snd).flatMap mxS) by rw [HSN.out, List.map_append, List.flatMap_append]; simpa using h91)
      have HB9 := hide (show Below (w.heap.size + 1) V w9 from (HB8.out.alloc (by have := HS8.out; have := HSZ.out; omega) (.cells #[.int .i64 d.2.rows, .int .i64 d.2.cols, .slice ta tn tk] 24)).grown h92 HBS2.out (fun k hk => (HO8.out.lt k hk).1))
      clear h91 h92 h93 h94 c3 c4 c5
      go_wp2
      go_roundw
      case rel => exact ⟨i + 1, _, by omega, by have := HXI.out; omega, rfl, HO9.out, HP9.out, HN9.out, HB9.out⟩
      case measure => have := HXI.out; simp [intOf]; omega
    · have hin : i = n := by have := HXI.out; omega
      have HTK := hide (show ds.take i = ds from List.take_of_length_le (by have := HN.out; omega))
      rw [HTK.out] at HO1 HO2
      have hl1 : (ds.map Prod.fst).length = i := by rw [List.length_map]; have := HN.out; omega
      have hl2 : (ds.map Prod.snd).length = i := by rw [List.length_map]; have := HN.out; omega
      have HI1 := hide (show IsMxs wr o4 (ds.map Prod.fst) from reads_mxs (by rw [hl1]; exact HO1.out.reads))
      have HI2 := hide (show IsMxs wr t5 (ds.map Prod.snd) from reads_mxs (by rw [hl2]; exact HO2.out.reads))
      have HK1 := hide (mstack_any o4 (ds.map Prod.fst) wr HI1.out (by omega))
      have HK2 := hide (fun W (h : Below wr.heap.size wr W) => mstack_any t5 (ds.map Prod.snd) W (HI2.out.below h) (by omega))
      obtain ⟨X1, hX1⟩ : ∃ x, stackX (ds.map Prod.fst) = x := ⟨_, rfl⟩
      obtain ⟨X2, hX2⟩ : ∃ x, stackX (ds.map Prod.snd) = x := ⟨_, rfl⟩
      obtain ⟨E1, hE1⟩ : ∃ x, stackE (ds.map Prod.fst) = x := ⟨_, rfl⟩
      obtain ⟨E2, hE2⟩ : ∃ x, stackE (ds.map Prod.snd) = x := ⟨_, rfl⟩
      have HEE := hide (show (if E1 ≠ 0 then E1 else E2) = E by rw [← HE.out, ← hE1, ← hE2]; rfl)
      have HXX := hide (show (if E = 0 then (X1, X2) else (noMx, noMx)) = X by rw [← HX.out, ← hX1, ← hX2, ← HE.out]; rfl)
      rw [hX1, hE1] at HK1
      rw [hX2, hE2] at HK2
      have HZR := hide (show Box wr w.heap.size [.int .i64 0, .int .i64 0, .slice none 0 0, .int .i64 0, .int .i64 0, .slice none 0 0] from fun j x hx => (HVB.out.cell (p := ⟨w.heap.size, j, none⟩) (Nat.lt_succ_self _)).trans (HZB.out j x hx))
      have HFR := hide (show Free wr w.heap.size from fun j => (HVB.out.frozen (p := ⟨w.heap.size, j, none⟩) (Nat.lt_succ_self _)).trans (HZF.out j))
      clear hin hl1 hl2 hX1 hX2 hE1 hE2 HI1 HI2
      obtain ⟨a4, n4, k4, rfl⟩ : ∃ a n k, o4 = .slice a n k := by obtain ⟨q1, q2, q3, _⟩ := HO1.out.reads; exact ⟨_, _, _, q3⟩
      obtain ⟨a5, n5, k5, rfl⟩ : ∃ a n k, t5 = .slice a n k := by obtain ⟨q1, q2, q3, _⟩ := HO2.out.reads; exact ⟨_, _, _, q3⟩
      clear HO1 HO2 HNE
      go_wp2_with fail
      refine HK1.out.mono ?_
      intro e wa h
      obtain ⟨pa, pn, pk, rfl, hp, hba, hfa⟩ := h.full
      have HPI := hide hp
      have HFA := hide hfa
      have HBA := hide (show Below wr.heap.size wr (wa.alloc (.cells #[.int .i64 X1.rows, .int .i64 X1.cols, .slice pa pn pk] 24)) from bel_alloc hba)
      have HPB := hide (Box.new wa [.int .i64 X1.rows, .int .i64 X1.cols, .slice pa pn pk] 24 rfl)
      have HPA := hide (hp.below (below_one wa (.cells #[.int .i64 X1.rows, .int .i64 X1.cols, .slice pa pn pk] 24)))
      clear h hp hfa hba HK1
      by_cases c1 : E1 = 0
      case neg =>
        obtain rfl : E1 = E := by rw [← HEE.out, if_pos c1]
        have hXn : X = (noMx, noMx) := by rw [← HXX.out, if_neg c1]
        have HC := hide (And.intro c1 hXn)
        rw [err_ne c1]
        have t0 := (HZR.out.below HBA.out) 0 _ rfl; have f0 := (HFR.out.below HBA.out HZR.out.lt) 0; have t1 := (HZR.out.below HBA.out) 1 _ rfl; have f1 := (HFR.out.below HBA.out HZR.out.lt) 1; have t2 := (HZR.out.below HBA.out) 2 _ rfl; have f2 := (HFR.out.below HBA.out HZR.out.lt) 2; have t3 := (HZR.out.below HBA.out) 3 _ rfl; have f3 := (HFR.out.below HBA.out HZR.out.lt) 3; have t4 := (HZR.out.below HBA.out) 4 _ rfl; have f4 := (HFR.out.below HBA.out HZR.out.lt) 4; have t5 := (HZR.out.below HBA.out) 5 _ rfl; have f5 := (HFR.out.below HBA.out HZR.out.lt) 5
        have HBE := hide (show Below w.heap.size w (((((((wa.alloc (.cells #[.int .i64 X1.rows, .int .i64 X1.cols, .slice pa pn pk] 24)).setCell ⟨w.heap.size, 0, none⟩ (.int .i64 0)).setCell ⟨w.heap.size, 1, none⟩ (.int .i64 0)).setCell ⟨w.heap.size, 2, none⟩ (.slice none 0 0)).setCell ⟨w.heap.size, 3, none⟩ (.int .i64 0)).setCell ⟨w.heap.size, 4, none⟩ (.int .i64 0)).setCell ⟨w.heap.size, 5, none⟩ (.slice none 0 0)) from bel_set (bel_set (bel_set (bel_set (bel_set (bel_set (below_next HB.out HBA.out) (Nat.le_refl _)) (Nat.le_refl _)) (Nat.le_refl _)) (Nat.le_refl _)) (Nat.le_refl _)) (Nat.le_refl _))
        clear c1 hXn
        go_wp2
        exact bodyPost_ret (v := .tuple #[.agg #[.int .i64 0, .int .i64 0, .slice none 0 0, .int .i64 0, .int .i64 0, .slice none 0 0], .iface 27 (.int .i64 E1)]) (by simp [results, Tryd.results21, go_sem, t0, t1, t2, t3, t4, t5]) rfl (by rw [HC.out.2]; exact btErr_no (err_of rfl HC.out.1) HBE.out)
      case pos =>
      subst c1
      rw [err_eq rfl]
      have HE2 := hide (show E2 = E by rw [← HEE.out, if_neg (by simp)])
      have HX2 := hide (HK2.out _ HBA.out)
      go_wp2_with fail
      refine HX2.out.mono ?_
      intro e wb h
      obtain ⟨qa, qn, qk, rfl, hq, hbb, hfb⟩ := h.full
      have HQI := hide hq
      have HFB := hide (fresh_mono hfb HBA.out.size)
      have HBB := hide (show Below wr.heap.size wr (wb.alloc (.cells #[.int .i64 X2.rows, .int .i64 X2.cols, .slice qa qn qk] 24)) from bel_alloc (below_next HBA.out hbb))
      have HPQ := hide (HPA.out.below hbb)
      have c0 := (HPB.out.below (bel_alloc (o := (.cells #[.int .i64 X2.rows, .int .i64 X2.cols, .slice qa qn qk] 24)) hbb)) 0 _ rfl
      have c1 := (HPB.out.below (bel_alloc (o := (.cells #[.int .i64 X2.rows, .int .i64 X2.cols, .slice qa qn qk] 24)) hbb)) 1 _ rfl
      have c2 := (HPB.out.below (bel_alloc (o := (.cells #[.int .i64 X2.rows, .int .i64 X2.cols, .slice qa qn qk] 24)) hbb)) 2 _ rfl
      have t0 := (HZR.out.below HBB.out) 0 _ rfl; have f0 := (HFR.out.below HBB.out HZR.out.lt) 0; have t1 := (HZR.out.below HBB.out) 1 _ rfl; have f1 := (HFR.out.below HBB.out HZR.out.lt) 1; have t2 := (HZR.out.below HBB.out) 2 _ rfl; have f2 := (HFR.out.below HBB.out HZR.out.lt) 2; have t3 := (HZR.out.below HBB.out) 3 _ rfl; have f3 := (HFR.out.below HBB.out HZR.out.lt) 3; have t4 := (HZR.out.below HBB.out) 4 _ rfl; have f4 := (HFR.out.below HBB.out HZR.out.lt) 4; have t5 := (HZR.out.below HBB.out) 5 _ rfl; have f5 := (HFR.out.below HBB.out HZR.out.lt) 5
      clear h hq hfb hbb HX2
      rw [HE2.out]
      by_cases c3 : E = 0
      case neg =>
        have HC := hide (And.intro c3 (show X = (noMx, noMx) by rw [← HXX.out, if_neg c3]))
        have HBE := hide (show Below w.heap.size w (((((((wb.alloc (.cells #[.int .i64 X2.rows, .int .i64 X2.cols, .slice qa qn qk] 24)).setCell ⟨w.heap.size, 0, none⟩ (.int .i64 0)).setCell ⟨w.heap.size, 1, none⟩ (.int .i64 0)).setCell ⟨w.heap.size, 2, none⟩ (.slice none 0 0)).setCell ⟨w.heap.size, 3, none⟩ (.int .i64 0)).setCell ⟨w.heap.size, 4, none⟩ (.int .i64 0)).setCell ⟨w.heap.size, 5, none⟩ (.slice none 0 0)) from bel_set (bel_set (bel_set (bel_set (bel_set (bel_set (below_next HB.out HBB.out) (Nat.le_refl _)) (Nat.le_refl _)) (Nat.le_refl _)) (Nat.le_refl _)) (Nat.le_refl _)) (Nat.le_refl _))
        rw [err_ne c3]
        clear c3 c0 c1 c2
        go_wp2
        exact bodyPost_ret (v := .tuple #[.agg #[.int .i64 0, .int .i64 0, .slice none 0 0, .int .i64 0, .int .i64 0, .slice none 0 0], .iface 27 (.int .i64 E)]) (by simp [results, Tryd.results21, go_sem, t0, t1, t2, t3, t4, t5]) rfl (by rw [HC.out.2]; exact btErr_no (err_of rfl HC.out.1) HBE.out)
      case pos =>
      subst c3
      rw [err_eq rfl]
      have HXE := hide (show X = (X1, X2) by rw [← HXX.out, if_pos rfl])
      have hlw : w.heap.size < wr.heap.size := HZR.out.lt
      have HJ1 := hide (show IsInts (((((((wb.alloc (.cells #[.int .i64 X2.rows, .int .i64 X2.cols, .slice qa qn qk] 24)).setCell ⟨w.heap.size, 0, none⟩ (.int .i64 X1.rows)).setCell ⟨w.heap.size, 1, none⟩ (.int .i64 X1.cols)).setCell ⟨w.heap.size, 2, none⟩ (.slice pa pn pk)).setCell ⟨w.heap.size, 3, none⟩ (.int .i64 X2.rows)).setCell ⟨w.heap.size, 4, none⟩ (.int .i64 X2.cols)).setCell ⟨w.heap.size, 5, none⟩ (.slice qa qn qk)) (.slice pa pn pk) X1.cells from IsInts.aboveF HPQ.out HFA.out ((abv_low (abv_low (abv_low (abv_low (abv_low (abv_low (abv_alloc (Above.refl _ _)) hlw) hlw) hlw) hlw) hlw) hlw)))
      have HJ2 := hide (show IsInts (((((((wb.alloc (.cells #[.int .i64 X2.rows, .int .i64 X2.cols, .slice qa qn qk] 24)).setCell ⟨w.heap.size, 0, none⟩ (.int .i64 X1.rows)).setCell ⟨w.heap.size, 1, none⟩ (.int .i64 X1.cols)).setCell ⟨w.heap.size, 2, none⟩ (.slice pa pn pk)).setCell ⟨w.heap.size, 3, none⟩ (.int .i64 X2.rows)).setCell ⟨w.heap.size, 4, none⟩ (.int .i64 X2.cols)).setCell ⟨w.heap.size, 5, none⟩ (.slice qa qn qk)) (.slice qa qn qk) X2.cells from IsInts.aboveF HQI.out HFB.out ((abv_low (abv_low (abv_low (abv_low (abv_low (abv_low (abv_alloc (Above.refl _ _)) hlw) hlw) hlw) hlw) hlw) hlw)))
      have HBE := hide (show Below w.heap.size w (((((((wb.alloc (.cells #[.int .i64 X2.rows, .int .i64 X2.cols, .slice qa qn qk] 24)).setCell ⟨w.heap.size, 0, none⟩ (.int .i64 X1.rows)).setCell ⟨w.heap.size, 1, none⟩ (.int .i64 X1.cols)).setCell ⟨w.heap.size, 2, none⟩ (.slice pa pn pk)).setCell ⟨w.heap.size, 3, none⟩ (.int .i64 X2.rows)).setCell ⟨w.heap.size, 4, none⟩ (.int .i64 X2.cols)).setCell ⟨w.heap.size, 5, none⟩ (.slice qa qn qk)) from bel_set (bel_set (bel_set (bel_set (bel_set (bel_set (below_next HB.out HBB.out) (Nat.le_refl _)) (Nat.le_refl _)) (Nat.le_refl _)) (Nat.le_refl _)) (Nat.le_refl _)) (Nat.le_refl _))
      clear hlw
      go_wp2
      exact bodyPost_ret (v := .tuple #[.agg #[.int .i64 X1.rows, .int .i64 X1.cols, .slice pa pn pk, .int .i64 X2.rows, .int .i64 X2.cols, .slice qa qn qk], .nilIface]) (by simp [results, Tryd.results21, go_sem, t0, t1, t2, t3, t4, t5]) rfl (by rw [HXE.out]; exact ⟨pa, pn, pk, qa, qn, qk, rfl, HJ1.out, HJ2.out, fresh_mono HFA.out HB.out.size, fresh_mono HFB.out HB.out.size, HBE.out⟩)
end Go.Proofs.YtokohpabmmcioaeDoor
