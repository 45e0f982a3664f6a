/- The walk of the law BatchSplits: Check, Sizes and Split of package batch answer what the document's answer does. Condition: the library's variable errors.errorType is as its text lays it. -/
import Derived.Test.YtokohpabmmcioaeDoorBatC2
import Derived.Test.YtokohpabmmcioaeDoorRSplit
import Derived.Test.YtokohpabmmcioaeDoorSameB
import Derived.Test.YtokohpabmmcioaeDoorErr
namespace Go.Proofs.YtokohpabmmcioaeDoor
open Go.RowKit
theorem sameI_refl (zs : List Int) : sameI zs zs = true := by simp [sameI]
set_option maxHeartbeats 16000000 in
set_option maxRecDepth 100000 in
theorem splits_walk (v0 : Value) (b : Mx × Mx) (parts rows : Int) (w : World) (w0 : IsTwo w v0 b.1 b.2) (hH : Handle w) : Calls Tryd.prog 3 #[v0, .int .i64 parts, .int .i64 rows] w fun e w' => e = .returned (.bool true) ∧ Below w.heap.size w w' := by
  obtain ⟨s, t, rfl, hs, ht⟩ := w0
  obtain ⟨sa, sn, sk, rfl⟩ := hs.shape
  obtain ⟨ta, tn, tk, rfl⟩ := ht.shape
  obtain ⟨V, hV⟩ : ∃ V, V = w.alloc (.cells #[.int .i64 b.1.rows, .int .i64 b.1.cols, .slice sa sn sk, .int .i64 b.2.rows, .int .i64 b.2.cols, .slice ta tn tk] 26) := ⟨_, rfl⟩
  have HV := hide hV
  have HWV : Hid (Below w.heap.size w V) := by rw [hV]; exact hide (bel_alloc (Below.refl _ _))
  have HR : Hid (Box V w.heap.size [.int .i64 b.1.rows, .int .i64 b.1.cols, .slice sa sn sk, .int .i64 b.2.rows, .int .i64 b.2.cols, .slice ta tn tk]) := by rw [hV]; exact hide (Box.new w _ 26 rfl)
  have M0 := hide (hs.below HWV.out)
  have M1 := hide (ht.below HWV.out)
  have HH := hide (hH.below HWV.out)
  clear hV hs ht hH
  go_enter Tryd.func3, Tryd.ntmps3
  have C0 := hide (Below.refl V.heap.size V)
  have r0 := (HR.out.below C0.out) 0 _ rfl
  have r1 := (HR.out.below C0.out) 1 _ rfl
  have r2 := (HR.out.below C0.out) 2 _ rfl
  have r3 := (HR.out.below C0.out) 3 _ rfl
  have r4 := (HR.out.below C0.out) 4 _ rfl
  have r5 := (HR.out.below C0.out) 5 _ rfl
  rw [HV.out] at r0 r1 r2 r3 r4 r5
  have HX := hide (rbatfault_any b sa sn sk ta tn tk V (M0.out.below C0.out) (M1.out.below C0.out))
  go_wp2_with fail
  rw [← HV.out]
  refine HX.out.mono ?_
  rintro e u1 ⟨rfl, hb⟩
  replace C0 := hide (below_next C0.out hb)
  clear HX hb
  have C1 := hide (Below.refl u1.heap.size u1)
  clear r0 r1 r2 r3 r4 r5
  have r0 := (HR.out.below C0.out) 0 _ rfl
  have r1 := (HR.out.below C0.out) 1 _ rfl
  have r2 := (HR.out.below C0.out) 2 _ rfl
  have r3 := (HR.out.below C0.out) 3 _ rfl
  have r4 := (HR.out.below C0.out) 4 _ rfl
  have r5 := (HR.out.below C0.out) 5 _ rfl
  have HX := hide (bcheck_any b sa sn sk ta tn tk _ (M0.out.below C0.out) (M1.out.below C0.out))
  go_wp2_with fail
  refine HX.out.mono ?_
  rintro e u2 ⟨rfl, hb⟩
  replace C0 := hide (below_next C0.out hb)
  replace C1 := hide (below_next C1.out hb)
  clear HX hb
  have C2 := hide (Below.refl u2.heap.size u2)
  clear r0 r1 r2 r3 r4 r5
  have HX := hide (error_same (k := batE b) (n := batE b) rfl _ (HH.out.below C0.out))
  go_wp2_with fail
  refine HX.out.mono ?_
  rintro e u3 ⟨rfl, hb⟩
  replace C0 := hide (below_next C0.out hb)
  replace C1 := hide (below_next C1.out hb)
  replace C2 := hide (below_next C2.out hb)
  clear HX hb
  have C3 := hide (Below.refl u3.heap.size u3)
  have HX := hide (bsizes_any rows parts u3)
  go_wp2_with fail
  refine HX.out.mono ?_
  rintro e u4 ⟨s1, rfl, hi, hb, _⟩
  replace C0 := hide (below_next C0.out hb)
  replace C1 := hide (below_next C1.out hb)
  replace C2 := hide (below_next C2.out hb)
  replace C3 := hide (below_next C3.out hb)
  clear HX hb
  have C4 := hide (Below.refl u4.heap.size u4)
  have HS1 := hide hi
  clear hi
  have HX := hide (rsizes_any rows parts u4)
  go_wp2_with fail
  refine HX.out.mono ?_
  rintro e u5 ⟨s2, rfl, hi, hb, _⟩
  replace C0 := hide (below_next C0.out hb)
  replace C1 := hide (below_next C1.out hb)
  replace C2 := hide (below_next C2.out hb)
  replace C3 := hide (below_next C3.out hb)
  replace C4 := hide (below_next C4.out hb)
  clear HX hb
  have C5 := hide (Below.refl u5.heap.size u5)
  have HS2 := hide hi
  clear hi
  have HX := hide (error_same (k := szE rows parts) (n := szE rows parts) rfl _ (HH.out.below C0.out))
  go_wp2_with fail
  refine HX.out.mono ?_
  rintro e u6 ⟨rfl, hb⟩
  replace C0 := hide (below_next C0.out hb)
  replace C1 := hide (below_next C1.out hb)
  replace C2 := hide (below_next C2.out hb)
  replace C3 := hide (below_next C3.out hb)
  replace C4 := hide (below_next C4.out hb)
  replace C5 := hide (below_next C5.out hb)
  clear HX hb
  have C6 := hide (Below.refl u6.heap.size u6)
  have HX := hide (ints_any _ _ _ _ _ (HS1.out.below C4.out) (HS2.out.below C5.out))
  go_wp2_with fail
  refine HX.out.mono ?_
  rintro e u7 ⟨rfl, dn, rfl⟩
  rw [sameI_refl]
  replace C0 := hide (below_next C0.out (below_drewN _ dn))
  replace C1 := hide (below_next C1.out (below_drewN _ dn))
  replace C2 := hide (below_next C2.out (below_drewN _ dn))
  replace C3 := hide (below_next C3.out (below_drewN _ dn))
  replace C4 := hide (below_next C4.out (below_drewN _ dn))
  replace C5 := hide (below_next C5.out (below_drewN _ dn))
  replace C6 := hide (below_next C6.out (below_drewN _ dn))
  clear HX
  obtain ⟨u7, hu⟩ : ∃ x, x = World.drewN u6 dn := ⟨_, rfl⟩
  rw [← hu] at C0 C1 C2 C3 C4 C5 C6 ⊢
  clear hu
  have r0 := (HR.out.below C0.out) 0 _ rfl
  have r1 := (HR.out.below C0.out) 1 _ rfl
  have r2 := (HR.out.below C0.out) 2 _ rfl
  have r3 := (HR.out.below C0.out) 3 _ rfl
  have r4 := (HR.out.below C0.out) 4 _ rfl
  have r5 := (HR.out.below C0.out) 5 _ rfl
  have HX := hide (bsplit_any b parts sa sn sk ta tn tk _ (M0.out.below C0.out) (M1.out.below C0.out))
  go_wp2_with fail
  refine HX.out.mono ?_
  rintro e u8 ⟨x1, rfl, hi, hb⟩
  replace C0 := hide (below_next C0.out hb)
  replace C1 := hide (below_next C1.out hb)
  replace C2 := hide (below_next C2.out hb)
  replace C3 := hide (below_next C3.out hb)
  replace C4 := hide (below_next C4.out hb)
  replace C5 := hide (below_next C5.out hb)
  replace C6 := hide (below_next C6.out hb)
  clear HX hb
  have C7 := hide (Below.refl u8.heap.size u8)
  clear r0 r1 r2 r3 r4 r5
  have HX1 := hide hi
  clear hi
  have r0 := (HR.out.below C0.out) 0 _ rfl
  have r1 := (HR.out.below C0.out) 1 _ rfl
  have r2 := (HR.out.below C0.out) 2 _ rfl
  have r3 := (HR.out.below C0.out) 3 _ rfl
  have r4 := (HR.out.below C0.out) 4 _ rfl
  have r5 := (HR.out.below C0.out) 5 _ rfl
  have HX := hide (rsplit_any b parts sa sn sk ta tn tk _ (M0.out.below C0.out) (M1.out.below C0.out))
  go_wp2_with fail
  refine HX.out.mono ?_
  rintro e u9 ⟨x2, rfl, hi, hb⟩
  replace C0 := hide (below_next C0.out hb)
  replace C1 := hide (below_next C1.out hb)
  replace C2 := hide (below_next C2.out hb)
  replace C3 := hide (below_next C3.out hb)
  replace C4 := hide (below_next C4.out hb)
  replace C5 := hide (below_next C5.out hb)
  replace C6 := hide (below_next C6.out hb)
  replace C7 := hide (below_next C7.out hb)
  clear HX hb
  have C8 := hide (Below.refl u9.heap.size u9)
  clear r0 r1 r2 r3 r4 r5
  have HX2 := hide hi
  clear hi
  have HX := hide (error_same (k := splE b parts) (n := splE b parts) rfl _ (HH.out.below C0.out))
  go_wp2_with fail
  refine HX.out.mono ?_
  rintro e u10 ⟨rfl, hb⟩
  replace C0 := hide (below_next C0.out hb)
  replace C1 := hide (below_next C1.out hb)
  replace C2 := hide (below_next C2.out hb)
  replace C3 := hide (below_next C3.out hb)
  replace C4 := hide (below_next C4.out hb)
  replace C5 := hide (below_next C5.out hb)
  replace C6 := hide (below_next C6.out hb)
  replace C7 := hide (below_next C7.out hb)
  replace C8 := hide (below_next C8.out hb)
  clear HX hb
  have C9 := hide (Below.refl u10.heap.size u10)
  have HX := hide (bts_same x1 x2 (splX b parts) _ (HX1.out.below C7.out) (HX2.out.below C8.out))
  go_wp2_with fail
  refine HX.out.mono ?_
  rintro e u11 ⟨rfl, hb⟩
  replace C0 := hide (below_next C0.out hb)
  replace C1 := hide (below_next C1.out hb)
  replace C2 := hide (below_next C2.out hb)
  replace C3 := hide (below_next C3.out hb)
  replace C4 := hide (below_next C4.out hb)
  replace C5 := hide (below_next C5.out hb)
  replace C6 := hide (below_next C6.out hb)
  replace C7 := hide (below_next C7.out hb)
  replace C8 := hide (below_next C8.out hb)
  replace C9 := hide (below_next C9.out hb)
  clear HX hb
  have C10 := hide (Below.refl u11.heap.size u11)
  go_wp2
  go_ret
  exact ⟨rfl, below_next HWV.out C0.out⟩
end Go.Proofs.YtokohpabmmcioaeDoor
