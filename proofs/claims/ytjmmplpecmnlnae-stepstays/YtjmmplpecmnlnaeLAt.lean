/- What Check, Wide, Go and Back of package layer come to. -/
import Derived.Test.YtjmmplpecmnlnaeLKind
import Derived.Test.YtjmmplpecmnlnaeLScale
import Derived.Test.YtjmmplpecmnlnaeLyGood
namespace Go.Proofs.Ytjmmplpecmnlnae
open Go.RowKit
theorem goX_no {l : Ly} {x : Mx} (h : goE l x ≠ 0) : goX l x = noMx := by unfold goX; rw [if_neg h]
theorem backX_no {l : Ly} {x g : Mx} (h : backE l x g ≠ 0) : backX l x g = noMx ∧ gradW l x g = noMx ∧ gradB l x g = noMx := by unfold backX gradW gradB; rw [if_neg h, if_neg h, if_neg h]; exact ⟨rfl, rfl, rfl⟩
theorem wideE_eq (l : Ly) (n : Int) (h : lfault l = 0) : wideE l n = w0E l n := by unfold wideE w0E; rw [if_neg (by simp [h])]
theorem wideX_eq (l : Ly) (n : Int) (h : lfault l = 0) : wideX l n = w0X l n := by unfold wideX w0X; rw [wideE_eq l n h]
theorem wideE_l {l : Ly} (n : Int) (h : lfault l ≠ 0) : wideE l n = lfault l := by unfold wideE; rw [if_pos h]
theorem wideX_l {l : Ly} (n : Int) (h : lfault l ≠ 0) : 0 = wideX l n := by unfold wideX; rw [if_neg (by rw [wideE_l n h]; exact h)]
theorem backE_go {l : Ly} {x g : Mx} (h : goE l x ≠ 0) : backE l x g = goE l x := by unfold backE; rw [if_pos h]
theorem backE_g {l : Ly} {x g : Mx} (h : goE l x = 0) (hg : fault g ≠ 0) : backE l x g = fault g := by unfold backE; rw [if_neg (by simp [h]), if_pos hg]
theorem backE_s {l : Ly} {x g : Mx} (h : goE l x = 0) (hg : fault g = 0) (hs : ¬ (g.rows = x.rows ∧ g.cols = givesL l x.cols)) : backE l x g = 2 := by
  unfold backE; rw [if_neg (by simp [h]), if_neg (by simp [hg]), if_pos (by omega)]
theorem backE_f {l : Ly} {x g : Mx} (h : goE l x = 0) (hg : fault g = 0) (hs : g.rows = x.rows ∧ g.cols = givesL l x.cols) (hf : l.k = 1 ∧ 12 < x.rows) : backE l x g = 1 := by
  unfold backE; rw [if_neg (by simp [h]), if_neg (by simp [hg]), if_neg (by omega), if_pos hf]
end Go.Proofs.Ytjmmplpecmnlnae
