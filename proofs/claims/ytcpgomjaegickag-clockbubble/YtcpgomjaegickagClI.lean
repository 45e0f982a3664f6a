/- Waves and turns where all stages take the same: how long they are. No program in sight. -/
import Derived.Test.YtcpgomjaegickagClH
import Derived.Test.YtcpgomjaegickagClE
import Derived.Test.YtcpgomjaegickagPlE
namespace Go.Proofs.Ytcpgomjaegickag
theorem rep_at {n : Nat} {x : Int} {s : Nat} (h : s < n) : ((List.replicate n x)[s]?).getD 0 = x := by
  rw [List.getElem?_replicate, if_pos h]; rfl
/-- Both are as long. -/
theorem bub_mx {S M : Nat} (hS : 1 ≤ S) (hS6 : S ≤ 6) (hM : 1 ≤ M) (hM12 : M ≤ 12) (wave : Bool) {x y : Int} (hx : 0 ≤ x) (hy : 0 ≤ y) {T : List (List (Int × Int))} (h : IsTm (planX S M wave) (List.replicate S x) (List.replicate S y) T) : PlanOK (planX S M wave) M ∧ mxT 0 T = ((M : Int) + S - 1) * (x + y) := by
  have hp := plan_okay (plan_ok hS hS6 hM hM12 wave).1
  refine ⟨hp, ?_⟩
  obtain ⟨hsy, _⟩ := sym_ok hS hS6 hM hM12 wave
  have htm := bub_tm hsy hp.all hx hy
  have hT := tm_one hp.all hp.done h htm
  subst hT
  have hl0 : (stageX S M wave 0).length = 2 * M := by
    have := hp.len 0 (by rw [planX_ln]; omega)
    rw [planX_st (by omega)] at this
    exact this
  obtain ⟨b1, b2⟩ := bub_long (wave := wave) hS hS6 hM hM12 hx hy hl0
  have hlen : ∀ s, s < S → (stA (tabX S M wave x y) s).length = (stageX S M wave s).length := fun s hs => by rw [tabX_at hs, List.length_map]
  refine mxT_eq (s := 0) (i := 2 * M - 1) (x := ((stA (tabX S M wave x y) 0)[2 * M - 1]?).getD (0, 0)) ?_ (fun s i z hs hz => ?_) (by rw [tabX_len]; omega) ?_ ?_
  · exact Int.mul_nonneg (by omega) (by omega)
  · rw [tabX_len] at hs
    have hi : i < (stageX S M wave s).length := by rw [← hlen s hs]; exact (List.getElem?_eq_some_iff.1 hz).1
    have := b1 s i _ hs (List.getElem?_eq_getElem hi)
    unfold toT at this
    rw [hz] at this
    exact this
  · have hi : 2 * M - 1 < (stA (tabX S M wave x y) 0).length := by rw [hlen 0 (by omega), hl0]; omega
    rw [List.getElem?_eq_getElem hi]; rfl
  · exact b2
end Go.Proofs.Ytcpgomjaegickag
