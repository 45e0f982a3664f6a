/- Unlike numbers have unlike texts: a plain reading leads from the text back to the number. No Go in sight. -/
import Derived.Test.YtlfipljabbgocaaDoorParseAll
namespace Go.Proofs.YtlfipljabbgocaaDoor
/-- A plain reading of what stands behind the sign. -/
def rdR (r : List UInt8) : Nat := rdN (r.takeWhile (· != 46)) (r.dropWhile (· != 46)).tail
def rdL (l : List UInt8) : Int := if l.head? = some 45 then -(rdR l.tail : Int) else rdR l
theorem noDot_pos {a : List UInt8} (h : (46 : UInt8) ∉ a) : ∀ x ∈ a, (x != 46) = true := fun x hx => by
  rw [bne_iff_ne]; rintro rfl; exact h hx
theorem rdR_dot {a b : List UInt8} (h : (46 : UInt8) ∉ a) : rdR (a ++ 46 :: b) = rdN a b := by
  unfold rdR
  rw [List.takeWhile_append_of_pos (noDot_pos h), List.dropWhile_append_of_pos (noDot_pos h)]
  simp
theorem rdR_plain {a : List UInt8} (h : (46 : UInt8) ∉ a) : rdR a = rdN a [] := by
  have h1 := List.takeWhile_append_of_pos (l₂ := []) (noDot_pos h)
  have h2 := List.dropWhile_append_of_pos (l₂ := []) (noDot_pos h)
  simp only [List.append_nil, List.takeWhile_nil, List.dropWhile_nil] at h1 h2
  unfold rdR; rw [h1, h2]; rfl
theorem rdR_num (n : Nat) : rdR (Lib.decDigits (n / 256) ++ bp (n % 256)) = n := by
  obtain ⟨g1, g2⟩ := dec_dig (n / 256)
  by_cases h0 : n % 256 = 0
  · have hb : bp (n % 256) = [] := by unfold bp; rw [if_pos h0]
    rw [hb, List.append_nil, rdR_plain (dig_noDot g1)]
    unfold rdN; rw [g2, show dv ([] : List UInt8) * 256 / 10 ^ ([] : List UInt8).length = 0 from by decide]; omega
  · obtain ⟨e1, e2, e3⟩ := bpd_facts (n % 256) (by omega)
    have hb : bp (n % 256) = 46 :: bpd 8 (n % 256) := by unfold bp; rw [if_neg h0]
    rw [hb, rdR_dot (dig_noDot g1)]
    unfold rdN; rw [g2, e3]; omega
theorem rdL_tx (y : Int) : rdL (tx y) = y := by
  by_cases hy : y < 0
  · obtain ⟨n, rfl⟩ : ∃ n : Nat, y = -(n : Int) := ⟨y.natAbs, by omega⟩
    have e : tx (-(n : Int)) = 45 :: (Lib.decDigits (n / 256) ++ bp (n % 256)) := by
      unfold tx; rw [if_pos hy, show (-(n : Int)).natAbs = n by omega]; rfl
    rw [e]; unfold rdL; rw [if_pos (by rfl), List.tail_cons, rdR_num]
  · obtain ⟨n, rfl⟩ : ∃ n : Nat, y = (n : Int) := ⟨y.natAbs, by omega⟩
    have e : tx (n : Int) = Lib.decDigits (n / 256) ++ bp (n % 256) := by
      unfold tx; rw [if_neg hy, show (n : Int).natAbs = n by omega]; rfl
    rw [e]; unfold rdL; rw [if_neg (head_dig (dec_dig _).1 (dec_ne _)), rdR_num]
theorem tx_inj {y z : Int} (h : tx y = tx z) : y = z := by rw [← rdL_tx y, h, rdL_tx]
theorem tx_eq (y z : Int) : (tx y == tx z) = (y == z) := by
  by_cases h : y = z
  · subst h; simp
  · have : tx y ≠ tx z := fun e => h (tx_inj e)
    rw [beq_eq_false_iff_ne.2 this, beq_eq_false_iff_ne.2 h]
end Go.Proofs.YtlfipljabbgocaaDoor
