/- What the document's answer comes to on numbers: its Add, Sub, Mul are the plain functions ad, sb, ml; the world is as it was. For every int. -/
import Derived.Test.YtokohpabmmcioaeDoorRClamp
namespace Go.Proofs.YtokohpabmmcioaeDoor
open Go.RowKit
theorem rdown_a (p : Int) (h : 0 ≤ p) : p.tdiv 256 = p / 256 := by rw [tdiv_256, if_pos h]
theorem rdown_b (p : Int) (_h : p < 0) (h0 : -4611686014132420609 ≤ p) (e : wrap64 (p.tdiv 256 * 256) = p) : p.tdiv 256 = p / 256 := by
  rw [tdiv_256] at *; unfold wrap64 at e; split at e <;> split <;> omega
theorem rdown_c (p : Int) (_h : p < 0) (h0 : -4611686014132420609 ≤ p) (e : ¬ wrap64 (p.tdiv 256 * 256) = p) : wrap64 (p.tdiv 256 - 1) = p / 256 := by
  rw [tdiv_256] at *; unfold wrap64 at *; split at e <;> split <;> omega
end Go.Proofs.YtokohpabmmcioaeDoor
