/- What GoOf of the document's answer comes to, for every layer and matrix that go together. -/
import Derived.Test.YtbkkhdekjgabfadDoorRLGo
namespace Go.Proofs.YtbkkhdekjgabfadDoor
open Go.RowKit
theorem rgo_any (v vx : Value) (l : Ly) (x : Mx) (w : World) (hv : IsLy w v l) (hx : IsMx w vx x) (hE : goE l x = 0) : Calls Tryd.prog 28 #[v, vx] w (RefEnd w (goX l x)) := by
  obtain ⟨s, t, rfl, hs, ht⟩ := hv
  obtain ⟨xa, xn, xk, rfl⟩ := hs.shape
  obtain ⟨ya, yn, yk, rfl⟩ := ht.shape
  cases lyG_of (goE_zero hE).1 with
  | lin _ _ hk _ _ _ _ _ => rw [hk]; exact rgo_linear l x vx w hk hE hs ht hx
  | relu hk _ _ => rw [hk]; exact rgo_relu l x vx w hk hE hx
  | scale hk _ _ => rw [hk]; exact rgo_scale l x vx w hk hE hs hx
  | shift _ hk _ _ _ => rw [hk]; exact rgo_shift l x vx w hk hE ht hx
end Go.Proofs.YtbkkhdekjgabfadDoor
