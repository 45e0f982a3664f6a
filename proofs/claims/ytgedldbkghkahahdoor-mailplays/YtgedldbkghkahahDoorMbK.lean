/- The numbers under which the lock's functions and types stand here, and what Lock and a put-off Unlock do, in one goroutine. -/
import Derived.Test.YtgedldbkghkahahDoorPlain
import Derived.Test.YtgedldbkghkahahDoorRows
import Derived.Conc.MuLone
import Derived.KernelRfl
namespace Go.Proofs.YtgedldbkghkahahDoor
open Go.RowKit
def muL : Go.Conc.Locks.MuLink := { lock := 42, unlock := 43, ilock := 50, iunlock := 51, lockSlow := 59, unlockSlow := 62, disable := 55, enable := 57, acquire := 58, relMerge := 60, cas32 := 56, add32 := 61, tMutex := 82, tIMutex := 80, tPMutex := 111, tPIMutex := 126, tPI32 := 128, tUP := 97, tNoCopy := 77, tU32 := 78 }
theorem muH : Go.Conc.Locks.MuLib Tryd.prog muL := ⟨Tryd.func42, Tryd.func43, Tryd.func50, Tryd.func51, Tryd.func55, Tryd.func57, Tryd.func58, Tryd.func60, Tryd.func56, Tryd.func61, Tryd.underlying80, Tryd.runUnderlying80, Tryd.sizeOf80, Tryd.isAgg80, Tryd.zeroValue80, Tryd.underlying82, Tryd.runUnderlying82, Tryd.sizeOf82, Tryd.isAgg82, Tryd.zeroValue82, Tryd.underlying111, Tryd.runUnderlying111, Tryd.sizeOf111, Tryd.isAgg111, Tryd.zeroValue111, Tryd.underlying126, Tryd.runUnderlying126, Tryd.sizeOf126, Tryd.isAgg126, Tryd.zeroValue126, Tryd.underlying128, Tryd.runUnderlying128, Tryd.sizeOf128, Tryd.isAgg128, Tryd.zeroValue128, Tryd.underlying97, Tryd.runUnderlying97, Tryd.sizeOf97, Tryd.isAgg97, Tryd.zeroValue97, Tryd.underlying77, Tryd.runUnderlying77, Tryd.sizeOf77, Tryd.isAgg77, Tryd.zeroValue77, Tryd.underlying21, Tryd.runUnderlying21, Tryd.sizeOf21, Tryd.isAgg21, Tryd.zeroValue21, (by kernel_rfl)⟩
theorem mlock (a : Addr) (w : World) (hc : w.cell? a = some (.int .i32 0)) (hz : w.frozen? a = false) : Calls Tryd.prog 42 #[.pointer (some a)] w fun e w' => e = .returned (.tuple #[]) ∧ w' = w.setCell a (.int .i32 1) := Go.MuLone.lock_free muH a w hc hz
theorem munlock (a : Addr) (u : FrameMode) (w : World) (hc : w.cell? a = some (.int .i32 1)) (hz : w.frozen? a = false) : CallsD Tryd.prog 43 #[.pointer (some a)] u w fun e u' w' => u' = u ∧ (e = .returned (.tuple #[]) ∧ w' = w.setCell a (.int .i32 0)) := Go.MuLone.unlock_deferred muH a u w hc hz
end Go.Proofs.YtgedldbkghkahahDoor
