/- What Told of package plain and Error of package galleysame come to at an Errno and at nil. Condition: the library's variable errors.errorType is as its text lays it. -/
import Derived.Test.YtaajlggpjholeajDoorAs
import Derived.WalkLawsBesides
import Derived.Below
import Derived.Test.YtaajlggpjholeajDoorPkFix
namespace Go.Proofs.YtaajlggpjholeajDoor
open Go.RowKit
theorem Handle.alloc{w:World}(h:Handle w)(o:Obj):Handle (w.alloc o):=by
 unfold Handle;rw[World.cell?_alloc_lt _ _ ⟨0,0,none⟩ (World.block_lt_of_cell? w _ h)];exact h
theorem told_hit(k:Int)(w:World)(hg:Handle w):Calls Tryd.prog 23 #[.iface 33 (.int .i64 k)] w fun e w'=>e=.returned (.int .i64 k)∧Below w.heap.size w w':=by
 have hA:=hg.alloc (.cells #[.int .i64 0] 33)
 have htA:(w.alloc (.cells #[.int .i64 0] 33)).cell? ⟨w.heap.size,0,none⟩=some (.int .i64 0):=by simp
 have hfA:(w.alloc (.cells #[.int .i64 0] 33)).frozen? ⟨w.heap.size,0,none⟩=false:=by simp
 go_enter Tryd.func23,Tryd.ntmps23
 go_wp2_with (go_at_call 35;refine (as_hit k _ (.int .i64 0) _ hA htA hfA).mono ?_;rintro e w' ⟨rfl,rfl⟩)
 go_ret
 exact ⟨rfl,by repeat (first|exact Below.refl _ _|refine Below.alloc ?_ (by first|exact Nat.le_refl _|(simp only[World.size_alloc];omega)|omega) _)⟩
theorem error_hit(k n:Int)(w:World)(hg:Handle w):Calls Tryd.prog 9 #[.iface 33 (.int .i64 k),.int .i64 n] w fun e w'=>e=.returned (.bool (k==n))∧Below w.heap.size w w':=by
 go_enter Tryd.func9,Tryd.ntmps9
 go_wp2_with (go_at_call 23;refine (told_hit k _ hg).mono ?_;rintro e w1 ⟨rfl,hb⟩)
 go_ret
 exact ⟨rfl,hb⟩
theorem told_nil(w:World):Calls Tryd.prog 23 #[.nilIface] w fun e w'=>e=.returned (.int .i64 0)∧w'=w:=by
 go_enter Tryd.func23,Tryd.ntmps23
 go_wp2
 go_ret
 exact ⟨rfl,rfl⟩
theorem Handle.u_{w w':World}(h:Handle w)(hb:Below w.heap.size w w'):Handle w':=by
 unfold Handle at h ⊢
 rw[hb.cell (p:=⟨0,0,none⟩) (World.block_lt_of_cell? w _ h)];exact h
theorem error_any(k n:Int)(w:World)(hg:Handle w):Calls Tryd.prog 9 #[errV k,.int .i64 n] w fun e w'=>e=.returned (.bool (k==n))∧Below w.heap.size w w':=by
 by_cases hk:k=0
 ·subst hk
  rw[show errV 0=.nilIface from rfl]
  go_enter Tryd.func9,Tryd.ntmps9
  go_wp2_with (go_at_call 23;refine (told_nil _).mono ?_;rintro e w1 ⟨rfl,rfl⟩)
  go_ret
  exact ⟨rfl,Below.refl _ _⟩
 ·rw[show errV k=.iface 33 (.int .i64 k) by unfold errV;rw[if_neg hk]]
  exact error_hit k n w hg
theorem error_same{k n:Int}(h:k=n)(w:World)(hg:Handle w):Calls Tryd.prog 9 #[errV k,.int .i64 n] w fun e w'=>e=.returned (.bool true)∧Below w.heap.size w w':=by
 refine (error_any k n w hg).mono ?_
 rintro e w' ⟨rfl,hb⟩
 exact ⟨by rw[h];simp,hb⟩
end Go.Proofs.YtaajlggpjholeajDoor
