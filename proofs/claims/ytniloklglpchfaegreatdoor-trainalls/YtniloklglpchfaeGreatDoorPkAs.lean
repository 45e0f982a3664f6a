/- What errors.As comes to where the error is an Errno and the target a variable of that type, and what Told and Error make of it. Condition: the library's variable errors.errorType is as its text lays it. After the kit's worked toy of errors.As. -/
import Derived.Test.YtniloklglpchfaeGreatDoorProg
import Derived.WalkKit
import Derived.LaidEql
import Derived.Stop.Asserts
import Derived.RowKitTokens
import Derived.WalkLawsBesides
import Derived.Below
import Derived.Test.YtniloklglpchfaeGreatDoorPkSame
namespace Go.Proofs.YtniloklglpchfaeGreatDoor
open Go.RowKit Go.Extern.Stop Go.Stop Go.Extern
theorem r_valueOfP(t:Addr)(w:World):(ReflectliteValue.unpack (.iface 87 (.pointer (some t)))).run Tryz.prog w
  =.ok (.agg #[.pointer (some ⟨1,87,none⟩),.pointer (some ⟨w.heap.size,0,none⟩),.int .u64 150]) (w.alloc (.cells #[.pointer (some t)] 87)):=by kernel_rfl
theorem r_typeP (a : Addr) (w : World) : (ReflectliteValue.methodAny (ReflectliteValue.valueError "reflectlite.Value.Type" 0) (fun t _ _ _ => ReflectliteType.toType t) #[.agg #[.pointer (some ⟨1, 87, none⟩), .pointer (some a), .int .u64 150]]).run Tryz.prog w
  =.ok (.iface 167 (.agg #[.pointer (some ⟨1,87,none⟩)])) w:=by kernel_rfl
theorem r_methodKind (h : Value) (w : World) : (Go.method 344 167 (.agg #[h]) "Kind").run Tryz.prog w = .ok (138, h) w := by kernel_rfl
theorem r_kindP(w:World):((ReflectliteType.abiMethod fun t=>(fun a:Nat=>Value.int IntKind.u8 (a:Int)) <$> Rtype.kind t) #[.pointer (some ⟨1,87,none⟩)]).run Tryz.prog w=.ok (.int .u8 22) w:=by kernel_rfl
theorem r_kindE(w:World):((ReflectliteType.abiMethod fun t=>(fun a:Nat=>Value.int IntKind.u8 (a:Int)) <$> Rtype.kind t) #[.pointer (some ⟨1,33,none⟩)]).run Tryz.prog w=.ok (.int .u8 2) w:=by kernel_rfl
theorem r_lm(z:Sem Value)(f:TypeId->Addr->Nat->Nat->Sem Value)(v:Value):
  ReflectliteValue.method z f #[v]=(do match<-ReflectliteValue.parts v with|none=>z|some (t,a,fl)=>f t a fl (fl % 32)):=rfl
theorem r_partsP(a:Addr)(w:World):(ReflectliteValue.parts (.agg #[.pointer (some ⟨1,87,none⟩),.pointer (some a),.int .u64 150])).run Tryz.prog w=.ok (some (87,a,150)) w:=by kernel_rfl
theorem r_isNilP(a p:Addr)(W:World)(ha:W.cell? a=some (.pointer (some p))):
  (ReflectliteValue.method (ReflectliteValue.valueError "reflectlite.Value.IsNil" 0) ReflectliteValue.isNil #[.agg #[.pointer (some ⟨1, 87, none⟩), .pointer (some a), .int .u64 150]]).run Tryz.prog W = .ok (.bool false) W := by
 rw[r_lm]
 simp only[Sem.run_bind,r_partsP,Result.andThen]
 simp[ReflectliteValue.isNil,loadVar,isAgg,underlying,Tryz.underlying87,ha,Result.andThen]
theorem r_methodElem (h : Value) (w : World) : (Go.method 344 167 (.agg #[h]) "Elem").run Tryz.prog w = .ok (148, .agg #[h]) w := by kernel_rfl
theorem r_methodImplements (h : Value) (w : World) : (Go.method 344 167 (.agg #[h]) "Implements").run Tryz.prog w = .ok (149, .agg #[h]) w := by kernel_rfl
theorem r_methodAssignableTo (h : Value) (w : World) : (Go.method 344 167 (.agg #[h]) "AssignableTo").run Tryz.prog w = .ok (146, .agg #[h]) w := by kernel_rfl
theorem r_elemP(w:World):(ReflectliteType.method ReflectliteType.elem #[.agg #[.pointer (some ⟨1,87,none⟩)]]).run Tryz.prog w=.ok (.iface 167 (.agg #[.pointer (some ⟨1,33,none⟩)])) w:=by kernel_rfl
theorem r_implementsE (w : World) : (ReflectliteType.relation "Implements" ReflectliteType.implements_ #[.agg #[.pointer (some ⟨1, 33, none⟩)], .iface 167 (.agg #[.pointer (some ⟨1, 38, none⟩)])]).run Tryz.prog w = .ok (.bool true) w := by kernel_rfl
theorem r_typeOfE(v:Value)(w:World):(ReflectliteType.typeOf #[.iface 33 v]).run Tryz.prog w=.ok (.iface 167 (.agg #[.pointer (some ⟨1,33,none⟩)])) w:=by kernel_rfl
theorem r_assignableE (w : World) : (ReflectliteType.relation "AssignableTo" ReflectliteType.assignableTo #[.agg #[.pointer (some ⟨1, 33, none⟩)], .iface 167 (.agg #[.pointer (some ⟨1, 33, none⟩)])]).run Tryz.prog w = .ok (.bool true) w := by kernel_rfl
theorem r_valueOfE(k:Int)(w:World):(ReflectliteValue.unpack (.iface 33 (.int .i64 k))).run Tryz.prog w
  =.ok (.agg #[.pointer (some ⟨1,33,none⟩),.pointer (some ⟨w.heap.size,0,none⟩),.int .u64 130]) (w.alloc (.cells #[.int .i64 k] 33)):=by kernel_rfl
theorem r_elemOfP(w:World):(Rtype.elem? 87).run Tryz.prog w=.ok (some 33) w:=by kernel_rfl
theorem r_mkE(p:Addr)(w:World):(ReflectliteValue.mk 33 p ReflectliteValue.flagAddr).run Tryz.prog w=.ok (.agg #[.pointer (some ⟨1,33,none⟩),.pointer (some p),.int .u64 386]) w:=by kernel_rfl
theorem r_elemVP(a p:Addr)(W:World)(ha:W.cell? a=some (.pointer (some p))):
  (ReflectliteValue.method (ReflectliteValue.valueError "reflectlite.Value.Elem" 0) ReflectliteValue.elem #[.agg #[.pointer (some ⟨1, 87, none⟩), .pointer (some a), .int .u64 150]]).run Tryz.prog W
   =.ok (.agg #[.pointer (some ⟨1,33,none⟩),.pointer (some p),.int .u64 386]) W:=by
 rw[r_lm]
 simp only[Sem.run_bind,r_partsP,Result.andThen]
 simp[ReflectliteValue.elem,loadVar,isAgg,underlying,Tryz.underlying87,ha,Result.andThen,r_elemOfP,r_mkE]
theorem r_ls(v x:Value):ReflectliteValue.set #[v,x]=(do
  let (some (dst,a,fl),some (src,b,_)):=(<-ReflectliteValue.parts v,<-ReflectliteValue.parts x)
   | unsupported (.noEntry "extern/(internal/reflectlite.Value).Set.zeroValue")
  if fl / ReflectliteValue.flagAddr % 2 == 0 then unsupported (.noEntry "extern/(internal/reflectlite.Value).Set.unaddressable")
  let val<-loadVar src b
  if<-Rtype.directlyAssignable dst src then storeVar dst a val
  else if<-Rtype.implements dst src then
   if (<-Rtype.kind src)==20 then
    match val with
    | .nilIface => unsupported (.noEntry "extern/reflectlite: a nil value of one interface type handed on as a value of another")
    |_=>storeVar dst a val
   else storeVar dst a (.iface src val)
  else panicString ("reflectlite.Set: value of type " ++ (← Rtype.spelt src) ++ " is not assignable to type " ++ (← Rtype.spelt dst))
  pure (.tuple #[])):=rfl
theorem r_partsEa(a:Addr)(w:World):(ReflectliteValue.parts (.agg #[.pointer (some ⟨1,33,none⟩),.pointer (some a),.int .u64 386])).run Tryz.prog w=.ok (some (33,a,386)) w:=by kernel_rfl
theorem r_partsE(a:Addr)(w:World):(ReflectliteValue.parts (.agg #[.pointer (some ⟨1,33,none⟩),.pointer (some a),.int .u64 130])).run Tryz.prog w=.ok (some (33,a,130)) w:=by kernel_rfl
theorem r_directE(w:World):(Rtype.directlyAssignable 33 33).run Tryz.prog w=.ok true w:=by kernel_rfl
theorem r_setE(ta b:Addr)(k:Int)(old:Value)(W:World)(hb:W.cell? b=some (.int .i64 k))(ht:W.cell? ta=some old)(hf:W.frozen? ta=false):
  (ReflectliteValue.set #[.agg #[.pointer (some ⟨1,33,none⟩),.pointer (some ta),.int .u64 386],.agg #[.pointer (some ⟨1,33,none⟩),.pointer (some b),.int .u64 130]]).run Tryz.prog W
   =.ok (.tuple #[]) (W.setCell ta (.int .i64 k)):=by
 rw[r_ls]
 simp only[Sem.run_bind,r_partsEa,r_partsE,Result.andThen]
 simp[ReflectliteValue.flagAddr,loadVar,isAgg,underlying,Tryz.underlying33,hb,Result.andThen,r_directE,storeVar,Value.cells,storeCells,Addr.add]
 rw[run_store Tryz.prog W ta _ _ (by rfl)]
 simp[ht,hf]
def Handle (w:World):Prop:=w.cell? ⟨0,0,none⟩=some (.iface 167 (.agg #[.pointer (some ⟨1,38,none⟩)]))
set_option maxHeartbeats 4000000 in
theorem as_hit(k:Int)(t:Addr)(old:Value)(w:World)(hg:Handle w)(ht0:w.cell? t=some old)(hf0:w.frozen? t=false):
  Calls Tryz.prog 41 #[.iface 33 (.int .i64 k),.iface 87 (.pointer (some t))] w fun ev w'=>ev=.returned (.bool true)/\w'=((((w.alloc (.cells #[.pointer (some t)] 87)).alloc (.cells #[.pointer (some ⟨1,87,none⟩),.pointer (some ⟨w.heap.size,0,none⟩),.int .u64 150] 126)).alloc (.cells #[.pointer (some ⟨1,87,none⟩),.pointer (some ⟨w.heap.size,0,none⟩),.int .u64 150] 126)).alloc (.cells #[.int .i64 k] 33)).setCell t (.int .i64 k):=by
 unfold Handle at hg
 have h6:=@run_callFunc_extern Tryz.prog 68 _ (fun args=>ReflectliteValue.unpack (args.getD 0 (.tuple #[]))) Tryz.func68 (by kernel_rfl) (by kernel_rfl) (by kernel_rfl) (by kernel_rfl)
 have h7 := @run_callFunc_extern Tryz.prog 69 _ (ReflectliteValue.methodAny (ReflectliteValue.valueError "reflectlite.Value.Type" 0) (fun t _ _ _ => ReflectliteType.toType t)) Tryz.func69 (by kernel_rfl) (by kernel_rfl) (by kernel_rfl) (by kernel_rfl)
 have h8 := @run_callFunc_extern Tryz.prog 70 _ (ReflectliteValue.method (ReflectliteValue.valueError "reflectlite.Value.IsNil" 0) ReflectliteValue.isNil) Tryz.func70 (by kernel_rfl) (by kernel_rfl) (by kernel_rfl) (by kernel_rfl)
 have h27:=@run_callFunc_extern Tryz.prog 138 _ (ReflectliteType.abiMethod fun t=>do pure (.int .u8 (<-Rtype.kind t))) Tryz.func138 (by kernel_rfl) (by kernel_rfl) (by kernel_rfl) (by kernel_rfl)
 have h37:=@run_callFunc_extern Tryz.prog 148 _ (ReflectliteType.method ReflectliteType.elem) Tryz.func148 (by kernel_rfl) (by kernel_rfl) (by kernel_rfl) (by kernel_rfl)
 have h38 := @run_callFunc_extern Tryz.prog 149 _ (ReflectliteType.relation "Implements" ReflectliteType.implements_) Tryz.func149 (by kernel_rfl) (by kernel_rfl) (by kernel_rfl) (by kernel_rfl)
 have h10:=@run_callFunc_extern Tryz.prog 97 _ ReflectliteType.typeOf Tryz.func97 (by kernel_rfl) (by kernel_rfl) (by kernel_rfl) (by kernel_rfl)
 have h35 := @run_callFunc_extern Tryz.prog 146 _ (ReflectliteType.relation "AssignableTo" ReflectliteType.assignableTo) Tryz.func146 (by kernel_rfl) (by kernel_rfl) (by kernel_rfl) (by kernel_rfl)
 have h11 := @run_callFunc_extern Tryz.prog 98 _ (ReflectliteValue.method (ReflectliteValue.valueError "reflectlite.Value.Elem" 0) ReflectliteValue.elem) Tryz.func98 (by kernel_rfl) (by kernel_rfl) (by kernel_rfl) (by kernel_rfl)
 have h12:=@run_callFunc_extern Tryz.prog 99 _ ReflectliteValue.set Tryz.func99 (by kernel_rfl) (by kernel_rfl) (by kernel_rfl) (by kernel_rfl)
 have tO:=r_typeOfE
 have mA:=r_methodAssignableTo
 have aE:=r_assignableE
 have vE:=r_valueOfE
 have f6:=r_valueOfP
 have f7:=r_typeP
 have mK:=r_methodKind
 have mE:=r_methodElem
 have mI:=r_methodImplements
 have kP:=r_kindP
 have kE:=r_kindE
 have eP:=r_elemP
 have iE:=r_implementsE
 have n8:=r_isNilP ⟨w.heap.size,0,none⟩ t ((w.alloc (.cells #[.pointer (some t)] 87)).alloc (.cells #[.pointer (some ⟨1,87,none⟩),.pointer (some ⟨w.heap.size,0,none⟩),.int .u64 150] 126)) (by simp)
 have hlt:0<w.heap.size:=World.block_lt_of_cell? w ⟨0,0,none⟩ hg
 have hg2:((w.alloc (.cells #[.pointer (some t)] 87)).alloc (.cells #[.pointer (some ⟨1,87,none⟩),.pointer (some ⟨w.heap.size,0,none⟩),.int .u64 150] 126)).cell? ⟨0,0,none⟩=some (.iface 167 (.agg #[.pointer (some ⟨1,38,none⟩)])):=by
  rw[World.cell?_alloc_lt _ _ ⟨0,0,none⟩ (by first|(simp;done)|(simp;omega)),World.cell?_alloc_lt _ _ ⟨0,0,none⟩ hlt];exact hg
 have htl:t.block<w.heap.size:=World.block_lt_of_cell? w t ht0
 have el:=r_elemVP ⟨w.heap.size,0,none⟩ t (((w.alloc (.cells #[.pointer (some t)] 87)).alloc (.cells #[.pointer (some ⟨1,87,none⟩),.pointer (some ⟨w.heap.size,0,none⟩),.int .u64 150] 126)).alloc (.cells #[.pointer (some ⟨1,87,none⟩),.pointer (some ⟨w.heap.size,0,none⟩),.int .u64 150] 126)) (by rw[World.cell?_alloc_lt _ _ ⟨w.heap.size,0,none⟩ (by simp;omega)];simp)
 have st:=r_setE t ⟨w.heap.size+1+1+1,0,none⟩ k old ((((w.alloc (.cells #[.pointer (some t)] 87)).alloc (.cells #[.pointer (some ⟨1,87,none⟩),.pointer (some ⟨w.heap.size,0,none⟩),.int .u64 150] 126)).alloc (.cells #[.pointer (some ⟨1,87,none⟩),.pointer (some ⟨w.heap.size,0,none⟩),.int .u64 150] 126)).alloc (.cells #[.int .i64 k] 33))
  (by rw[World.cell?_alloc_at _ _ _ _ (by simp)];rfl)
  (by rw[World.cell?_alloc_lt _ _ t (by simp;omega),World.cell?_alloc_lt _ _ t (by simp;omega),World.cell?_alloc_lt _ _ t (by simp;omega),World.cell?_alloc_lt _ _ t htl];exact ht0)
  (by rw[World.frozen?_alloc_old _ _ t (by simp;omega),World.frozen?_alloc_old _ _ t (by simp;omega),World.frozen?_alloc_old _ _ t (by simp;omega),World.frozen?_alloc_old _ _ t (Nat.ne_of_lt htl)];exact hf0)
 go_enter Tryz.func41,Tryz.ntmps41
 go_wp2
 refine wp_loop_rounds 1 ?_
 rw[rounds_succ]
 go_wp2
 go_ret
 exact ⟨rfl,rfl⟩
end Go.Proofs.YtniloklglpchfaeGreatDoor
/- What Told of package plain and Error of package galleysame come to at an Errno and at nil. Condition: the library's variable errors.errorType is as its text lays it. -/
namespace Go.Proofs.YtniloklglpchfaeGreatDoor
open Go.RowKit
theorem Handle.alloc{w:World}(h:Handle w)(o:Obj):Handle (w.alloc o):=by
 unfold Handle;rw[World.cell?_alloc_lt _ _ ⟨0,0,none⟩ (World.block_lt_of_cell? w _ h)];exact h
theorem told_hit(k:Int)(w:World)(hg:Handle w):Calls Tryz.prog 22 #[.iface 33 (.int .i64 k)] w fun e w'=>e=.returned (.int .i64 k)/\Below w.heap.size w w':=by
 have hA:=hg.alloc (.cells #[.int .i64 0] 33)
 have htA:(w.alloc (.cells #[.int .i64 0] 33)).cell? ⟨w.heap.size,0,none⟩=some (.int .i64 0):=by simp
 have hfA:(w.alloc (.cells #[.int .i64 0] 33)).frozen? ⟨w.heap.size,0,none⟩=false:=by simp
 go_enter Tryz.func22,Tryz.ntmps22
 go_wp2_with (go_at_call 41;refine (as_hit k _ (.int .i64 0) _ hA htA hfA).mono ?_;rintro e w' ⟨rfl,rfl⟩)
 go_ret
 exact ⟨rfl,by repeat (first|exact Below.refl _ _|refine Below.alloc ?_ (by first|exact Nat.le_refl _|(simp only[World.size_alloc];omega)|omega) _)⟩
theorem error_hit(k n:Int)(w:World)(hg:Handle w):Calls Tryz.prog 8 #[.iface 33 (.int .i64 k),.int .i64 n] w fun e w'=>e=.returned (.bool (k==n))/\Below w.heap.size w w':=by
 go_enter Tryz.func8,Tryz.ntmps8
 go_wp2_with (go_at_call 22;refine (told_hit k _ hg).mono ?_;rintro e w1 ⟨rfl,hb⟩)
 go_ret
 exact ⟨rfl,hb⟩
theorem told_nil(w:World):Calls Tryz.prog 22 #[.nilIface] w fun e w'=>e=.returned (.int .i64 0)/\w'=w:=by
 go_enter Tryz.func22,Tryz.ntmps22
 go_wp2
 go_ret
 exact ⟨rfl,rfl⟩
theorem Handle.u_{w w':World}(h:Handle w)(hb:Below w.heap.size w w'):Handle w':=by
 unfold Handle at h ⊢
 rw[hb.cell (p:=⟨0,0,none⟩) (World.block_lt_of_cell? w _ h)];exact h
theorem error_any(k n:Int)(w:World)(hg:Handle w):Calls Tryz.prog 8 #[errV k,.int .i64 n] w fun e w'=>e=.returned (.bool (k==n))/\Below w.heap.size w w':=by
 by_cases hk:k=0
 ·subst hk
  rw[show errV 0=.nilIface from rfl]
  go_enter Tryz.func8,Tryz.ntmps8
  go_wp2_with (go_at_call 22;refine (told_nil _).mono ?_;rintro e w1 ⟨rfl,rfl⟩)
  go_ret
  exact ⟨rfl,Below.refl _ _⟩
 ·rw[show errV k=.iface 33 (.int .i64 k) by unfold errV;rw[if_neg hk]]
  exact error_hit k n w hg
theorem error_same{k n:Int}(h:k=n)(w:World)(hg:Handle w):Calls Tryz.prog 8 #[errV k,.int .i64 n] w fun e w'=>e=.returned (.bool true)/\Below w.heap.size w w':=by
 refine (error_any k n w hg).mono ?_
 rintro e w' ⟨rfl,hb⟩
 exact ⟨by rw[h];simp,hb⟩
end Go.Proofs.YtniloklglpchfaeGreatDoor
