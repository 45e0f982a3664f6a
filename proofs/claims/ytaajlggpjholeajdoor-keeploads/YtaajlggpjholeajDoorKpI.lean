/- errors.Is, asked of no error and of an Errno that is the one that is looked for; bytes.Equal and bytes.HasPrefix. -/
import Derived.Test.YtaajlggpjholeajDoorWrC2
import Derived.LaidEql
import Derived.Stop.Asserts
import Derived.RowKitTokens
import Derived.Laws.BytesArg
import Derived.Lib.SmallJoins
namespace Go.Proofs.YtaajlggpjholeajDoor
open Go.RowKit Go.Extern.Stop Go.Stop Go.Extern
theorem k_typeOf(v:Value)(w:World):(ReflectliteType.typeOf #[.iface 33 v]).run Tryd.prog w=.ok (.iface 114 (.agg #[.pointer (some ⟨1,33,none⟩)])) w:=by kernel_rfl
theorem k_comparable (w : World) : ((ReflectliteType.method fun t => do Rtype.noPackHeld "Comparable" t; pure (.bool (← typeInfo t).comparable)) #[.agg #[.pointer (some ⟨1, 33, none⟩)]]).run Tryd.prog w = .ok (.bool true) w := by kernel_rfl
theorem k_comp_at:∃F:Array Value→Sem Value,(∀w,(F #[.agg #[.pointer (some ⟨1,33,none⟩)]]).run Tryd.prog w=.ok (.bool true) w)∧∀args w,(callFunc 94 args).run Tryd.prog w=((F args).run Tryd.prog w).andThen fun v w'=>.ok (.value v) w':=
 ⟨_, k_comparable, @run_callFunc_extern Tryd.prog 94 _ (ReflectliteType.method fun t => do Rtype.noPackHeld "Comparable" t; pure (.bool (← typeInfo t).comparable)) Tryd.func94 (by kernel_rfl) (by kernel_rfl) (by kernel_rfl) (by kernel_rfl)⟩
theorem k_method (h : Value) (w : World) : (Go.method 281 114 (.agg #[h]) "Comparable").run Tryd.prog w = .ok (94, .agg #[h]) w := by kernel_rfl
theorem k_same(k:Int)(w:World):(Go.binOp .eql 30 (.iface 33 (.int .i64 k)) (.iface 33 (.int .i64 k))).run Tryd.prog w=.ok (.bool (decide (k=k))) w:=by kernel_rfl
theorem k_nil(v:Value)(w:World):(Go.binOp .eql 30 .nilIface (.iface 33 v)).run Tryd.prog w=.ok (.bool false) w:=by kernel_rfl
set_option maxRecDepth 100000 in
set_option maxHeartbeats 4000000 in
theorem is_stop(w:World):Calls Tryd.prog 41 #[.iface 33 (.int .i64 7),.iface 33 (.int .i64 7)] w fun e w'=>e=.returned (.bool true)∧w'=w:=by
 have h8:=@run_callFunc_extern Tryd.prog 58 _ ReflectliteType.typeOf Tryd.func58 (by kernel_rfl) (by kernel_rfl) (by kernel_rfl) (by kernel_rfl)
 obtain ⟨F,cT,h32⟩:=k_comp_at
 have tT:=k_typeOf
 have mR:=k_method
 have heq:=fun w=>k_same 7 w
 rw[show decide ((7:Int)=7)=true from rfl]at heq
 go_enter Tryd.func41,Tryd.ntmps41
 go_wp2
 refine wp_loop_rounds 1 ?_
 rw[rounds_succ]
 go_wp2
 go_ret
 exact ⟨rfl,rfl⟩
set_option maxRecDepth 100000 in
theorem is_going(w:World):Calls Tryd.prog 41 #[.nilIface,.iface 33 (.int .i64 7)] w fun e w'=>e=.returned (.bool false)∧w'=w:=by
 have hn:=k_nil
 go_enter Tryd.func41,Tryd.ntmps41
 go_wp2
 go_ret
 exact ⟨rfl,rfl⟩
theorem strOf_inj{l k:List Int}(hl:∀x∈l,0≤x∧x<256)(hk:∀x∈k,0≤x∧x<256)(h:strOfNums l=strOfNums k):l=k:=by
 have h1:l.map (fun n=>UInt8.ofNat n.toNat)=k.map (fun n=>UInt8.ofNat n.toNat):=by
  rw[←strOfNums_data l,←strOfNums_data k,h]
 clear h
 induction l generalizing k with
 |nil=>cases k with
  |nil=>rfl
  |cons b k=>simp at h1
 |cons a l ih=>cases k with
  |nil=>simp at h1
  |cons b k=>
   rw[List.map_cons,List.map_cons]at h1
   injection h1 with e1 e2
   have ha:=hl a (by simp)
   have hb:=hk b (by simp)
   have e3:a.toNat % 256=b.toNat % 256:=by
    have:=congrArg UInt8.toNat e1
    simpa using this
   rw[ih (fun x hx=>hl x (List.mem_cons_of_mem _ hx)) (fun x hx=>hk x (List.mem_cons_of_mem _ hx)) e2,show a=b by omega]
theorem bys_str{w:World}{v:Value}{l:List Int}(h:IsBys w v l):(convert 28 9 v).run Tryd.prog w=.ok (.string (strOfNums l)) w:=by
 obtain ⟨a,cap,rfl,h2,h3,h5,h4⟩:=h
 have hs:Tryd.prog.underlying 28=some (.slice 5):=by kernel_rfl
 have he:Tryd.prog.underlying 5=some (.int .u8):=by kernel_rfl
 have hd:Tryd.prog.underlying 9=some .string:=by kernel_rfl
 rcases h4 with rfl|⟨b,off,rfl,hc⟩
 ·rw[run_convert_bytes_string w _ _ _ _ _ cap hs he hd]
  cases a<;>simp[Conv.bytesToString,loadCells,strOfNums]
  all_goals rfl
 ·refine run_convert_bytes_arg w _ _ hs he b off l.length cap l rfl (fun i hi=>?_) _ hd
  rw[hc i _ (List.getElem?_eq_getElem hi)]
  simp[List.getD,List.getElem?_eq_getElem hi]
set_option maxHeartbeats 4000000 in
theorem bequal_any(u v:Value)(l k:List Int)(w:World)(hu:IsBys w u l)(hv:IsBys w v k):Calls Tryd.prog 57 #[u,v] w fun e w'=>e=.returned (.bool (decide (l=k)))∧w'=w:=by
 have c1:=bys_str hu
 have c2:=bys_str hv
 have hl:∀x∈l,0≤x∧x<256:=by obtain ⟨_,_,_,_,_,h,_⟩:=hu;exact h
 have hk:∀x∈k,0≤x∧x<256:=by obtain ⟨_,_,_,_,_,h,_⟩:=hv;exact h
 have HB:=h_ (show decide (l=k)=decide (strOfNums l=strOfNums k) by
  by_cases c:l=k
  ·rw[c];simp
  ·rw[decide_eq_false c,decide_eq_false (fun h=>c (strOf_inj hl hk h))])
 rw[HB.out]
 obtain ⟨s,hs⟩:=gN (strOfNums l)
 obtain ⟨t,ht⟩:=gN (strOfNums k)
 rw[hs]at c1 ⊢
 rw[ht]at c2 ⊢
 clear HB hs ht hl hk hu hv
 by_cases c:s=t
 ·subst c
  go_enter Tryd.func57,Tryd.ntmps57
  go_wp2
  go_ret
  exact ⟨by simp,rfl⟩
 ·go_enter Tryd.func57,Tryd.ntmps57
  go_wp2
  go_ret
  exact ⟨by simp[c];intro e;exact c (ByteArray.ext (Array.toList_inj.mp (by rw[←Go.ByteArray.toList_eq,←Go.ByteArray.toList_eq];exact e))),rfl⟩
end Go.Proofs.YtaajlggpjholeajDoor
