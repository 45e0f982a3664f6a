/- What written of package keep comes to: a state's bytes. -/
import Derived.Test.YtaajlggpjholeajDoorKpP
import Derived.Test.YtaajlggpjholeajDoorWrC3
import Derived.Test.YtaajlggpjholeajDoorLists
import Derived.Test.YtaajlggpjholeajDoorLBox
import Derived.Lib.SmallJoins
namespace Go.Proofs.YtaajlggpjholeajDoor
open Go.RowKit
def layM (x:Ly×(Mx×Mx)):List Mx:=[x.1.w,x.1.b,x.2.1,x.2.2]
def lyK (x:Ly×(Mx×Mx)) (k:Nat):List Nat:=x.1.k.toNat::((layM x).take k).flatMap mxN
theorem lyK_zero(x:Ly×(Mx×Mx)):wrNs (lyK x 0)=sev x.1.k.toNat:=by simp[lyK,wrNs]
theorem lyK_all(x:Ly×(Mx×Mx)):lyK x 4=lyN x:=by simp[lyK,layM,lyN]
theorem lyK_next{x:Ly×(Mx×Mx)}{k:Nat}{m:Mx}(h:(layM x)[k]?=some m):wrNs (lyK x (k+1))=wrNs (lyK x k)++wrNs (mxN m):=by
 obtain ⟨hi,e⟩:=List.getElem?_eq_some_iff.1 h
 unfold lyK
 rw[List.take_succ_eq_append_getElem hi,e,List.flatMap_append,wr_cons,wr_cons,wr_app]
 simp
theorem lyK_le{x:Ly×(Mx×Mx)}(h:l_ x.1=0∧q_ x.2.1=0∧q_ x.2.2=0)(k:Nat):(wrNs (lyK x k)).length≤5801:=by
 have h1:=lyN_le h
 have e:lyN x=lyK x k++((layM x).drop k).flatMap mxN:=by
  rw[←lyK_all]
  unfold lyK
  rw[show (layM x).take 4=(layM x).take k++(layM x).drop k by rw[List.take_append_drop];rfl,List.flatMap_append,List.cons_append]
 rw[e,wr_app,List.length_append]at h1
 omega
def stK (n:Int) (xs:List (Ly×(Mx×Mx))) (i:Nat):List Int:=71::1::wrNs (n.toNat::xs.length::lysN (xs.take i))
theorem stK_zero(n:Int)(xs:List (Ly×(Mx×Mx))):stK n xs 0=[71,1]++sev n.toNat++sev xs.length:=by simp[stK,wrNs,lysN]
theorem stK_all(n:Int)(xs:List (Ly×(Mx×Mx))){i:Nat}(h:xs.length≤i):stK n xs i=stB n xs:=by unfold stK stB stN;rw[List.take_of_length_le h]
theorem stK_next{n:Int}{xs:List (Ly×(Mx×Mx))}{i:Nat}{x:Ly×(Mx×Mx)}(h:xs[i]?=some x):stK n xs (i+1)=stK n xs i++wrNs (lyN x):=by
 obtain ⟨hi,e⟩:=List.getElem?_eq_some_iff.1 h
 unfold stK lysN
 rw[List.take_succ_eq_append_getElem hi,e,List.flatMap_append,wr_cons,wr_cons,wr_app,wr_cons,wr_cons]
 simp
theorem stK_le{n:Int}{xs:List (Ly×(Mx×Mx))}(h:stF (n,xs)=0)(i:Nat):(stK n xs i).length≤70000:=by
 have h1:=(stB_len h).2
 have e:stB n xs=stK n xs i++wrNs (lysN (xs.drop i)):=by
  have e2:lysN xs=lysN (xs.take i)++lysN (xs.drop i):=by
   unfold lysN
   rw[←List.flatMap_append,List.take_append_drop]
  unfold stB stK stN
  rw[e2,wr_cons,wr_cons,wr_cons,wr_cons,wr_app]
  simp
 rw[e,List.length_append]at h1
 omega
theorem kidx0(a0 a1 a2 a3 a4 a5 a6 a7 a8 a9 b0 b1:Value)(W:World):(Instr.index 73 (.agg #[a0,a1,a2,a3,a4,a5,a6,a7,a8,a9,b0,b1]) (.int .i64 0)).run Tryd.prog W=.ok (.agg #[a0,a1,a2]) W:=by kernel_rfl
theorem kidx1(a0 a1 a2 a3 a4 a5 a6 a7 a8 a9 b0 b1:Value)(W:World):(Instr.index 73 (.agg #[a0,a1,a2,a3,a4,a5,a6,a7,a8,a9,b0,b1]) (.int .i64 1)).run Tryd.prog W=.ok (.agg #[a3,a4,a5]) W:=by kernel_rfl
theorem kidx2(a0 a1 a2 a3 a4 a5 a6 a7 a8 a9 b0 b1:Value)(W:World):(Instr.index 73 (.agg #[a0,a1,a2,a3,a4,a5,a6,a7,a8,a9,b0,b1]) (.int .i64 2)).run Tryd.prog W=.ok (.agg #[a6,a7,a8]) W:=by kernel_rfl
theorem kidx3(a0 a1 a2 a3 a4 a5 a6 a7 a8 a9 b0 b1:Value)(W:World):(Instr.index 73 (.agg #[a0,a1,a2,a3,a4,a5,a6,a7,a8,a9,b0,b1]) (.int .i64 3)).run Tryd.prog W=.ok (.agg #[a9,b0,b1]) W:=by kernel_rfl
theorem WBk.c3{w:World}{R:Nat}{x0 x1 x2:Value}{t:TypeId}(h:WBk w R #[x0,x1,x2] t):w.cell? ⟨R,0,none⟩=some x0∧w.cell? ⟨R,1,none⟩=some x1∧w.cell? ⟨R,2,none⟩=some x2:=⟨h.c rfl,h.c rfl,h.c rfl⟩
theorem WBk.c7{w:World}{R:Nat}{x0 x1 x2 x3 x4 x5 x6:Value}{t:TypeId}(h:WBk w R #[x0,x1,x2,x3,x4,x5,x6] t):w.cell? ⟨R,0,none⟩=some x0∧w.cell? ⟨R,1,none⟩=some x1∧w.cell? ⟨R,2,none⟩=some x2∧w.cell? ⟨R,3,none⟩=some x3∧w.cell? ⟨R,4,none⟩=some x4∧w.cell? ⟨R,5,none⟩=some x5∧w.cell? ⟨R,6,none⟩=some x6:=⟨h.c rfl,h.c rfl,h.c rfl,h.c rfl,h.c rfl,h.c rfl,h.c rfl⟩
theorem app_bysG{w:World}{ops:Array Oper}{rest:List Oper}{o:Oper}{a:Act}{Q:Exit→Act→World→Prop}(hgd:o.guard=none)(s x:Operand)
  (ho:o.op=.call { callee:=.builtin .append,args:=#[s,x],argTypes:=#[28,28] }) (ad0:Addr) (n:Nat) (u:Value) (ys zs:List Int) (hs:a.eval s=.slice (some ad0) n n) (hys:IsBys w (.slice (some ad0) n n) ys) (hx:a.eval x=u) (hu:IsBys w u zs) (hn:NilOk u) (hz:zs≠[])
  (hsm:ys.length+zs.length≤140737488355328)
  (h:∀v' w',OwnY w' w.heap.size v' (ys++zs)→Below w.heap.size w w'→wpList Tryd.prog ops Q rest (a.put o.dst v') w'):wpList Tryd.prog ops Q (o::rest) a w:=by
 obtain ⟨e0,ei,hz0,hz1,hz2⟩:=info_parts infoByte
 obtain ⟨ad,cap,rfl,h2,h3,h5,h4⟩:=hu
 obtain ⟨a0,cap0,e1,g2,g3,g5,g4⟩:=hys
 obtain ⟨e1,e2,e3⟩:=Value.slice.inj e1
 subst e1 e3
 rw[e2]at hs
 clear e2
 have hbb:∀x∈ys++zs,0≤x∧x<256:=fun x hx=>by
  rcases List.mem_append.1 hx with q|q
  ·exact g5 x q
  ·exact h5 x q
 have hzl:0<zs.length:=by cases zs with|nil=>exact absurd rfl hz|cons=>simp
 obtain ⟨b,off,rfl,hc⟩:=h4.resolve_left hz
 have hr:=run_append_grow (P:=Tryd.prog) (w:=w) 28 o.type 5 e0 (.int .u8 0) Tryd.underlying28 ei hz0 ad0 ys.length ys.length (ys.map (Value.int .u8)) (by rw[hz1,List.length_map,Nat.mul_one])
  (fun j u' hj=>by
   rcases g4 with rfl|⟨b',off',e,hc'⟩
   ·simp at hj
   ·obtain rfl:=Option.some.inj e
    rw[List.getElem?_map]at hj
    cases hy:ys[j]? with
    |none=>rw[hy]at hj;simp at hj
    |some y=>
     rw[hy]at hj
     obtain rfl:=Option.some.inj hj
     rw[Addr.add_lit]
     exact hc' j y hy) ⟨b,off,none⟩ zs.length cap (zs.map (Value.int .u8)) (by rw[hz1,List.length_map,Nat.mul_one])
  (fun j u' hj=>by
   rw[List.getElem?_map]at hj
   cases hy:zs[j]? with
   |none=>rw[hy]at hj;simp at hj
   |some y=>
    rw[hy]at hj
    obtain rfl:=Option.some.inj hj
    rw[Addr.add_lit]
    exact hc j y hy) (by omega) (by omega) (growslice_fits (by omega) (by rw[hz2];omega))
 have hge:=grownCap_ge w (ys.length+zs.length) ys.length 5
 have hcm:=grownCap_le_maxLen w (ys.length+zs.length) ys.length 5 (by unfold maxLen;omega)
 refine wpList_plain hgd fun K hK=>?_
 unfold Oper.wp execOp
 simp only[ho,resolve,invoke,builtin,Sem.run_bind,Sem.run_pure,Result.andThen_ok,List.map_toArray,List.map_cons,List.map_nil,hs,hx,hr]
 refine hK _ _ (h _ _ ⟨⟨by simp,.inr ⟨w.heap.size,_,_,by rw[List.length_append],Nat.le_refl _,heap_alloc_new w.drew _,by rw[List.length_append];exact hge,hcm,?_,?_⟩⟩,hbb⟩ (bel_on (r_ (Below.refl _ _)) (o_ w.drew _)))
 ·simp only[Array.size_append,List.size_toArray,size_zeroCells,List.length_map]
  simp only[Value.cells,List.size_toArray,List.length_cons,List.length_nil]
  omega
 ·simp only[Array.toList_append,List.append_assoc,List.map_append]
  rw[←List.append_assoc,List.take_left' (by simp)]
end Go.Proofs.YtaajlggpjholeajDoor
