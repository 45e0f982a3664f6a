/- The group of the library, as this program has it. -/
import Derived.Test.YtniloklglpchfaiRows
import Derived.WalkKit
import Derived.Conc.WgGenN3
import Derived.Test.YtniloklglpchfaiRgW
import Derived.Test.YtniloklglpchfaiEqWc
import Derived.Test.YtniloklglpchfaiPkRgH
import Derived.Deep.RegionLaw
import Derived.Lib.SmallJoins
import Derived.Laws.IdiomCopy
import Derived.Conc.SmallLaws
import Derived.Deep.RegionHeld3
namespace Go.Proofs.Ytniloklglpchfai
open Go Go.RowKit Go.Conc
abbrev wgL:Lib.WgLink:={ add:=14,done:=16,wait:=18,relMerge:=22,disable:=23,enable:=24,inBubble:=25,associate:=26,fatal:=27,uOr:=28,uAdd:=29,raceRead:=30,uLoad:=31,uStore:=32,disassociate:=33,semrelease:=34,acquire:=38,isAssociated:=39,uCas:=40,raceWrite:=41,semacquire:=42,orU64:=44,addU64:=45,loadU64:=46,storeU64:=47,casU64:=49,tWgP:=62,tUP:=64,tAssoc:=66,tWg:=50,tAU:=47,tU64:=45,tUint:=70,tU32:=48,tPU32:=71,tPAU:=82,tPU64:=84,tNoCopy:=42,tANoCopy:=43,tAlign64:=44 }
theorem wg_lib:Lib.WgLib Try.prog wgL:=
 ⟨Try.func14,Try.func16,Try.func18,Try.func22,Try.func23,Try.func24,Try.func25,Try.func26,Try.func27,Try.func28,Try.func29,Try.func30,Try.func31,Try.func32,Try.func33,Try.func34,Try.func38,Try.func39,Try.func40,Try.func41,Try.func42,Try.func44,Try.func45,Try.func46,Try.func47,Try.func49,Try.underlying62,Try.runUnderlying62,Try.sizeOf62,Try.isAgg62,Try.zeroValue62,Try.underlying64,Try.runUnderlying64,Try.sizeOf64,Try.isAgg64,Try.zeroValue64,Try.underlying66,Try.runUnderlying66,Try.sizeOf66,Try.isAgg66,Try.zeroValue66,Try.underlying50,Try.runUnderlying50,Try.sizeOf50,Try.isAgg50,Try.zeroValue50,Try.underlying47,Try.runUnderlying47,Try.sizeOf47,Try.isAgg47,Try.zeroValue47,Try.underlying45,Try.runUnderlying45,Try.sizeOf45,Try.isAgg45,Try.zeroValue45,Try.underlying70,Try.runUnderlying70,Try.sizeOf70,Try.isAgg70,Try.zeroValue70,Try.underlying48,Try.runUnderlying48,Try.sizeOf48,Try.isAgg48,Try.zeroValue48,Try.underlying71,Try.runUnderlying71,Try.sizeOf71,Try.isAgg71,Try.zeroValue71,Try.underlying82,Try.runUnderlying82,Try.sizeOf82,Try.isAgg82,Try.zeroValue82,Try.underlying84,Try.runUnderlying84,Try.sizeOf84,Try.isAgg84,Try.zeroValue84,Try.underlying0,Try.runUnderlying0,Try.sizeOf0,Try.isAgg0,Try.zeroValue0,Try.underlying3,Try.runUnderlying3,Try.sizeOf3,Try.isAgg3,Try.zeroValue3,Try.underlying4,Try.runUnderlying4,Try.sizeOf4,Try.isAgg4,Try.zeroValue4,Try.underlying9,Try.runUnderlying9,Try.sizeOf9,Try.isAgg9,Try.zeroValue9,Try.underlying20,Try.runUnderlying20,Try.sizeOf20,Try.isAgg20,Try.zeroValue20,Try.underlying21,Try.runUnderlying21,Try.sizeOf21,Try.isAgg21,Try.zeroValue21,(by kernel_rfl),(by kernel_rfl)⟩
section
variable {E:Env} {Goal:Stand} {n:Nat} {b c:Frame} {a:Act} {k:List Item} {cs:List Frame} {W:World} {kn ow:Nat→Prop}
theorem path_defer(h:Here W kn ow){ops:Array Oper}{i:Nat}{rest:List Nat}{o:Oper}{f:FuncId}{xs:Array Operand}{ats:Array TypeId}(vs:Array Value)(ho:ops[i]?=some o)(hw:Region.wanted o (yielded ops a.tmps)=true)(hk:b.kind≠.early)(hop:o.op=.defer { callee:=.value (.func f),args:=xs,argTypes:=ats })(hdst:o.dst=none)(hvs:xs.map a.eval=vs)
  (hp:∃ρ,Path E Goal n ρ (G (b.at ⟨a.tmps,dcall f vs::a.defers⟩ (.inRegion ops rest::k)) cs) W kn ow):∃ρ,Path E Goal (n+1) ρ (G (b.at a (.inRegion ops (i::rest)::k)) cs) W kn ow:=
 Path.go h.knl h.owk rfl (fun _ _ _=>by rw[stepG_defer ho hw hk hop,hvs,hdst];rfl) rfl hp
theorem path_read_to(h:Here W kn ow)(a':Act){ops:Array Oper}{i:Nat}{rest:List Nat}{o:Oper}{ad:Addr}{v:Value}(ha:kn ad.block)(hc:W.cell? ad=some v)(ho:ops[i]?=some o)(hw:Region.wanted o (yielded ops a.tmps)=true)(hk:b.kind≠.early)(hr:∀W',W'.cell? ad=some v→(execOp a.eval o).run E.P W'=.ok (.value v) W')(hl:∀W',W'.cell? ad=some v→∀e,e∈listed E.P b.fn a o W'→e=⟨.cell ad,false,false⟩)(ha':a.put o.dst v=a')
  (hp:∃ρ,Path E Goal n ρ (G (b.at a' (.inRegion ops rest::k)) cs) W kn ow):∃ρ,Path E Goal (n+1) ρ (G (b.at a (.inRegion ops (i::rest)::k)) cs) W kn ow:=
 path_read h ha hc ho hw hk hr hl (by rw[ha'];exact hp)
theorem path_enter_to{kn1 ow1:Nat→Prop}(hl:∀B,kn B→B<W.heap.size)(hk1:∀B,kn1 B→kn B)(ho1:∀B,ow1 B→ow B)(hw1:∀B,ow1 B→kn1 B){ops:Array Oper}{i:Nat}{rest:List Nat}{o:Oper}{f:FuncId}{fn:Func}{c:Code}{args:Array Operand}{ats:Array TypeId}(vs:Array Value)(ho:ops[i]?=some o)(hw:Region.wanted o (yielded ops a.tmps)=true)(hk:b.kind≠.early)(hop:o.op=.call { callee:=.value (.func f),args,argTypes:=ats })
  (hf : E.P.funcs[f]? = some fn) (hname : (fn.name == "runtime.NumGoroutine") = false) (hb : fn.body = some c) (hvs : args.map a.eval = vs) (hp : ∃ ρ, Path E Goal n ρ (G (Frame.enter E.P f vs .normal) (b.at a (.inRegion ops (i :: rest) :: k) :: cs)) W kn1 ow1) : ∃ ρ, Path E Goal (n + 1) ρ (G (b.at a (.inRegion ops (i :: rest) :: k)) cs) W kn ow :=
 path_enter_less hl hk1 ho1 hw1 ho hw hk hop hf hname hb (by rw[hvs];exact hp)
end
abbrev fChild:FuncId:=15
abbrev bChild:Frame:=baseD fChild
def botF (n:Nat):Frame:={ (default:Frame) with fn:=n,defers:=[],mode:=.panicking [goexitEntry] }
def callV (Wg Xb:Nat):Deferred:={ target:=.fn (.func fChild) #[.pointer (some ⟨Wg,0,none⟩),.pointer (some ⟨Xb,0,none⟩)],args:=#[] }
def slotV (Wg Xb:Nat) (x y:Value):Array Value:=#[.pointer (some ⟨Wg,0,none⟩),.pointer (some ⟨Xb,0,none⟩),x,y]
theorem slotV_set(Wg Xb:Nat)(x y v:Value):(slotV Wg Xb x y).setIfInBounds 3 v=slotV Wg Xb x v:=rfl
theorem born_step(Wg Xb:Nat)(m:Bool)(w:World):stepG Try.prog m (born Try.prog (callV Wg Xb)) w=
  .go (G (bChild.at ⟨slotV Wg Xb undef undef,[]⟩ [.code ((Try.f15).body.getD .skip)]) [botF (Try.prog).funcs.size]) w #[]:=by
 simp[born,callV,slotV,fChild,stepG,unwind,callDeferred,invoke,callFunc,Try.func15,Try.f15,seen,GStep.after,G,Frame.enter,Frame.at,bChild,baseD,botF]
theorem quits_tail(T:Array Value)(n:Nat)(hn:(Try.prog).funcs[n]?=none):QuitsD Try.prog 2 0 (G { bChild.at ⟨T,[]⟩ [] with mode:=.returning } [botF n]):=by
 refine QuitsD.ctl (g':=G (botF n) []) rfl (fun w=>?_) ?_
 ·simp[G,stepG,unwind,doReturn,results,Frame.at,bChild,fChild,baseD,botF,Try.func15,Try.f15,seen,GStep.after,goexitEntry]
 refine QuitsD.ctl (g':={ G (botF n) [] with status:=.finished }) rfl (fun w=>?_) ⟨rfl,rfl⟩
 simp[G,stepG,unwind,botF,goexitEntry,Frame.catches,hn]
 rfl
def IsDone (Wg Xb:Nat) (x:Wkr) (g:Goroutine):Prop:=g=G ((baseD wgL.done).at ⟨#[.pointer (some ⟨Wg,0,none⟩),undef,undef,undef],[]⟩ [.code ((Lib.doneFn wgL).body.getD .skip)]) [{ bChild.at ⟨slotV Wg Xb (.pointer (some ⟨x.S,0,none⟩)) (.tuple #[]),[]⟩ [] with mode:=.returning },botF (Try.prog).funcs.size]
set_option linter.unusedSimpArgs false in
set_option maxRecDepth 100000 in
set_option maxHeartbeats 4000000 in
theorem child_path{M:Msg}(hM:M.Fast){Fin:Stand}{x:Wkr}(hok:x.Ok){W:World}{ts:List Int}(Me:x.Mem W ts){X Y:Nat→List Int}(hX:∀k,(X k).length=stN x.n x.c (qN x.c x.i k+1) - stN x.n x.c (qN x.c x.i k))
  (hX0:pcL x.n x.c (qN x.c x.i 0) x.own=X 0) (hadd:∀k,k+1<x.c→List.zipWith ad (Y k) (pcL x.n x.c (qN x.c x.i (k+1)) x.own)=X (k+1)∧(Y k).length=(pcL x.n x.c (qN x.c x.i (k+1)) x.own).length) (hpass:∀k,x.c≤k+1→k<2*(x.c - 1)→Y k=X (k+1))
  (hsend:∀k W v L,k<2*(x.c - 1)→Lst W L v (X k)→M x.to k v W (lsB L) (lsB L)) (hrecv:∀k W v mb mo,k<2*(x.c - 1)→M x.fr k v W mb mo→∃L',mb=lsB L'∧mo=lsB L'∧Lst W L' v (Y k))
  {Wg Xb:Nat} {kc oc:Nat→Prop} (hkl:∀B,kc B→B<W.heap.size) (hko:∀B,oc B→kc B) (hk:∀B,x.k0 B→kc B) (ho:∀B,x.o0 B→oc B) (hXk:kc Xb) (hXb:W.cell? ⟨Xb,0,none⟩=some (.pointer (some ⟨x.S,0,none⟩)))
  (hfin:∀g W' L v,IsDone Wg Xb x g→x.Mem W' (tsJ x.n x.c x.i X ts (x.c - 1))→Lst W' L v (X (2*(x.c - 1)))→x.Off L→Fin g W' (x.kl L) (x.ol L)):
  ∃n ρ,Path (mkE Try.prog rgF rgF) (Run (mkE Try.prog rgF rgF) M Fin (ringS x.to x.fr (2*(x.c - 1)) 0)) n ρ (born Try.prog (callV Wg Xb)) W kc oc:=by
 have hH:Here W kc oc:=⟨hkl,hko⟩
 refine ⟨500,Path.go hkl hko rfl (fun W' _ m=>born_step Wg Xb m W') rfl ?_⟩
 have hke:bChild.kind≠.early:=by decide
 simp only[Try.f15,Option.getD_some]
 refine path_seq hH ?_
 refine path_region hH rfl ?_
 refine path_defer hH #[.pointer (some ⟨Wg,0,none⟩)] rfl rfl hke rfl rfl (by simp[Act.eval,slotV]) ?_
 refine path_region_end hH ?_
 refine path_region hH rfl ?_
 have e0:(slotV Wg Xb undef undef).getD 1 undef=.pointer (some ⟨Xb,0,none⟩):=rfl
 refine path_read_to hH ⟨slotV Wg Xb (.pointer (some ⟨x.S,0,none⟩)) undef,[dcall wgL.done #[.pointer (some ⟨Wg,0,none⟩)]]⟩ (ad:=⟨Xb,0,none⟩) (v:=.pointer (some ⟨x.S,0,none⟩)) hXk hXb rfl rfl hke (fun W' hc=>?_) (fun W' hc e he=>?_) rfl ?_
 ·show Sem.run Try.prog _ W'=_
  simp only[slotV]
  go_simp
 ·have hm:=mem_listed he
  replace hm:e∈Sem.events Try.prog _ W' #[]:=hm
  simp[go_sem,Act.eval,Act.put,e0,hc,-Array.getD_eq_getD_getElem?]at hm
  exact hm
 refine path_enter_to (kn1:=x.kl none) (ow1:=x.ol none) hkl (fun B q=>q.elim (hk B) (fun q=>by cases q)) (fun B q=>q.elim (ho B) (fun q=>by cases q)) (x.olk none) #[.pointer (some ⟨x.S,0,none⟩)] rfl rfl hke rfl (fn:=Try.f17) Try.func17 rfl rfl (by simp[Act.eval,slotV]) ?_
 refine Path.up (N:=400) (by decide) ?_
 refine work_path hM hok Me hX hX0 hadd hpass hsend hrecv _ _ fun W' L v M' hL' hoff=>?_
 have hH':=M'.hereL hL'
 rw[Frame.finish_at]
 simp only[List.getElem?_toArray,List.getElem?_cons_succ,List.getElem?_cons_zero,Option.bind_some,Act.put,slotV_set]
 refine path_region_end (n:=59) hH' ?_
 refine Path.go (n:=58) hH'.knl hH'.owk rfl (fun _ _ _=>stepG_end) rfl ?_
 refine Path.go (n:=57) hH'.knl hH'.owk rfl (fun _ _ _=>stepG_unwind_enter rfl (wg_lib.f_done) (by kernel_rfl) rfl) rfl ⟨fun _=>0,Path.done fun W2 hx=>?_⟩
 exact hfin _ W2 L v rfl (M'.ext hx fun _=>.inl) (hL'.ext hx fun _=>.inr) hoff
end Go.Proofs.Ytniloklglpchfai
/- A ring is manned: its channels and its workers. -/
namespace Go.Proofs.Ytniloklglpchfai
open Go Go.RowKit
def rawC (z:Value) (k:Nat):Array Value:=madeCells z.cells k
theorem run_mkZ(e s size bytes:Nat)(z:Value)(hu:(Try.prog).underlying s=some (.slice e))(hi:((Try.prog).info? e).map (fun i=>(i.zero,i.size,i.bytes))=some (some z,size,bytes))(L:Int)(n:Nat)(hL:L=(n:Int))(hn:bytes*n≤281474976710656)(hm:n≤9223372036854775807)(W:World):
  (Instr.makeSlice s (.int .i64 0) (.int .i64 L)).run Try.prog W=.ok (.slice (some ⟨W.heap.size,0,none⟩) 0 n) (W.alloc (.cells (rawC z (n*size)) e)):=by
 obtain ⟨i0,hi0,hz0,hz1,hz2⟩:=info_parts hi
 subst hL
 have hr:=run_make (P:=Try.prog) W s e i0 z hu hi0 hz0 .i64 .i64 0 (n:Int) (by omega) (by omega) (by rw[hz2];omega) (by omega)
 simpa [hz1,rawC] using hr
theorem run_mkF(e s size bytes:Nat)(z:Value)(hu:(Try.prog).underlying s=some (.slice e))(hi:((Try.prog).info? e).map (fun i=>(i.zero,i.size,i.bytes))=some (some z,size,bytes))(L:Int)(n:Nat)(hL:L=(n:Int))(hn:bytes*n≤281474976710656)(hm:n≤9223372036854775807)(W:World):
  (Instr.makeSlice s (.int .i64 L) (.int .i64 L)).run Try.prog W=.ok (.slice (some ⟨W.heap.size,0,none⟩) n n) (W.alloc (.cells (rawC z (n*size)) e)):=by
 obtain ⟨i0,hi0,hz0,hz1,hz2⟩:=info_parts hi
 subst hL
 have hr:=run_make (P:=Try.prog) W s e i0 z hu hi0 hz0 .i64 .i64 (n:Int) (n:Int) (by omega) (Int.le_refl _) (by rw[hz2];omega) (by omega)
 simpa [hz1,rawC] using hr
theorem infoCh:((Try.prog).info? 61).map (fun i=>(i.zero,i.size,i.bytes))=some (some (.chan none),1,8):=by kernel_rfl
theorem infoWp:((Try.prog).info? 51).map (fun i=>(i.zero,i.size,i.bytes))=some (some (.pointer none),1,8):=by kernel_rfl
theorem run_mkch(w:World):(Instr.makeChan 61 (.int .i64 1)).run Try.prog w=.ok (.chan (some w.heap.size)) (w.alloc (.chan 1 #[] false 0 0 false)):=by
 obtain ⟨i,hi,hb⟩:∃i,(Try.prog).info? 27=some i∧i.bytes=24:=by
  have h:((Try.prog).info? 27).map (·.bytes)=some 24:=by kernel_rfl
  cases hq:(Try.prog).info? 27 with
  |none=>rw[hq]at h;cases h
  |some i=>rw[hq]at h;exact ⟨i,rfl,by simpa using h⟩
 simpa using Go.Conc.run_makeChan (P:=Try.prog) (w:=w) Try.underlying61 hi .i64 1 (by omega) (by rw[hb];omega)
def chnL (H c k:Nat):List Value:=(List.range c).map fun j=>.chan (if j<k then some (H+1+j) else none)
def wkL (H c k:Nat):List Value:=(List.range c).map fun j=>.pointer (if j<k then some ⟨H+c+3+3*j,0,none⟩ else none)
theorem wkL_len(H c k:Nat):(wkL H c k).length=c:=by simp[wkL]
theorem raw_row(v:Value)(c:Nat)(h:v.cells=#[v]):rawC v (c*1)=((List.range c).map fun _=>v).toArray:=by
 apply Array.ext (by simp[rawC,size_madeCells])
 intro i h1 h2
 simp[rawC,madeCells,h,Nat.mod_one]
theorem chnL_zero(H c:Nat):rawC (.chan none) (c*1)=(chnL H c 0).toArray:=by
 rw[raw_row _ _ rfl]
 unfold chnL
 congr 1
theorem wkL_zero(H c:Nat):rawC (.pointer none) (c*1)=(wkL H c 0).toArray:=by
 rw[raw_row _ _ rfl]
 unfold wkL
 congr 1
theorem chnL_set(H c k:Nat):(chnL H c k).set k (.chan (some (H+1+k)))=chnL H c (k+1):=by
 refine List.ext_getElem? fun j=>?_
 unfold chnL
 rw[List.getElem?_set,List.getElem?_map,List.getElem?_map]
 by_cases hj:j<c
 ·rw[List.getElem?_range hj]
  by_cases e:k=j
  ·subst e;simp[hj]
  ·rw[if_neg e]
   simp only[Option.map_some]
   by_cases q:j<k
   ·rw[if_pos q,if_pos (by omega)]
   ·rw[if_neg q,if_neg (by omega)]
 ·rw[List.getElem?_eq_none (show (List.range c).length≤j by simp;omega)]
  simp
  omega
theorem wkL_set(H c k:Nat):(wkL H c k).set k (.pointer (some ⟨H+c+3+3*k,0,none⟩))=wkL H c (k+1):=by
 refine List.ext_getElem? fun j=>?_
 unfold wkL
 rw[List.getElem?_set,List.getElem?_map,List.getElem?_map]
 by_cases hj:j<c
 ·rw[List.getElem?_range hj]
  by_cases e:k=j
  ·subst e;simp[hj]
  ·rw[if_neg e]
   simp only[Option.map_some]
   by_cases q:j<k
   ·rw[if_pos q,if_pos (by omega)]
   ·rw[if_neg q,if_neg (by omega)]
 ·rw[List.getElem?_eq_none (show (List.range c).length≤j by simp;omega)]
  simp
  omega
structure RingM (H c k:Nat) (w:World):Prop where
 size:w.heap.size=H+1+k
 row:w.heap[H]?=some (.cells (chnL H c k).toArray 61 (0,0))
 chan:∀j,j<k→w.heap[H+1+j]?=some (.chan 1 #[] false 0 0 false)
structure ManM (H c n:Nat) (us:Nat→Value) (k:Nat) (w:World):Prop where
 size:w.heap.size=H+c+2+3*k
 row:w.heap[H]?=some (.cells (chnL H c c).toArray 61 (0,0))
 chan:∀j,j<c→w.heap[H+1+j]?=some (.chan 1 #[] false 0 0 false)
 wk:w.heap[H+c+1]?=some (.cells (wkL H c k).toArray 51 (0,0))
 T:∀j,j<k→w.heap[H+c+2+3*j]?=some (.cells (zeros n) 3 (0,0))
 S:∀j,j<k→w.heap[H+c+3+3*j]?=some (.cells #[.int .i64 (j:Int),.int .i64 (c:Int),us j,.slice (some ⟨H+c+2+3*j,0,none⟩) n n,.chan (some (H+1+j)),.chan (some (H+1+(j+1) % c))] 56 (0,0))
theorem at_alloc{w:World}{b:Nat}{o:Obj}(h:w.heap[b]?=some o)(o':Obj):(w.alloc o').heap[b]?=some o:=by
 have hl:b<w.heap.size:=(Array.getElem?_eq_some_iff.1 h).1
 rw[heap_alloc_old w o' (by omega)]
 exact h
theorem at_set{w:World}{b:Nat}{o:Obj}(h:w.heap[b]?=some o)(a:Addr)(v:Value)(hne:b≠a.block):(w.setCell a v).heap[b]?=some o:=by rw[Below.heap_setCell w a v b hne];exact h
theorem one_at{W:World}{x:Value}{t:TypeId}{b:Nat}(hb:b=W.heap.size):∀(j:Nat) (u:Value),[x][j]?=some u→((W.alloc (.cells #[x] t)).drew).cell? ((⟨b,0,none⟩:Addr).add j)=some u:=by
 intro j u hj
 subst hb
 match j,hj with
 |0,hj=>
  simp at hj
  subst hj
  show (W.alloc (.cells #[x] t)).cell? _=_
  rw[Addr.add_lit,Joins.cell_of_block (heap_alloc_new W _)]
  rfl
theorem spare_at{W:World}{b:Nat}{l:List Value}{t:TypeId}(h:W.heap[b]?=some (.cells l.toArray t (0,0))){j:Nat}(hj:j<l.length){m:Nat}(hm:m≤1):∀q,q<m→((W.drew).cell? ⟨b,0+j*1+q,none⟩).isSome=true∧(W.drew).frozen? ⟨b,0+j*1+q,none⟩=false:=by
 intro q hq
 obtain rfl:q=0:=by omega
 refine ⟨?_,?_⟩
 ·show (W.cell? _).isSome=true
  rw[Joins.cell_of_block h]
  simp[hj]
 ·show W.frozen? _=false
  simp[World.frozen?,h]
theorem keepS{W:World}{b o:Nat}{news:List Value}{p:Addr}{v:Value}(h:W.cell? p=some v)(hne:p.block≠b):((W.drew).setCells b o news).cell? p=some v:=by
 rw[World.cell?_setCells_out b news o (W.drew) p (fun e=>absurd e hne)]
 exact h
theorem RingM.step{H c k:Nat}{w:World}(h:RingM H c k w):RingM H c (k+1) ((w.alloc (.chan 1 #[] false 0 0 false)).setCell ⟨H,k,none⟩ (.chan (some (H+1+k)))):=by
 have hs:=h.size
 refine ⟨by simp[hs];omega,?_,fun j hj=>?_⟩
 ·have:=Joins.block_setCell (i:=k) (at_alloc h.row (.chan 1 #[] false 0 0 false)) (.chan (some (H+1+k)))
  rw[this,List.setIfInBounds_toArray,chnL_set]
 ·refine at_set ?_ _ _ (show H+1+j≠H by omega)
  rcases Nat.lt_or_ge j k with q|q
  ·exact at_alloc (h.chan j q) _
  ·rw[show H+1+j=w.heap.size by omega]
   exact heap_alloc_new w _
theorem RingM.man{H c n:Nat}{us:Nat→Value}{w:World}(h:RingM H c c w):ManM H c n us 0 (w.alloc (.cells (wkL H c 0).toArray 51)):=by
 have hs:=h.size
 refine ⟨by simp[hs];omega,at_alloc h.row _,fun j hj=>at_alloc (h.chan j hj) _,?_,fun j hj=>by omega,fun j hj=>by omega⟩
 rw[show H+c+1=w.heap.size by omega]
 exact heap_alloc_new w _
theorem at_heap{V V':World}(hV:V'.heap=V.heap){b:Nat}{o:Option Obj}(h:V.heap[b]?=o):V'.heap[b]?=o:=by rw[hV];exact h
theorem ManM.step{H c n j jp uk:Nat}{us:Nat→Value}{w V':World}{ua:Option Addr}(h:ManM H c n us j w)(hj:j<c)(hu:us j=.slice ua n uk)(hjp:(j+1) % c=jp)(hV:V'.heap=(((w.alloc (.cells (zeros n) 3)).alloc (.cells #[.int .i64 (j:Int),.int .i64 (c:Int),.slice ua n uk,.slice (some ⟨H+c+2+3*j,0,none⟩) n n,.chan (some (H+1+j)),.chan (some (H+1+jp))] 56)).alloc (.cells #[.pointer (some ⟨H+c+2+3*j+1,0,none⟩)] 51)).heap):
  ManM H c n us (j+1) (V'.setCells (H+c+1) j [.pointer (some ⟨H+c+2+3*j+1,0,none⟩)]):=by
 have hs:=h.size
 unfold World.setCells World.setCells
 have hold:∀{b:Nat} {o:Obj},w.heap[b]?=some o→b≠H+c+1→(V'.setCell ⟨H+c+1,j,none⟩ (.pointer (some ⟨H+c+2+3*j+1,0,none⟩))).heap[b]?=some o:=fun hb hne=>at_set (at_heap hV (at_alloc (at_alloc (at_alloc hb _) _) _)) _ _ hne
 have hT:(V'.setCell ⟨H+c+1,j,none⟩ (.pointer (some ⟨H+c+2+3*j+1,0,none⟩))).heap[H+c+2+3*j]?=some (.cells (zeros n) 3 (0,0)):=by
  refine at_set (at_heap hV (at_alloc (at_alloc ?_ _) _)) _ _ (show H+c+2+3*j≠H+c+1 by omega)
  rw[←hs]
  exact heap_alloc_new w _
 have hS:(V'.setCell ⟨H+c+1,j,none⟩ (.pointer (some ⟨H+c+2+3*j+1,0,none⟩))).heap[H+c+3+3*j]?=some (.cells #[.int .i64 (j:Int),.int .i64 (c:Int),us j,.slice (some ⟨H+c+2+3*j,0,none⟩) n n,.chan (some (H+1+j)),.chan (some (H+1+(j+1) % c))] 56 (0,0)):=by
  refine at_set (at_heap hV (at_alloc ?_ _)) _ _ (show H+c+3+3*j≠H+c+1 by omega)
  rw[hu,hjp,show H+c+3+3*j=(w.alloc (.cells (zeros n) 3)).heap.size by simp[hs];omega]
  exact heap_alloc_new (w.alloc _) _
 refine ⟨?_,hold h.row (by omega),fun i hi=>hold (h.chan i hi) (by omega),?_,fun i hi=>?_,fun i hi=>?_⟩
 ·have e:(V'.setCell ⟨H+c+1,j,none⟩ (.pointer (some ⟨H+c+2+3*j+1,0,none⟩))).heap.size=V'.heap.size:=by simp
  rw[e,hV]
  simp[hs]
  omega
 ·have:=Joins.block_setCell (i:=j) (at_heap hV (at_alloc (at_alloc (at_alloc h.wk _) _) _)) (.pointer (some ⟨H+c+2+3*j+1,0,none⟩))
  rw[this,List.setIfInBounds_toArray,show H+c+2+3*j+1=H+c+3+3*j by omega,wkL_set]
 ·rcases Nat.lt_or_ge i j with q|q
  ·exact hold (h.T i q) (by omega)
  ·obtain rfl:i=j:=by omega
   exact hT
 ·rcases Nat.lt_or_ge i j with q|q
  ·exact hold (h.S i q) (by omega)
  ·obtain rfl:i=j:=by omega
   exact hS
theorem man_below{B b o:Nat}{w0 w:World}(h:Below B w0 w)(hB:B≤w.heap.size)(o1 o2 o3:Obj)(v:Value)(hb:B≤b):Below B w0 (((((w.alloc o1).alloc o2).alloc o3).drew).setCells b o [v]):=by
 have h3:=((h.alloc hB o1).alloc (by simp;omega) o2).alloc (by simp;omega) o3
 unfold World.setCells World.setCells
 exact (Below.trans h3 (show Below B (((w.alloc o1).alloc o2).alloc o3) (((w.alloc o1).alloc o2).alloc o3).drew from ⟨rfl,rfl,rfl,Nat.le_refl _,fun _ _=>rfl⟩)).setCell (p:=⟨b,o,none⟩) hb v
set_option maxRecDepth 100000 in
set_option maxHeartbeats 4000000 in
theorem manned_any(Pb po cap c n:Nat)(us:Nat→Value)(w:World)(hcells:∀i,i<c→w.cell? ⟨Pb,po+i,none⟩=some (us i))(hus:∀i,i<c→∃a k,us i=.slice a n k)(hc1:1≤c)(hc6:c≤6)(hn:n≤60):
  Calls Try.prog 13 #[.slice (some ⟨Pb,po,none⟩) c cap] w fun e w'=>e=.returned (.slice (some ⟨w.heap.size+c+1,0,none⟩) c c)∧ManM w.heap.size c n us c w'∧Below w.heap.size w w':=by
 have hm1:=run_mkF 61 60 1 8 _ Try.underlying60 infoCh (c:Int) c rfl (by omega) (by omega)
 have hm2:=run_mkZ 51 39 1 8 _ Try.underlying39 infoWp (c:Int) c rfl (by omega) (by omega)
 have hmc:=run_mkch
 have hm3:=run_mk (n:Int) n rfl (by omega)
 rw[chnL_zero w.heap.size]at hm1
 rw[wkL_zero w.heap.size]at hm2
 have HCE:=h_ hcells
 have HUS:=h_ hus
 clear hcells hus
 have HR0:=h_ (show RingM w.heap.size c 0 (w.alloc (.cells (chnL w.heap.size c 0).toArray 61)) from ⟨by simp,heap_alloc_new w _,fun j hj=>by omega⟩)
 have HB0:=h_ (o_ w (.cells (chnL w.heap.size c 0).toArray 61))
 go_enter Try.func13,Try.ntmps13
 go_wp2
 go_loopw [15] (fun i wr=>∃(k:Nat),k≤c∧i=.int .i64 k∧RingM w.heap.size c k wr∧Below w.heap.size w wr) (fun i _=>c - (intOf i).toNat)
 case atStart=>exact ⟨0,Nat.zero_le _,rfl,HR0.out,HB0.out⟩
 case round=>
  obtain ⟨k,hk,rfl,hring,hbel⟩:=hrel
  have HRING:=h_ hring
  have HB:=h_ hbel
  by_cases hlt:k<c
  ·have hlt':(k:Int)<(c:Int):=by omega
   have hsz:=hring.size
   have c1:wr.cell? ⟨w.heap.size,k,none⟩=some (.chan none):=by
    rw[Joins.cell_of_block hring.row]
    simp[chnL,hlt]
   have f1:wr.frozen? ⟨w.heap.size,k,none⟩=false:=by simp[World.frozen?,hring.row]
   have hlo:w.heap.size≠wr.heap.size:=by omega
   have c2:(wr.alloc (.chan 1 #[] false 0 0 false)).cell? ⟨w.heap.size,k,none⟩=some (.chan none):=by rw[World.cell?_alloc_old _ _ _ hlo];exact c1
   have f2:(wr.alloc (.chan 1 #[] false 0 0 false)).frozen? ⟨w.heap.size,k,none⟩=false:=by rw[World.frozen?_alloc_old _ _ _ hlo];exact f1
   clear hring hbel hlo
   go_wp2
   have hst:=HRING.out.step
   have hbw:=(HB.out.alloc HB.out.size (.chan 1 #[] false 0 0 false)).setCell (p:=⟨w.heap.size,k,none⟩) (by exact Nat.le_refl _) (.chan (some (w.heap.size+1+k)))
   exact ⟨⟨k+1,by omega,by simp,hst,hbw⟩,by simp[intOf];omega⟩
  ·obtain rfl:k=c:=by omega
   have HM0:=h_ (hring.man (n:=n) (us:=us))
   have HB1:=h_ (hbel.alloc hbel.size (.cells (wkL w.heap.size k 0).toArray 51))
   have hsz:=hring.size
   clear hring hbel
   go_wp2
   go_loopw [6,27] (fun v i wr=>∃(j:Nat),j≤k∧i=.int .i64 j∧v=.slice (some ⟨w.heap.size+k+1,0,none⟩) j k∧ManM w.heap.size k n us j wr∧Below w.heap.size w wr) (fun _ i _=>k - (intOf i).toNat)
   case atStart=>exact ⟨0,Nat.zero_le _,rfl,by rw[show w.heap.size+1+k=w.heap.size+k+1 by omega],HM0.out,HB1.out⟩
   case round=>
    obtain ⟨j,hj,rfl,rfl,hman,hbel⟩:=hrel
    have HMAN:=h_ hman
    have HB:=h_ hbel
    by_cases hlt:j<k
    ·have hlt':(j:Int)<(k:Int):=by omega
     have hs:=hman.size
     obtain ⟨ua,uk,hu⟩:=HUS.out j hlt
     have hu2:=hu
     have hcell:wr.cell? ⟨Pb,po+j,none⟩=some (.slice ua n uk):=by
      rw[←hu]
      have h0:=HCE.out j hlt
      have hl:=World.block_lt_of_cell? w _ h0
      exact (hbel.cell hl).trans h0
     obtain ⟨jp,hjp⟩:=gN ((j+1) % k)
     have hjpl:jp<k:=by rw[←hjp];exact Nat.mod_lt _ (by omega)
     have hrem:((j:Int)+1) % (k:Int)=(jp:Int):=by
      rw[←hjp,Int.natCast_emod]
      rfl
     have hrem2:((j:Int)+1).tmod (k:Int)=(jp:Int):=by rw[Int.tmod_eq_emod_of_nonneg (by omega),hrem]
     have hwj:IntKind.i64.wrap ((j:Int)+1)=(j:Int)+1:=by rw[IntKind.wrap_i64];omega
     have hwp:IntKind.i64.wrap (jp:Int)=(jp:Int):=by rw[IntKind.wrap_i64];omega
     have hjp0:(0:Int)≤(jp:Int):=by omega
     have hjp1:(jp:Int)<(k:Int):=by omega
     have hk0:¬(k:Int)=0:=by omega
     have hk00:¬k=0:=by omega
     have hk01:¬(k:Int)=-1:=by omega
     have c1:wr.cell? ⟨w.heap.size,j,none⟩=some (.chan (some (w.heap.size+1+j))):=by
      rw[Joins.cell_of_block hman.row]
      simp[chnL,hlt]
     have c2:wr.cell? ⟨w.heap.size,jp,none⟩=some (.chan (some (w.heap.size+1+jp))):=by
      rw[Joins.cell_of_block hman.row]
      simp[chnL,hjpl]
     have hWne:w.heap.size≠w.heap.size+k+1:=by omega
     clear hman hbel hu
     obtain ⟨i1,hi1,hz0,hz1,hz2⟩:=info_parts infoWp
     go_wp2
     go_region_held3 (fun w'=>w'.cell? ⟨w.heap.size,j,none⟩=some (.chan (some (w.heap.size+1+j)))∧w'.cell? ⟨w.heap.size,jp,none⟩=some (.chan (some (w.heap.size+1+jp)))) (first|exact ⟨keepS (p_ (p_ (p_ c1 _) _) _) hWne,keepS (p_ (p_ (p_ c2 _) _) _) hWne⟩|exact ⟨p_ (p_ (p_ c1 _) _) _,p_ (p_ (p_ c2 _) _) _⟩|exact ⟨p_ (p_ c1 _) _,p_ (p_ c2 _) _⟩|exact ⟨p_ c1 _,p_ c2 _⟩|go_keep) (refine step_append_room rfl (.tmp 32) (.tmp 52) 39 rfl 51 i1 1 Try.underlying39 hi1 hz1 (w.heap.size+k+1) 0 j k (by simp[Act.eval]) ⟨_,0,none⟩ 1 1 [.pointer (some ⟨_,0,none⟩)] (by simp[Act.eval];rfl) rfl (one_at (by simp[hs];try omega)) (by intro u hu;simp at hu;subst hu;rfl) (by omega) (spare_at (at_alloc (at_alloc (at_alloc HMAN.out.wk _) _) _) (by rw[wkL_len];exact hlt) (Nat.le_refl _)) ?_)
     all_goals
      go_wp2
      exact ⟨⟨j+1,by omega,by simp,rfl,ManM.step (V':=World.drew _) HMAN.out hlt hu2 hjp rfl,man_below HB.out HB.out.size _ _ _ _ (by omega)⟩,by simp[intOf];omega⟩
    ·obtain rfl:j=k:=by omega
     clear hman hbel
     go_wp2
     exact bodyPost_ret (v:=.slice (some ⟨w.heap.size+j+1,0,none⟩) j j) (by simp[results,Try.results13,go_sem]) rfl ⟨rfl,HMAN.out,HB.out⟩
end Go.Proofs.Ytniloklglpchfai
