/- How much each of the parameters may weigh. -/
import Derived.Test.YtniloklglpchfafPkOpenMx
import Derived.SizedLaws
namespace Go.Proofs.Ytniloklglpchfaf
open Go.ChangeShapes Go.WideShapes Go.ChangeAt Go.RowKit Go.Joins Go.Deep
theorem bytesInt:Try.prog.bytesOf 3=8:=by kernel_rfl
theorem ints_w{H:Type}{enc:TypeId×Value→H}{w:World}{held:Bool}{base fuel B:Nat}{v:Value}{x:DataW H×List MemPlace}{zs:List Int}(h:DataW.trod enc Try.prog w base (fun _=>true) held fuel 26 [v]=some x)(hz:I_ w v zs)(hB:∀n∈x.1.weights Try.prog 26,n≤B):zs.length*8≤B:=by
 obtain ⟨a',cap',hv,_,_,_⟩:=hz
 rcases open_slice Try.underlying26 h with ⟨hcs,_⟩|⟨a,len,cap,m,n,D,Pl,hcs,hb,hl,hm,hmm,rfl,hx⟩
 ·obtain rfl:v=.slice none 0 0:=by simpa using hcs
  injection hv with _ e _
  omega
 ·obtain rfl:v=.slice (some a) len cap:=by simpa using hcs
  injection hv with _ e _
  have:=hB ((len+(m - len))*Try.prog.bytesOf 3) (by simp[DataW.weights,Try.underlying26])
  rw[bytesInt]at this
  omega
set_option maxRecDepth 100000 in
theorem mx_w{H:Type}{enc:TypeId×Value→H}{w:World}{held:Bool}{base n B:Nat}{m:Mx}{s:Value}{x:DataW H×List MemPlace}(h:DataW.trod enc Try.prog w base (fun _=>true) held n 28 [.int .i64 m.rows,.int .i64 m.cols,s]=some x)(hs:I_ w s m.cells)(hB:∀n∈x.1.weights Try.prog 28,n≤B):m.cells.length*8≤B:=by
 obtain ⟨y0,y1,y2,n',hx,hl,h0,h1,h2⟩:=trod_struct3 Try.underlying28 h
 have h2':DataW.trod enc Try.prog w base (fun _=>true) held n' 26 [s]=some y2:=by
  have hc:Try.prog.cellsOf 26=1:=by kernel_rfl
  simpa [hc] using h2
 refine ints_w h2' hs (fun k hk=>hB k ?_)
 rw[hx]
 simp only[DataW.weights,Try.underlying28,DataW.weightsEach,List.map_cons,List.map_nil,List.mem_append]
 exact .inr (.inr (.inl hk))
theorem weightsAll_in{H:Type}{P:Program}{e:TypeId}{d:DataW H}{l:List (DataW H)}(h:d∈l):∀n∈d.weights P e,n∈DataW.weightsAll P e l:=by
 induction l with
 |nil=>cases h
 |cons y l ih=>
  intro n hn
  simp only[DataW.weightsAll,List.mem_append]
  rcases List.mem_cons.1 h with rfl|h'
  ·exact .inl hn
  ·exact .inr (ih h' n hn)
set_option maxRecDepth 100000 in
theorem ly_w{H:Type}{enc:TypeId×Value→H}{w:World}{held:Bool}{base n B:Nat}{l:Ly}{s t:Value}{x:DataW H×List MemPlace}(h:DataW.trod enc Try.prog w base (fun _=>true) held n 52 [.int .i64 l.k,.int .i64 l.w.rows,.int .i64 l.w.cols,s,.int .i64 l.b.rows,.int .i64 l.b.cols,t]=some x)(hs:I_ w s l.w.cells)(ht:I_ w t l.b.cells)(hB:∀n∈x.1.weights Try.prog 52,n≤B):l.w.cells.length*8≤B∧l.b.cells.length*8≤B:=by
 obtain ⟨y0,y1,y2,n',hx,hl,h0,h1,h2⟩:=trod_struct3 Try.underlying52 h
 have h1':DataW.trod enc Try.prog w base (fun _=>true) held n' 28 [.int .i64 l.w.rows,.int .i64 l.w.cols,s]=some y1:=by simpa [cellsMx] using h1
 have h2':DataW.trod enc Try.prog w base (fun _=>true) held n' 28 [.int .i64 l.b.rows,.int .i64 l.b.cols,t]=some y2:=by simpa [cellsMx] using h2
 have key:∀k,k∈y1.1.weights Try.prog 28∨k∈y2.1.weights Try.prog 28→k≤B:=fun k hk=>hB k (by
  rw[hx]
  simp only[DataW.weights,Try.underlying52,DataW.weightsEach,List.map_cons,List.map_nil,List.mem_append]
  rcases hk with hk|hk
  ·exact .inr (.inl hk)
  ·exact .inr (.inr (.inl hk)))
 exact ⟨mx_w h1' hs (fun k hk=>key k (.inl hk)),mx_w h2' ht (fun k hk=>key k (.inr hk))⟩
theorem bytesLy:Try.prog.bytesOf 52=88:=by kernel_rfl
set_option maxRecDepth 100000 in
theorem lys_w{H:Type}{enc:TypeId×Value→H}{w:World}{B:Nat}{v:Value}{d:DataW H}{p:List MemPlace}{ls:List Ly}(h:DataW.Trod enc Try.prog w 0 (fun _=>true) true 22 v d p)(hv:Y_ w v ls)(hB:∀n∈d.weights Try.prog 22,n≤B):
  ls.length*88≤B∧∀l∈ls,l.w.cells.length*8≤B∧l.b.cells.length*8≤B:=by
 obtain ⟨a',cap',rfl,_,_⟩:=hv.shape
 obtain ⟨fuel,hf⟩:=h
 have hf':DataW.trod enc Try.prog w 0 (fun _=>true) true fuel 22 [.slice a' ls.length cap']=some (d,p):=by simpa [Value.cells] using hf
 rcases open_slice Try.underlying22 hf' with ⟨hcs,_⟩|⟨a,len,cap,m,n,D,Pl,hcs,hb,hl,hm,hmm,hd,hx⟩
 ·have e:Value.slice a' ls.length cap'=.slice none 0 0:=by simpa using hcs
  injection e with _ e _
  have:ls=[]:=List.eq_nil_of_length_eq_zero e
  subst this
  exact ⟨by simp,fun l hl=>by cases hl⟩
 ·have e:Value.slice a' ls.length cap'=.slice (some a) len cap:=by simpa using hcs
  injection e with e1 e2 e3
  have hml:m=cap:=by simpa using hmm
  injection hd with hd1 _
  rw[cellsLy]at hx
  constructor
  ·have:=hB ((len+(m - len))*Try.prog.bytesOf 52) (by rw[hd1];simp[DataW.weights,Try.underlying22])
   rw[bytesLy]at this
   omega
  ·intro l hl'
   obtain ⟨i,hi⟩:=List.getElem?_of_mem hl'
   have hil:i<ls.length:=by
    rcases Nat.lt_or_ge i ls.length with h|h
    ·exact h
    ·rw[List.getElem?_eq_none h]at hi;cases hi
   obtain ⟨cs,h1,h2⟩:=hx i (by omega)
   obtain ⟨b,off,cp,sa,sn,sk,ta,tn,tk,ev,k0,k1,k2,k3,k4,k5,k6,hly⟩:=hv.at hi
   injection ev with ev1 _ _
   have ea:a=⟨b,off,none⟩:=Option.some.inj (e1.symm.trans ev1)
   subst ea
   obtain ⟨l',s',t',rfl,hs',ht',_,_⟩:=ly_fields h2
   have hc:=fun j hj=>(World.cells?_some h1).2.2 j hj
   have c3:=hc 3 (by decide)
   have c6:=hc 6 (by decide)
   have g3:s'=.slice sa sn sk:=by
    rw[add_add,Addr.add_lit,←Nat.add_assoc,k3]at c3;simpa using c3.symm
   have g6:t'=.slice ta tn tk:=by
    rw[add_add,Addr.add_lit,←Nat.add_assoc,k6]at c6;simpa using c6.symm
   obtain ⟨i1,i2⟩:=Y_.ints hly
   have hw:=ly_w (B:=B) h2 hs' ht' (fun k hk=>hB k (by
    rw[hd1]
    simp only[DataW.weights,Try.underlying22,List.mem_cons,List.mem_append]
    exact .inr (.inl (weightsAll_in (List.mem_map.2 ⟨i,List.mem_range.2 (by omega),rfl⟩) k hk))))
   subst g3 g6
   have f1:l'.w.cells.length=l.w.cells.length:=by
    obtain ⟨_,_,e1,_⟩:=hs';obtain ⟨_,_,e2,_⟩:=i1
    injection e1 with _ e1 _;injection e2 with _ e2 _;omega
   have f2:l'.b.cells.length=l.b.cells.length:=by
    obtain ⟨_,_,e1,_⟩:=ht';obtain ⟨_,_,e2,_⟩:=i2
    injection e1 with _ e1 _;injection e2 with _ e2 _;omega
   rw[f1,f2]at hw;exact hw
end Go.Proofs.Ytniloklglpchfaf
/- Rates that came in, opened: a struct by value of two ints. -/
namespace Go.Proofs.Ytniloklglpchfaf
open Go.ChangeShapes Go.WideShapes Go.ChangeAt Go.RowKit Go.Joins
theorem cellsRt:Try.prog.cellsOf 30=2:=by kernel_rfl
set_option maxRecDepth 100000 in
theorem rt_open{H:Type}{enc:TypeId×Value→H}{w:World}{r:Reach}{b0:Nat}{v:Value}{d:DataW H}{p:List MemPlace}(hv:Value.okWide Try.prog w r b0 30 v)(h:DataW.Trod enc Try.prog w 0 (fun _=>true) true 30 v d p):
  ∃le ke:Int,v=.agg #[.int .i64 le,.int .i64 ke]∧(Lit.int .i64 le).wf=true∧(Lit.int .i64 ke).wf=true:=by
 obtain ⟨v0,v1,y0,y1,n,rfl,rfl,rfl,h0,h1⟩:=open_agg2 Try.underlying30 (by kernel_rfl) cellsRt hv h
 obtain ⟨a,e0,rfl,wa⟩:=DataW.trod_int Try.underlying3 h0
 obtain ⟨b,e1,rfl,wb⟩:=DataW.trod_int Try.underlying3 h1
 simp at e0 e1
 subst e0 e1
 exact ⟨a,b,rfl,wa,wb⟩
end Go.Proofs.Ytniloklglpchfaf
/- A state that came in, opened: a struct by value of two lists and an int; how long its lists may be. -/
namespace Go.Proofs.Ytniloklglpchfaf
open Go.ChangeShapes Go.WideShapes Go.ChangeAt Go.RowKit Go.Joins Go.Deep
theorem cellsSt:Try.prog.cellsOf 25=3:=by kernel_rfl
theorem lys_trod{H:Type}{enc:TypeId×Value→H}{w:World}{fuel:Nat}{v:Value}{x:DataW H×List MemPlace}(h:DataW.trod enc Try.prog w 0 (fun _=>true) true fuel 22 [v]=some x):∃ls,Y_ w v ls:=by
 have:Inhabited Ly:=⟨⟨0,noMx,noMx⟩⟩
 obtain ⟨ls,h1,_⟩:=list_open lyS (k:=7) (fun _=>rfl) (by decide) Try.underlying22 cellsLy (fun n cs y hy=>by
  obtain ⟨l,s,t,rfl,hs,ht,_,_⟩:=ly_fields hy
  exact ⟨l,.cons rfl (.cons rfl (.cons rfl (.cons (part_any hs) (.cons rfl (.cons rfl (.cons (part_any ht) (.nil _ _)))))))⟩) h
 exact ⟨ls,h1⟩
theorem gds_trod{H:Type}{enc:TypeId×Value→H}{w:World}{fuel:Nat}{v:Value}{x:DataW H×List MemPlace}(h:DataW.trod enc Try.prog w 0 (fun _=>true) true fuel 23 [v]=some x):∃ds,D_ w v ds:=by
 have:Inhabited (Mx×Mx):=⟨(noMx,noMx)⟩
 obtain ⟨ds,h1,_⟩:=list_open gdS (k:=6) (fun _=>rfl) (by decide) Try.underlying23 cellsGd (fun n cs y hy=>by
  obtain ⟨d,s,t,rfl,hs,ht⟩:=gd_fields hy
  exact ⟨d,.cons rfl (.cons rfl (.cons (part_any hs) (.cons rfl (.cons rfl (.cons (part_any ht) (.nil _ _))))))⟩) h
 exact ⟨ds,h1⟩
set_option maxRecDepth 100000 in
theorem st_open{H:Type}{enc:TypeId×Value→H}{w:World}{r:Reach}{b0:Nat}{v:Value}{d:DataW H}{p:List MemPlace}(hv:Value.okWide Try.prog w r b0 25 v)(h:DataW.Trod enc Try.prog w 0 (fun _=>true) true 25 v d p):
  ∃(v0 v1:Value) (ls:List Ly) (ps:List (Mx×Mx)) (n:Int),v=.agg #[v0,v1,.int .i64 n]∧Y_ w v0 ls∧D_ w v1 ps∧
   ∀B,(∀k∈d.weights Try.prog 25,k≤B)→ls.length*88≤B∧∀l∈ls,l.w.cells.length*8≤B∧l.b.cells.length*8≤B:=by
 obtain ⟨v0,v1,v2,y0,y1,y2,m,rfl,rfl,rfl,h0,h1,h2⟩:=open_agg3 Try.underlying25 (by kernel_rfl) cellsSt hv h
 obtain ⟨n,e2,_,_⟩:=DataW.trod_int Try.underlying3 h2
 simp at e2
 subst e2
 obtain ⟨ls,hl⟩:=lys_trod h0
 obtain ⟨ps,hp⟩:=gds_trod h1
 refine ⟨v0,v1,ls,ps,n,rfl,hl,hp,fun B hB=>?_⟩
 refine lys_w (enc:=enc) (d:=y0.1) (p:=y0.2) ?_ hl (fun k hk=>hB k ?_)
 ·obtain ⟨a,cap,rfl,_,_⟩:=hl.shape
  exact ⟨m,by simpa [Value.cells] using h0⟩
 ·simp only[DataW.weights,Try.underlying25,DataW.weightsEach,List.map_cons,List.map_nil,List.mem_append]
  exact .inl hk
end Go.Proofs.Ytniloklglpchfaf
