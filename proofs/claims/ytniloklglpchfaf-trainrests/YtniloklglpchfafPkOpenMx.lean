/- A matrix that came in, opened: a struct by value with a list of ints in it. -/
import Derived.Test.YtniloklglpchfafRows
import Derived.ProofKit
import Derived.OpenShut
import Derived.Lib.SmallJoins
import Derived.Test.YtniloklglpchfafPlain
import Derived.Deep.Slices
import Derived.Test.YtniloklglpchfafPkMCheckAll
import Derived.Test.YtniloklglpchfafPkMLaw
import Derived.Test.YtniloklglpchfafLists
namespace Go.Proofs.Ytniloklglpchfaf
open Go.ChangeShapes Go.WideShapes Go.ChangeAt Go.RowKit Go.Joins
theorem laidOut:laidOutB Try.prog=true:=by kernel_rfl
theorem cellsMx:Try.prog.cellsOf 28=3:=by kernel_rfl
theorem cellsInt:Try.prog.cellsOf 3=1:=by kernel_rfl
theorem ints_open{H:Type}{enc:TypeId×Value→H}{w:World}{held:Bool}{base fuel:Nat}{v:Value}{x:DataW H×List MemPlace}(h:DataW.trod enc Try.prog w base (fun _=>true) held fuel 26 [v]=some x):∃zs,I_ w v zs:=by
 rcases open_ints Try.underlying26 Try.underlying3 cellsInt h with ⟨hcs,_⟩|⟨a,len,cap,zs,hcs,_,hl,hm,hz,_,hcell,_⟩
 ·obtain rfl:v=.slice none 0 0:=by simpa using hcs
  exact ⟨[],I_.nil w⟩
 ·obtain rfl:v=.slice (some a) len cap:=by simpa using hcs
  have hz':zs.length=cap:=by simpa using hz
  have hlen:(zs.take len).length=len:=by simp;omega
  refine ⟨zs.take len,some a,cap,by rw[hlen],by omega,hm,?_⟩
  by_cases h0:len=0
  ·exact .inl (by subst h0;simp)
  ·obtain ⟨b,off,rfl,hc⟩:=ints_at hcell (by omega)
   refine .inr ⟨b,off,rfl,fun i y hy=>?_⟩
   have hi:i<len:=by
    rcases Nat.lt_or_ge i len with h|h
    ·exact h
    ·rw[List.getElem?_eq_none (by omega)]at hy;cases hy
   rw[List.getElem?_take_of_lt hi]at hy
   rw[hc i (by omega)]
   simp[List.getD,hy]
set_option maxRecDepth 100000 in
theorem mx_open{H:Type}{enc:TypeId×Value→H}{w:World}{r:Reach}{b0:Nat}{v:Value}{d:DataW H}{p:List MemPlace}(hv:Value.okWide Try.prog w r b0 28 v)(h:DataW.Trod enc Try.prog w 0 (fun _=>true) true 28 v d p):
  ∃m:Mx,M_ w v m∧(Lit.int .i64 m.rows).wf=true∧(Lit.int .i64 m.cols).wf=true:=by
 obtain ⟨v0,v1,v2,y0,y1,y2,n,rfl,rfl,rfl,h0,h1,h2⟩:=open_agg3 Try.underlying28 (by kernel_rfl) cellsMx hv h
 obtain ⟨a,e0,rfl,wa⟩:=DataW.trod_int Try.underlying3 h0
 obtain ⟨b,e1,rfl,wb⟩:=DataW.trod_int Try.underlying3 h1
 obtain ⟨zs,hz⟩:=ints_open h2
 simp at e0 e1
 subst e0 e1
 exact ⟨⟨a,b,zs⟩,⟨v2,rfl,hz⟩,wa,wb⟩
end Go.Proofs.Ytniloklglpchfaf
/- The parts of a matrix that came in. -/
namespace Go.Proofs.Ytniloklglpchfaf
open Go.ChangeShapes Go.WideShapes Go.ChangeAt Go.RowKit Go.Joins Go.Deep
theorem ints_nil{H:Type}{enc:TypeId×Value→H}{w:World}{held:Bool}{base fuel:Nat}{v:Value}{x:DataW H×List MemPlace}(h:DataW.trod enc Try.prog w base (fun _=>true) held fuel 26 [v]=some x):NilOk v:=by
 rcases open_ints Try.underlying26 Try.underlying3 cellsInt h with ⟨hcs,_⟩|⟨a,len,cap,zs,hcs,_,_⟩
 ·obtain rfl:v=.slice none 0 0:=by simpa using hcs
  intro n k e;injection e with _ e2 e3;exact ⟨e2.symm,e3.symm⟩
 ·obtain rfl:v=.slice (some a) len cap:=by simpa using hcs
  intro n k e;injection e with e1;cases e1
set_option maxRecDepth 100000 in
theorem mx_fields{H:Type}{enc:TypeId×Value→H}{w:World}{held:Bool}{base n:Nat}{cs:List Value}{x:DataW H×List MemPlace}(h:DataW.trod enc Try.prog w base (fun _=>true) held n 28 cs=some x):
  ∃(m:Mx) (s:Value),cs=[.int .i64 m.rows,.int .i64 m.cols,s]∧I_ w s m.cells∧NilOk s:=by
 obtain ⟨y0,y1,y2,n',hx,hl,h0,h1,h2⟩:=trod_struct3 Try.underlying28 h
 rw[cellsMx]at hl
 match cs,hl with
 |[c0,c1,c2],_=>
  have h0':DataW.trod enc Try.prog w base (fun _=>true) held n' 3 [c0]=some y0:=by simpa [cellsInt] using h0
  have h1':DataW.trod enc Try.prog w base (fun _=>true) held n' 3 [c1]=some y1:=by simpa [cellsInt] using h1
  have h2':DataW.trod enc Try.prog w base (fun _=>true) held n' 26 [c2]=some y2:=by
   have hc:Try.prog.cellsOf 26=1:=by kernel_rfl
   simpa [hc] using h2
  obtain ⟨a,e0,_,_⟩:=DataW.trod_int Try.underlying3 h0'
  obtain ⟨b,e1,_,_⟩:=DataW.trod_int Try.underlying3 h1'
  obtain ⟨zs,hz⟩:=ints_open h2'
  simp at e0 e1
  subst e0 e1
  exact ⟨⟨a,b,zs⟩,c2,rfl,hz,ints_nil h2'⟩
theorem cellsLy:Try.prog.cellsOf 52=7:=by kernel_rfl
set_option maxRecDepth 100000 in
theorem ly_fields{H:Type}{enc:TypeId×Value→H}{w:World}{held:Bool}{base n:Nat}{cs:List Value}{x:DataW H×List MemPlace}(h:DataW.trod enc Try.prog w base (fun _=>true) held n 52 cs=some x):
  ∃(l:Ly) (s t:Value),cs=[.int .i64 l.k,.int .i64 l.w.rows,.int .i64 l.w.cols,s,.int .i64 l.b.rows,.int .i64 l.b.cols,t]∧I_ w s l.w.cells∧I_ w t l.b.cells∧NilOk s∧NilOk t:=by
 obtain ⟨y0,y1,y2,n',hx,hl,h0,h1,h2⟩:=trod_struct3 Try.underlying52 h
 rw[cellsLy]at hl
 match cs,hl with
 |[c0,c1,c2,c3,c4,c5,c6],_=>
  have h0':DataW.trod enc Try.prog w base (fun _=>true) held n' 3 [c0]=some y0:=by simpa [cellsInt] using h0
  have h1':DataW.trod enc Try.prog w base (fun _=>true) held n' 28 [c1,c2,c3]=some y1:=by simpa [cellsMx] using h1
  have h2':DataW.trod enc Try.prog w base (fun _=>true) held n' 28 [c4,c5,c6]=some y2:=by simpa [cellsMx] using h2
  obtain ⟨a,e0,_,_⟩:=DataW.trod_int Try.underlying3 h0'
  obtain ⟨m,s,e1,hs,ns⟩:=mx_fields h1'
  obtain ⟨k,t,e2,ht,nt⟩:=mx_fields h2'
  simp at e0 e1 e2
  obtain ⟨rfl,rfl,rfl⟩:=e1
  obtain ⟨rfl,rfl,rfl⟩:=e2
  subst e0
  exact ⟨⟨a,m,k⟩,_,_,rfl,hs,ht,ns,nt⟩
theorem list_open{H α:Type}[Inhabited α]{enc:TypeId×Value→H}{w:World}{held:Bool}{base fuel k:Nat}{t e:TypeId}{v:Value}{x:DataW H×List MemPlace}(f:α→List (Int⊕List Int))(hf:∀y,(f y).length=k)(hk:0<k)
  (ht:Try.prog.underlying t=some (.slice e)) (hc:Try.prog.cellsOf e=k) (fields:∀n cs y,DataW.trod enc Try.prog w base (fun _=>true) held n e cs=some y→∃z,Enc w (fun _=>False) (f z) cs)
  (h:DataW.trod enc Try.prog w base (fun _=>true) held fuel t [v]=some x):∃xs:List α,Reads w v xs.length (xs.flatMap f)∧(xs=[]∨∃es sp,x.1=.slice es sp∧es.length=xs.length):=by
 rcases open_slice ht h with ⟨hcs,_⟩|⟨a,len,cap,m,n,D,Pl,hcs,hb,hl,hm,hmm,rfl,hx⟩
 ·obtain rfl:v=.slice none 0 0:=by simpa using hcs
  exact ⟨[],⟨none,0,rfl,Nat.le_refl _,Nat.zero_le _,.inl rfl⟩,.inl rfl⟩
 ·obtain rfl:v=.slice (some a) len cap:=by simpa using hcs
  have hml:m=cap:=by simpa using hmm
  rw[hc]at hx
  have key:∀i,i<len→∃z:α,∃cs,w.cells? base (a.add (i*k)) k=some cs∧Enc w (fun _=>False) (f z) cs:=fun i hi=>by
   obtain ⟨cs',h1,h2⟩:=hx i (by omega)
   obtain ⟨z,hz⟩:=fields _ _ _ h2
   exact ⟨z,cs',h1,hz⟩
  obtain ⟨Q,hQ⟩:=choose_lt key
  have hlen:((List.range len).map Q).length=len:=by simp
  refine ⟨(List.range len).map Q,⟨some a,cap,by rw[hlen],by rw[hlen];exact hl,hm,?_⟩,.inr ⟨_,_,rfl,by simp⟩⟩
  rw[hlen]
  rcases Nat.eq_zero_or_pos len with h0|h0
  ·exact .inl h0
  ·obtain ⟨b,off,e⟩:∃b off,a=⟨b,off,none⟩:=by
    obtain ⟨cs,h1,h2⟩:=hQ 0 h0
    have hcl:cs.length=k:=by rw[h2.1,hf]
    have hc0:=(World.cells?_some h1).2.2 0 hk
    have hs:=World.cell?_spot (v:=cs[0]'(by omega)) (by rw[hc0];exact List.getElem?_eq_getElem _)
    obtain ⟨b,off,sp⟩:=a
    refine ⟨b,off,?_⟩
    have:sp=none:=by simpa [Addr.add] using hs
    rw[this]
   subst e
   refine .inr ⟨b,off,rfl,fun j p hp=>?_⟩
   have hjl:j<len*k:=by
    rcases Nat.lt_or_ge j (len*k) with h|h
    ·exact h
    ·have e2:(((List.range len).map Q).flatMap f).length=len*k:=by
      have:∀l:List Nat,((l.map Q).flatMap f).length=l.length*k:=by
       intro l
       induction l with
       |nil=>simp
       |cons i l ih=>rw[List.map_cons,List.flatMap_cons,List.length_append,ih,hf,List.length_cons,Nat.succ_mul];omega
      rw[this,List.length_range]
     rw[List.getElem?_eq_none (by omega)]at hp;cases hp
   have hi:j / k<len:=(Nat.div_lt_iff_lt_mul hk).2 hjl
   have hr:j % k<k:=Nat.mod_lt _ hk
   have ej:j=j / k*k+j % k:=by rw[Nat.mul_comm];exact (Nat.div_add_mod j k).symm
   obtain ⟨cs,h1,h2⟩:=hQ (j / k) hi
   have hp':(f (Q (j / k)))[j % k]?=some p:=by
    rw[←hp,←flat_at f k hf ((List.range len).map Q) (j / k) (j % k) (Q (j / k)) (by simp[hi]) hr,←ej]
   obtain ⟨u,hu,hpu⟩:=h2.2 (j % k) p hp'
   have hcell:=(World.cells?_some h1).2.2 (j % k) hr
   rw[add_add,Addr.add_lit,←ej,hu]at hcell
   exact ⟨u,hcell,hpu⟩
theorem part_any{w:World}{s:Value}{zs:List Int}(h:I_ w s zs):P_ w (fun _=>False) (.inr zs) s:=⟨h,.inr fun _ _ hf=>hf⟩
theorem cellsGd:Try.prog.cellsOf 79=6:=by kernel_rfl
set_option maxRecDepth 100000 in
theorem gd_fields{H:Type}{enc:TypeId×Value→H}{w:World}{held:Bool}{base n:Nat}{cs:List Value}{x:DataW H×List MemPlace}(h:DataW.trod enc Try.prog w base (fun _=>true) held n 79 cs=some x):
  ∃(d:Mx×Mx) (s t:Value),cs=[.int .i64 d.1.rows,.int .i64 d.1.cols,s,.int .i64 d.2.rows,.int .i64 d.2.cols,t]∧I_ w s d.1.cells∧I_ w t d.2.cells:=by
 obtain ⟨y0,y1,n',hx,hl,h0,h1⟩:=trod_struct2 Try.underlying79 h
 rw[cellsGd]at hl
 match cs,hl with
 |[c0,c1,c2,c3,c4,c5],_=>
  have h1':DataW.trod enc Try.prog w base (fun _=>true) held n' 28 [c0,c1,c2]=some y0:=by simpa [cellsMx] using h0
  have h2':DataW.trod enc Try.prog w base (fun _=>true) held n' 28 [c3,c4,c5]=some y1:=by simpa [cellsMx] using h1
  obtain ⟨m,s,e1,hs,_⟩:=mx_fields h1'
  obtain ⟨k,t,e2,ht,_⟩:=mx_fields h2'
  simp at e1 e2
  obtain ⟨rfl,rfl,rfl⟩:=e1
  obtain ⟨rfl,rfl,rfl⟩:=e2
  exact ⟨(m,k),_,_,rfl,hs,ht⟩
end Go.Proofs.Ytniloklglpchfaf
