/- Lists of structs in memory: what stands in their cells (numbers, and slices of ints); a list that is grown by append, whose block is none of its slices' own. No program in sight. -/
import Derived.Test.YtniloklglpchfafPkMLaw
import Derived.Laws.AppendOwn
namespace Go.Proofs.Ytniloklglpchfaf
open Go.RowKit
def P_ (w:World) (G:Nat→Prop):Int⊕List Int→Value→Prop
 |.inl i,u=>u=.int .i64 i
 |.inr zs,u=>I_ w u zs∧(zs=[]∨∀b,u.ownBlock=some b→¬G b)
theorem P_.u_{w w':World}{G:Nat→Prop}{p:Int⊕List Int}{u:Value}(h:P_ w G p u)(hb:Below w.heap.size w w'):P_ w' G p u:=by
 cases p with
 |inl i=>exact h
 |inr zs=>exact ⟨h.1.u_ hb,h.2⟩
theorem P_.one{w:World}{G:Nat→Prop}{p:Int⊕List Int}{u:Value}(h:P_ w G p u):u.oneCell'=true:=by
 cases p with
 |inl i=>obtain rfl:=h;rfl
 |inr zs=>obtain ⟨⟨a,cap,rfl,_⟩,_⟩:=h;rfl
theorem I_.lt{w:World}{u:Value}{zs:List Int}(h:I_ w u zs)(h0:zs≠[]):∃b,u.ownBlock=some b∧b<w.heap.size:=by
 obtain ⟨a,cap,rfl,_,_,h4⟩:=h
 obtain ⟨b,off,rfl,hc⟩:=h4.resolve_left h0
 cases zs with
 |nil=>exact absurd rfl h0
 |cons z l=>exact ⟨b,rfl,World.block_lt_of_cell? w _ (hc 0 z rfl)⟩
theorem I_.stay{w w':World}{u:Value}{zs:List Int}(h:I_ w u zs)(hs:∀(p:Addr) x,u.ownBlock=some p.block→w.cell? p=some x→w'.cell? p=some x):I_ w' u zs:=by
 obtain ⟨a,cap,rfl,h2,h3,h4⟩:=h
 refine ⟨a,cap,rfl,h2,h3,h4.imp id ?_⟩
 rintro ⟨b,off,rfl,hc⟩
 exact ⟨b,off,rfl,fun i x hx=>hs _ _ rfl (hc i x hx)⟩
theorem I_.nilAny{w w':World}{u:Value}{zs:List Int}(h:I_ w u zs)(h0:zs=[]):I_ w' u zs:=by
 obtain ⟨a,cap,rfl,h2,h3,_⟩:=h
 exact ⟨a,cap,rfl,h2,h3,.inl h0⟩
theorem P_.grown{w w':World}{g:Option Nat}{G G':Nat→Prop}{p:Int⊕List Int}{u:Value}(h:P_ w G p u)(hg:w.grownBy w' g)(hG:∀b,g=some b→G b)(hG':∀b,b<w.heap.size→G' b→G b):P_ w' G' p u:=by
 cases p with
 |inl i=>exact h
 |inr zs=>
  by_cases h0:zs=[]
  ·exact ⟨h.1.nilAny h0,.inl h0⟩
  ·have hn:=h.2.resolve_left h0
   refine ⟨h.1.stay (fun p x hp hx=>hg.cell hx (fun e=>hn p.block hp (hG _ e.symm))),.inr fun b hb hgb=>?_⟩
   obtain ⟨b',hb',hlt⟩:=h.1.lt h0
   rw[hb]at hb'
   obtain rfl:=Option.some.inj hb'
   exact hn b hb (hG' b hlt hgb)
theorem P_.set{w:World}{G:Nat→Prop}{p:Int⊕List Int}{u:Value}(h:P_ w G p u){B:Nat}(hB:G B)(q:Nat)(x:Value):P_ (w.setCell ⟨B,q,none⟩ x) G p u:=by
 cases p with
 |inl i=>exact h
 |inr zs=>
  by_cases h0:zs=[]
  ·exact ⟨h.1.nilAny h0,.inl h0⟩
  ·have hn:=h.2.resolve_left h0
   exact ⟨h.1.stay (fun p y hp hy=>cell_other hy (fun e=>hn p.block hp (by rw[e];exact hB)) q x),.inr hn⟩
theorem P_.mono{w:World}{G G':Nat→Prop}{p:Int⊕List Int}{u:Value}(h:P_ w G p u)(hG:∀b,b<w.heap.size→G' b→G b):P_ w G' p u:=h.grown (World.grownBy.refl w none) (fun b e=>by cases e) hG
def Enc (w:World) (G:Nat→Prop) (sp:List (Int⊕List Int)) (cs:List Value):Prop:=cs.length=sp.length∧∀(j:Nat) p,sp[j]?=some p→∃u,cs[j]?=some u∧P_ w G p u
theorem Enc.nil(w:World)(G:Nat→Prop):Enc w G [] []:=⟨rfl,fun j p h=>by simp at h⟩
theorem Enc.cons{w:World}{G:Nat→Prop}{p:Int⊕List Int}{u:Value}{sp:List (Int⊕List Int)}{cs:List Value}(h:P_ w G p u)(ht:Enc w G sp cs):Enc w G (p::sp) (u::cs):=by
 refine ⟨by simp[ht.1],fun j q hq=>?_⟩
 cases j with
 |zero=>simp at hq;subst hq;exact ⟨u,rfl,h⟩
 |succ j=>simpa using ht.2 j q (by simpa using hq)
theorem Enc.append{w:World}{G:Nat→Prop}{sp sp':List (Int⊕List Int)}{cs cs':List Value}(h:Enc w G sp cs)(h':Enc w G sp' cs'):Enc w G (sp++sp') (cs++cs'):=by
 refine ⟨by simp[h.1,h'.1],fun j p hp=>?_⟩
 by_cases hj:j<sp.length
 ·rw[List.getElem?_append_left hj]at hp
  rw[List.getElem?_append_left (by rw[h.1];exact hj)]
  exact h.2 j p hp
 ·rw[List.getElem?_append_right (by omega)]at hp
  rw[List.getElem?_append_right (by rw[h.1];omega),h.1]
  exact h'.2 _ p hp
theorem Enc.map{w w':World}{G G':Nat→Prop}{sp:List (Int⊕List Int)}{cs:List Value}(h:Enc w G sp cs)(hm:∀p u,P_ w G p u→P_ w' G' p u):Enc w' G' sp cs:=⟨h.1,fun j p hp=>by obtain ⟨u,hu,hp'⟩:=h.2 j p hp;exact ⟨u,hu,hm _ _ hp'⟩⟩
theorem Enc.one{w:World}{G:Nat→Prop}{sp:List (Int⊕List Int)}{cs:List Value}(h:Enc w G sp cs):∀u∈cs,u.oneCell'=true:=by
 intro u hu
 obtain ⟨j,hj,rfl⟩:=List.getElem_of_mem hu
 obtain ⟨u',hu',hp⟩:=h.2 j (sp[j]'(by rw[←h.1];exact hj)) (List.getElem?_eq_getElem _)
 rw[List.getElem?_eq_getElem hj]at hu'
 rw[Option.some.inj hu']
 exact hp.one
def Reads (w:World) (v:Value) (n:Nat) (sp:List (Int⊕List Int)):Prop:=
 ∃(a:Option Addr) (cap:Nat),v=.slice a n cap∧n≤cap∧cap≤maxLen∧(n=0∨∃b off,a=some ⟨b,off,none⟩∧∀(j:Nat) p,sp[j]?=some p→∃u,w.cell? ⟨b,off+j,none⟩=some u∧P_ w (fun _=>False) p u)
theorem Reads.u_{w w':World}{v:Value}{n:Nat}{sp:List (Int⊕List Int)}(h:Reads w v n sp)(hb:Below w.heap.size w w'):Reads w' v n sp:=by
 obtain ⟨a,cap,h1,h2,h3,h4⟩:=h
 refine ⟨a,cap,h1,h2,h3,h4.imp id ?_⟩
 rintro ⟨b,off,ha,hc⟩
 refine ⟨b,off,ha,fun j p hp=>?_⟩
 obtain ⟨u,hu,hp'⟩:=hc j p hp
 exact ⟨u,c_ hb hu,hp'.u_ hb⟩
def Owns (lo base:Nat) (w:World) (e:TypeId) (size:Nat) (v:Value) (n:Nat) (sp:List (Int⊕List Int)):Prop:=∃cs,w.ownsRow base e size v n cs∧Enc w (fun b=>v.ownBlock=some b∨(lo≤b∧b<base)) sp cs
theorem below_grown{w w':World}(hb:Below w.heap.size w w'):w.grownBy w' none:=⟨hb.os,hb.tape,hb.output,hb.size,fun k hk _=>hb.block k hk⟩
def OwnsG (G:Nat→Prop) (base:Nat) (w:World) (e:TypeId) (size:Nat) (v:Value) (n:Nat) (sp:List (Int⊕List Int)):Prop:=∃cs,w.ownsRow base e size v n cs∧Enc w (fun b=>v.ownBlock=some b∨G b) sp cs
theorem OwnsG.u_{G:Nat→Prop}{base:Nat}{w w':World}{e:TypeId}{size n:Nat}{v:Value}{sp:List (Int⊕List Int)}(h:OwnsG G base w e size v n sp)(hb:Below w.heap.size w w'):OwnsG G base w' e size v n sp:=by
 obtain ⟨cs,h1,h2⟩:=h
 exact ⟨cs,h1.kept (below_grown hb) (by cases hv:v.ownBlock<;>simp),h2.map (fun p u hp=>hp.u_ hb)⟩
theorem Owns.u_{lo base:Nat}{w w':World}{e:TypeId}{size n:Nat}{v:Value}{sp:List (Int⊕List Int)}(h:Owns lo base w e size v n sp)(hb:Below w.heap.size w w'):Owns lo base w' e size v n sp:=OwnsG.u_ h hb
theorem grown_of_set(w:World)(B q:Nat)(x:Value):w.grownBy (w.setCell ⟨B,q,none⟩ x) (some B):=w_ (World.grownBy.refl w (some B)) q x
theorem OwnsG.set{G:Nat→Prop}{base:Nat}{w:World}{e:TypeId}{size n:Nat}{v:Value}{sp:List (Int⊕List Int)}(h:OwnsG G base w e size v n sp){B:Nat}(h0:G B)(h1:B<base)(q:Nat)(x:Value):OwnsG G base (w.setCell ⟨B,q,none⟩ x) e size v n sp:=by
 obtain ⟨cs,ho,he⟩:=h
 refine ⟨cs,ho.kept (grown_of_set w B q x) ?_,he.map (fun p u hp=>hp.set (B:=B) (.inr h0) q x)⟩
 by_cases hv:v.ownBlock=none
 ·exact .inl hv
 ·refine .inr (fun e=>?_)
  have:=(World.ownsRow.lt ho B e).1
  omega
theorem Owns.set{lo base:Nat}{w:World}{e:TypeId}{size n:Nat}{v:Value}{sp:List (Int⊕List Int)}(h:Owns lo base w e size v n sp){B:Nat}(h0:lo≤B)(h1:B<base)(q:Nat)(x:Value):Owns lo base (w.setCell ⟨B,q,none⟩ x) e size v n sp:=OwnsG.set h ⟨h0,h1⟩ h1 q x
theorem Owns.nil(lo base:Nat)(w:World)(e:TypeId)(size:Nat):Owns lo base w e size (.slice none 0 0) 0 []:=⟨[],World.ownsRow_nil w base e size,Enc.nil _ _⟩
theorem OwnsG.lt{G:Nat→Prop}{base:Nat}{w:World}{e:TypeId}{size n:Nat}{v:Value}{sp:List (Int⊕List Int)}(h:OwnsG G base w e size v n sp):∀k,v.ownBlock=some k→base≤k∧k<w.heap.size:=by
 obtain ⟨cs,h1,_⟩:=h;exact World.ownsRow.lt h1
theorem OwnsG.owns{G:Nat→Prop}{base N:Nat}{w:World}{e:TypeId}{size n:Nat}{v:Value}{sp:List (Int⊕List Int)}(h:OwnsG G base w e size v n sp)(hN:N≤base)(hG:∀b,b<N→G b):Owns 0 N w e size v n sp:=by
 obtain ⟨cs,h1,h2⟩:=h
 refine ⟨cs,⟨h1.1,h1.2.imp id ?_⟩,h2.map (fun p u hp=>hp.mono (fun b _ hb=>hb.imp id (fun q=>hG b q.2)))⟩
 rintro ⟨g,cap,cur,q1,q2,q3⟩
 exact ⟨g,cap,cur,q1,Nat.le_trans hN q2,q3⟩
theorem Owns.lt{lo base:Nat}{w:World}{e:TypeId}{size n:Nat}{v:Value}{sp:List (Int⊕List Int)}(h:Owns lo base w e size v n sp):∀k,v.ownBlock=some k→base≤k∧k<w.heap.size:=by
 obtain ⟨cs,h1,_⟩:=h;exact World.ownsRow.lt h1
theorem Owns.reads{lo base:Nat}{w:World}{e:TypeId}{size n:Nat}{v:Value}{sp:List (Int⊕List Int)}(h:Owns lo base w e size v n sp):Reads w v n sp:=by
 obtain ⟨cs,h1,h2⟩:=h
 rcases h1.2 with ⟨rfl,rfl⟩|⟨g,cap,cur,rfl,_,_,hnc,hcm,_,_⟩
 ·exact ⟨none,0,rfl,Nat.le_refl _,Nat.zero_le _,.inl rfl⟩
 ·refine ⟨some ⟨g,0,none⟩,cap,rfl,hnc,hcm,.inr ⟨g,0,rfl,fun j p hp=>?_⟩⟩
  obtain ⟨u,hu,hp'⟩:=h2.2 j p hp
  have hc:=h1.cells (g:=g) rfl j u hu
  have hadd:(⟨g,0,none⟩:Addr).add j=⟨g,0+j,none⟩:=by unfold Addr.add;split<;>simp_all
  rw[hadd]at hc
  exact ⟨u,hc,hp'.mono (fun b _ hf=>hf.elim)⟩
theorem Owns.made{lo base:Nat}{w:World}{e:TypeId}{size n:Nat}{cs:List Value}{sp:List (Int⊕List Int)}(hb:base≤w.heap.size)(hn:n≤maxLen)(hl:cs.length=n*size)(hen:Enc w (fun b=>lo≤b∧b<base) sp cs):
  Owns lo base (w.alloc (.cells cs.toArray e)) e size (.slice (some ⟨w.heap.size,0,none⟩) n n) n sp:=by
 refine ⟨cs,⟨hl,.inr ⟨w.heap.size,n,cs.toArray,rfl,hb,heap_alloc_new w _,Nat.le_refl _,hn,by simpa using hl,?_⟩⟩,hen.map (fun p u hp=>?_)⟩
 ·rw[←hl];simp
 ·refine hp.grown (below_grown (o_ w _)) (fun b e=>by cases e) (fun b hlt hg=>?_)
  rcases hg with hg|hg
  ·have:w.heap.size=b:=by simpa [Value.ownBlock] using hg
   omega
  ·exact hg
section
variable {P:Program} {w:World}
theorem append_where(base:Nat)(t ty e:TypeId)(i:TypeInfo)(z:Value)(size bytes:Nat)(ht:P.underlying t=some (.slice e))(hi:P.info? e=some i)(hz:i.zero=some z)
  (hsize:i.size=size) (hby:i.bytes=bytes) (hzs:z.cells.size=size) (hsz:0<size) (v:Value) (n:Nat) (xs:List Value) (hown:w.ownsRow base e size v n xs)
  (a:Addr) (m c:Nat) (news:List Value) (hl:news.length=m*size) (hnews:∀j u,news[j]?=some u→w.cell? (a.add j)=some u) (h1:∀u∈news,u.oneCell'=true)
  (h63:n+m≤maxLen) (hbytes:(n+m)*bytes≤140737488355328) (hbase:base≤w.heap.size):
  ∃v' w',(Builtin.append_ #[t,t] ty #[v,.slice (some a) m c]).run P w=.ok v' w'∧w'.ownsRow base e size v' (n+m) (xs++news)∧w.grownBy w' v.ownBlock∧(v'.ownBlock=v.ownBlock∨v'.ownBlock=some w.heap.size):=by
 obtain ⟨v',w',hr,h2,h3,h4⟩:=run_append_own (P:=P) w base t ty e i z size bytes ht hi hz hsize hby hzs hsz v n xs hown a m c news hl hnews h1 h63 hbytes hbase
 refine ⟨v',w',hr,h2,h3,?_⟩
 subst hsize hby
 have hsmall:n+m≤9223372036854775807:=by simp only[maxLen]at h63;omega
 rcases hown.2 with ⟨rfl,rfl⟩|⟨g,cap,cur,rfl,hbg,hg,hnc,hcm,hcs,htake⟩
 ·by_cases hm:m=0
  ·rw[h4.2 ⟨rfl,hm⟩];exact .inl rfl
  ·have hr':=run_append_nil (P:=P) w t ty e i z ht hi hz a m c news hl hnews (by omega) (by omega) (by have hb:=hbytes;simp only[Nat.zero_add]at hb;omega)
   have e:=hr.symm.trans hr'
   injection e with e1 _
   rw[e1];exact .inr rfl
 ·by_cases hroom:n+m≤cap
  ·have hfit:n*i.size+news.length≤cur.size:=by rw[hl,hcs,←Nat.add_mul];exact Nat.mul_le_mul_right _ hroom
   have hr':=run_append_room (P:=P) w t ty e i ht hi g n cap cur hg a m c news hl hnews h1 hroom hfit
   have e:=hr.symm.trans hr'
   injection e with e1 _
   rw[e1];exact .inl rfl
  ·have hr':=run_append_grow (P:=P) w t ty e i z ht hi hz ⟨g,0,none⟩ n cap xs hown.1 (hown.cells (g:=g) rfl) a m c news hl hnews (by omega) (by omega) (growslice_fits (by omega) hbytes)
   have e:=hr.symm.trans hr'
   injection e with e1 _
   rw[e1];exact .inr rfl
theorem wpList_append_ownsG{ops:Array Oper}{rest:List Oper}{o:Oper}{a:Act}{Q:Exit→Act→World→Prop}(hgd:o.guard=none)(s x:Operand)(t:TypeId)
  (ho:o.op=.call { callee:=.builtin .append,args:=#[s,x],argTypes:=#[t,t] })
  (base:Nat) (e:TypeId) (i:TypeInfo) (z:Value) (size bytes:Nat) (ht:P.underlying t=some (.slice e)) (hi:P.info? e=some i) (hz:i.zero=some z)
  (hsize:i.size=size) (hby:i.bytes=bytes) (hzs:z.cells.size=size) (hsz:0<size)
  (G:Nat→Prop) (v:Value) (n:Nat) (sp:List (Int⊕List Int)) (hs:a.eval s=v) (hown:OwnsG G base w e size v n sp)
  (ad:Addr) (m c:Nat) (news:List Value) (hx:a.eval x=.slice (some ad) m c) (hl:news.length=m*size) (hnews:∀j u,news[j]?=some u→w.cell? (ad.add j)=some u)
  (sn:List (Int⊕List Int)) (hen:Enc w (fun b=>v.ownBlock=some b∨G b) sn news)
  (h63:n+m≤maxLen) (hbytes:(n+m)*bytes≤140737488355328) (hbase:base≤w.heap.size)
  (h:∀v' w',OwnsG G base w' e size v' (n+m) (sp++sn)→w.grownBy w' v.ownBlock→(v'.ownBlock=v.ownBlock∨v'.ownBlock=some w.heap.size)→wpList P ops Q rest (a.put o.dst v') w'):wpList P ops Q (o::rest) a w:=by
 obtain ⟨cs,h1,h2⟩:=hown
 obtain ⟨v',w',hr,h3,h4,h5⟩:=append_where (P:=P) base t o.type e i z size bytes ht hi hz hsize hby hzs hsz v n cs h1 ad m c news hl hnews hen.one h63 hbytes hbase
 refine wpList_plain hgd fun K hK=>?_
 unfold Oper.wp execOp
 simp only[ho,resolve,invoke,builtin,Sem.run_bind,Sem.run_pure,Result.andThen_ok,List.map_toArray,List.map_cons,List.map_nil,hs,hx,hr]
 refine hK _ _ (h v' w' ⟨_,h3,(h2.append hen).map (fun p u hp=>hp.grown h4 (fun b hb=>.inl hb) (fun b hlt hg=>?_))⟩ h4 h5)
 rcases hg with hg|hg
 ·rcases h5 with h5|h5
  ·exact .inl (h5▸hg)
  ·rw[h5]at hg
   have:=Option.some.inj hg
   omega
 ·exact .inr hg
theorem wpList_append_owns{ops:Array Oper}{rest:List Oper}{o:Oper}{a:Act}{Q:Exit→Act→World→Prop}(hgd:o.guard=none)(s x:Operand)(t:TypeId)
  (ho:o.op=.call { callee:=.builtin .append,args:=#[s,x],argTypes:=#[t,t] })
  (base:Nat) (e:TypeId) (i:TypeInfo) (z:Value) (size bytes:Nat) (ht:P.underlying t=some (.slice e)) (hi:P.info? e=some i) (hz:i.zero=some z)
  (hsize:i.size=size) (hby:i.bytes=bytes) (hzs:z.cells.size=size) (hsz:0<size)
  (lo:Nat) (v:Value) (n:Nat) (sp:List (Int⊕List Int)) (hs:a.eval s=v) (hown:Owns lo base w e size v n sp)
  (ad:Addr) (m c:Nat) (news:List Value) (hx:a.eval x=.slice (some ad) m c) (hl:news.length=m*size) (hnews:∀j u,news[j]?=some u→w.cell? (ad.add j)=some u)
  (sn:List (Int⊕List Int)) (hen:Enc w (fun b=>v.ownBlock=some b∨(lo≤b∧b<base)) sn news)
  (h63:n+m≤maxLen) (hbytes:(n+m)*bytes≤140737488355328) (hbase:base≤w.heap.size)
  (h:∀v' w',Owns lo base w' e size v' (n+m) (sp++sn)→w.grownBy w' v.ownBlock→(v'.ownBlock=v.ownBlock∨v'.ownBlock=some w.heap.size)→wpList P ops Q rest (a.put o.dst v') w'):wpList P ops Q (o::rest) a w:=
 wpList_append_ownsG hgd s x t ho base e i z size bytes ht hi hz hsize hby hzs hsz (fun b=>lo≤b∧b<base) v n sp hs hown ad m c news hx hl hnews sn hen h63 hbytes hbase h
end
theorem addr_add(b j:Nat):(⟨b,0,none⟩:Addr).add j=⟨b,j,none⟩:=by unfold Addr.add;split<;>simp_all
def mxS (m:Mx):List (Int⊕List Int):=[.inl m.rows,.inl m.cols,.inr m.cells]
def gdS (d:Mx×Mx):List (Int⊕List Int):=mxS d.1++mxS d.2
def lyS (l:Ly):List (Int⊕List Int):=.inl l.k::(mxS l.w++mxS l.b)
theorem flat_at{α β:Type}(f:α→List β)(k:Nat)(hk:∀x,(f x).length=k):∀(xs:List α) (i j:Nat) (x:α),xs[i]?=some x→j<k→(xs.flatMap f)[i*k+j]?=(f x)[j]?:=by
 intro xs
 induction xs with
 |nil=>intro i j x h;simp at h
 |cons y l ih=>
  intro i j x h hj
  rw[List.flatMap_cons]
  cases i with
  |zero=>
   simp at h;subst h
   rw[List.getElem?_append_left (by rw[hk];omega)];simp
  |succ i=>
   rw[List.getElem?_append_right (by rw[hk,Nat.succ_mul];omega),hk,show (i+1)*k+j - k=i*k+j by rw[Nat.succ_mul];omega]
   exact ih i j x (by simpa using h) hj
theorem flat_snoc{α β:Type}(f:α→List β)(xs:List α)(x:α):xs.flatMap f++f x=(xs++[x]).flatMap f:=by simp
theorem Reads.at{w:World}{v:Value}{α:Type}{f:α→List (Int⊕List Int)}{k:Nat}(hk:∀x,(f x).length=k){xs:List α}(h:Reads w v xs.length (xs.flatMap f)){i:Nat}{x:α}(hx:xs[i]?=some x):
  ∃b off cap,v=.slice (some ⟨b,off,none⟩) xs.length cap∧∀(j:Nat) p,(f x)[j]?=some p→∃u,w.cell? ⟨b,off+i*k+j,none⟩=some u∧P_ w (fun _=>False) p u:=by
 obtain ⟨a,cap,rfl,_,_,h4⟩:=h
 have hi:i<xs.length:=by
  rcases Nat.lt_or_ge i xs.length with h|h
  ·exact h
  ·rw[List.getElem?_eq_none h]at hx;cases hx
 obtain ⟨b,off,rfl,hc⟩:=h4.resolve_left (by omega)
 refine ⟨b,off,cap,rfl,fun j p hp=>?_⟩
 have hj:j<k:=by
  rw[←hk x]
  rcases Nat.lt_or_ge j (f x).length with h|h
  ·exact h
  ·rw[List.getElem?_eq_none h]at hp;cases hp
 obtain ⟨u,hu,hp'⟩:=hc (i*k+j) p (by rw[flat_at f k hk xs i j x hx hj];exact hp)
 exact ⟨u,by rw[Nat.add_assoc];exact hu,hp'⟩
def Y_ (w:World) (v:Value) (ls:List Ly):Prop:=Reads w v ls.length (ls.flatMap lyS)
def D_ (w:World) (v:Value) (ds:List (Mx×Mx)):Prop:=Reads w v ds.length (ds.flatMap gdS)
theorem Y_.u_{w w':World}{v:Value}{ls:List Ly}(h:Y_ w v ls)(hb:Below w.heap.size w w'):Y_ w' v ls:=Reads.u_ h hb
theorem D_.u_{w w':World}{v:Value}{ds:List (Mx×Mx)}(h:D_ w v ds)(hb:Below w.heap.size w w'):D_ w' v ds:=Reads.u_ h hb
theorem Y_.shape{w:World}{v:Value}{ls:List Ly}(h:Y_ w v ls):∃a cap,v=.slice a ls.length cap∧ls.length≤cap∧cap≤maxLen:=by obtain ⟨a,cap,h1,h2,h3,_⟩:=h;exact ⟨a,cap,h1,h2,h3⟩
theorem D_.shape{w:World}{v:Value}{ds:List (Mx×Mx)}(h:D_ w v ds):∃a cap,v=.slice a ds.length cap∧ds.length≤cap∧cap≤maxLen:=by obtain ⟨a,cap,h1,h2,h3,_⟩:=h;exact ⟨a,cap,h1,h2,h3⟩
theorem Y_.at{w:World}{v:Value}{ls:List Ly}(h:Y_ w v ls){i:Nat}{l:Ly}(hl:ls[i]?=some l):∃b off cap sa sn sk ta tn tk,v=.slice (some ⟨b,off,none⟩) ls.length cap∧
  w.cell? ⟨b,off+i*7,none⟩=some (.int .i64 l.k)∧w.cell? ⟨b,off+i*7+1,none⟩=some (.int .i64 l.w.rows)∧w.cell? ⟨b,off+i*7+2,none⟩=some (.int .i64 l.w.cols)∧w.cell? ⟨b,off+i*7+3,none⟩=some (.slice sa sn sk)∧
  w.cell? ⟨b,off+i*7+4,none⟩=some (.int .i64 l.b.rows)∧w.cell? ⟨b,off+i*7+5,none⟩=some (.int .i64 l.b.cols)∧w.cell? ⟨b,off+i*7+6,none⟩=some (.slice ta tn tk)∧
  IsLy w (.agg #[.int .i64 l.k,.int .i64 l.w.rows,.int .i64 l.w.cols,.slice sa sn sk,.int .i64 l.b.rows,.int .i64 l.b.cols,.slice ta tn tk]) l:=by
 obtain ⟨b,off,cap,hv,hc⟩:=Reads.at (f:=lyS) (k:=7) (fun _=>rfl) h hl
 obtain ⟨_,c0,rfl⟩:=hc 0 _ rfl
 obtain ⟨_,c1,rfl⟩:=hc 1 _ rfl
 obtain ⟨_,c2,rfl⟩:=hc 2 _ rfl
 obtain ⟨s,c3,hs,_⟩:=hc 3 _ rfl
 obtain ⟨_,c4,rfl⟩:=hc 4 _ rfl
 obtain ⟨_,c5,rfl⟩:=hc 5 _ rfl
 obtain ⟨t,c6,ht,_⟩:=hc 6 _ rfl
 obtain ⟨sa,sn,sk,rfl⟩:=hs.shape
 obtain ⟨ta,tn,tk,rfl⟩:=ht.shape
 exact ⟨b,off,cap,sa,sn,sk,ta,tn,tk,hv,c0,c1,c2,c3,c4,c5,c6,⟨_,_,rfl,hs,ht⟩⟩
theorem Y_.ints{w:World}{l:Ly}{k r c s r' c' t:Value}(h:IsLy w (.agg #[k,r,c,s,r',c',t]) l):I_ w s l.w.cells∧I_ w t l.b.cells:=by
 obtain ⟨s',t',e,hs,ht⟩:=h
 have e2:=Array.mk.inj (Value.agg.inj e)
 simp at e2
 obtain ⟨_,_,_,rfl,_,_,rfl⟩:=e2
 exact ⟨hs,ht⟩
theorem D_.at{w:World}{v:Value}{ds:List (Mx×Mx)}(h:D_ w v ds){i:Nat}{d:Mx×Mx}(hd:ds[i]?=some d):∃b off cap sa sn sk ta tn tk,v=.slice (some ⟨b,off,none⟩) ds.length cap∧
  w.cell? ⟨b,off+i*6,none⟩=some (.int .i64 d.1.rows)∧w.cell? ⟨b,off+i*6+1,none⟩=some (.int .i64 d.1.cols)∧w.cell? ⟨b,off+i*6+2,none⟩=some (.slice sa sn sk)∧
  w.cell? ⟨b,off+i*6+3,none⟩=some (.int .i64 d.2.rows)∧w.cell? ⟨b,off+i*6+4,none⟩=some (.int .i64 d.2.cols)∧w.cell? ⟨b,off+i*6+5,none⟩=some (.slice ta tn tk)∧
  I_ w (.slice sa sn sk) d.1.cells∧I_ w (.slice ta tn tk) d.2.cells:=by
 obtain ⟨b,off,cap,hv,hc⟩:=Reads.at (f:=gdS) (k:=6) (fun _=>rfl) h hd
 obtain ⟨_,c0,rfl⟩:=hc 0 _ rfl
 obtain ⟨_,c1,rfl⟩:=hc 1 _ rfl
 obtain ⟨s,c2,hs,_⟩:=hc 2 _ rfl
 obtain ⟨_,c3,rfl⟩:=hc 3 _ rfl
 obtain ⟨_,c4,rfl⟩:=hc 4 _ rfl
 obtain ⟨t,c5,ht,_⟩:=hc 5 _ rfl
 obtain ⟨sa,sn,sk,rfl⟩:=hs.shape
 obtain ⟨ta,tn,tk,rfl⟩:=ht.shape
 exact ⟨b,off,cap,sa,sn,sk,ta,tn,tk,hv,c0,c1,c2,c3,c4,c5,hs,ht⟩
theorem IsMxs.shape{w:World}{v:Value}{ms:List Mx}(h:IsMxs w v ms):∃a cap,v=.slice a ms.length cap∧ms.length≤cap∧cap≤maxLen:=by obtain ⟨a,cap,h1,h2,h3,_⟩:=h;exact ⟨a,cap,h1,h2,h3⟩
theorem IsMxs.at{w:World}{v:Value}{ms:List Mx}(h:IsMxs w v ms){i:Nat}{m:Mx}(hm:ms[i]?=some m):∃b off cap sa sn sk,v=.slice (some ⟨b,off,none⟩) ms.length cap∧
  w.cell? ⟨b,off+i*3,none⟩=some (.int .i64 m.rows)∧w.cell? ⟨b,off+i*3+1,none⟩=some (.int .i64 m.cols)∧w.cell? ⟨b,off+i*3+2,none⟩=some (.slice sa sn sk)∧I_ w (.slice sa sn sk) m.cells:=by
 obtain ⟨a,cap,rfl,_,_,h4⟩:=h
 obtain ⟨b,off,rfl,hc⟩:=h4.resolve_left (fun e=>by rw[e]at hm;simp at hm)
 obtain ⟨s,c0,c1,c2,hs⟩:=hc i m hm
 obtain ⟨sa,sn,sk,rfl⟩:=hs.shape
 exact ⟨b,off,cap,sa,sn,sk,rfl,c0,c1,c2,hs⟩
theorem reads_mxs{w:World}{v:Value}{ms:List Mx}(h:Reads w v ms.length (ms.flatMap mxS)):IsMxs w v ms:=by
 obtain ⟨a,cap,rfl,h2,h3,h4⟩:=h
 refine ⟨a,cap,rfl,h2,h3,?_⟩
 by_cases h0:ms=[]
 ·exact .inl h0
 ·have hn:ms.length≠0:=fun e=>h0 (List.eq_nil_of_length_eq_zero e)
  obtain ⟨b,off,rfl,hc⟩:=h4.resolve_left hn
  refine .inr ⟨b,off,rfl,fun i m hm=>?_⟩
  have hf:=flat_at mxS 3 (fun _=>rfl) ms i
  obtain ⟨_,c0,rfl⟩:=hc (i*3+0) (.inl m.rows) (by rw[hf 0 m hm (by decide)];rfl)
  obtain ⟨_,c1,rfl⟩:=hc (i*3+1) (.inl m.cols) (by rw[hf 1 m hm (by decide)];rfl)
  obtain ⟨s,c2,hs,_⟩:=hc (i*3+2) (.inr m.cells) (by rw[hf 2 m hm (by decide)];rfl)
  rw[←Nat.add_assoc]at c0 c1 c2
  exact ⟨s,c0,c1,c2,hs⟩
end Go.Proofs.Ytniloklglpchfaf
