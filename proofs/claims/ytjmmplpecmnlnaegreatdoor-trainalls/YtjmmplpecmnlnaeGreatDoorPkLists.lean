/- Lists of structs in memory: what stands in their cells (numbers, and slices of ints); a list that is grown by append, whose block is none of its slices' own. No program in sight. -/
import Derived.Test.YtjmmplpecmnlnaeGreatDoorPkMOps1
import Derived.Laws.AppendOwn
import Derived.Test.YtjmmplpecmnlnaeGreatDoorPlain
namespace Go.Proofs.YtjmmplpecmnlnaeGreatDoor
open Go.RowKit
def P_ (w:World) (G:Nat→Prop):Int⊕List Int→Value→Prop
 |.inl i,u=>u=.int .i64 i
 |.inr zs,u=>I_ w u zs∧(zs=[]∨∀b,u.ownBlock=some b→¬G b)
theorem P_.u_{w w':World}{G:Nat→Prop}{p:Int⊕List Int}{u:Value}(h:P_ w G p u)(hb:Below w.heap.size w w'):P_ w' G p u:=by
 cases p with
 |inl i=>exact h
 |inr zs=>exact ⟨h.1.u_ hb,h.2⟩
theorem P_.one{w:World}{G:Nat→Prop}{p:Int⊕List Int}{u:Value}(h:P_ w G p u):u.oneCell'=true:=by
 cases p with
 |inl i=>obtain rfl:=h;rfl
 |inr zs=>obtain ⟨⟨a,cap,rfl,_⟩,_⟩:=h;rfl
theorem I_.lt{w:World}{u:Value}{zs:List Int}(h:I_ w u zs)(h0:zs≠[]):∃b,u.ownBlock=some b∧b<w.heap.size:=by
 obtain ⟨a,cap,rfl,_,_,h4⟩:=h
 obtain ⟨b,off,rfl,hc⟩:=h4.resolve_left h0
 cases zs with
 |nil=>exact absurd rfl h0
 |cons z l=>exact ⟨b,rfl,World.block_lt_of_cell? w _ (hc 0 z rfl)⟩
theorem I_.stay{w w':World}{u:Value}{zs:List Int}(h:I_ w u zs)(hs:∀(p:Addr) x,u.ownBlock=some p.block→w.cell? p=some x→w'.cell? p=some x):I_ w' u zs:=by
 obtain ⟨a,cap,rfl,h2,h3,h4⟩:=h
 refine ⟨a,cap,rfl,h2,h3,h4.imp id ?_⟩
 rintro ⟨b,off,rfl,hc⟩
 exact ⟨b,off,rfl,fun i x hx=>hs _ _ rfl (hc i x hx)⟩
theorem I_.nilAny{w w':World}{u:Value}{zs:List Int}(h:I_ w u zs)(h0:zs=[]):I_ w' u zs:=by
 obtain ⟨a,cap,rfl,h2,h3,_⟩:=h
 exact ⟨a,cap,rfl,h2,h3,.inl h0⟩
theorem P_.grown{w w':World}{g:Option Nat}{G G':Nat→Prop}{p:Int⊕List Int}{u:Value}(h:P_ w G p u)(hg:w.grownBy w' g)(hG:∀b,g=some b→G b)(hG':∀b,b<w.heap.size→G' b→G b):P_ w' G' p u:=by
 cases p with
 |inl i=>exact h
 |inr zs=>
  by_cases h0:zs=[]
  ·exact ⟨h.1.nilAny h0,.inl h0⟩
  ·have hn:=h.2.resolve_left h0
   refine ⟨h.1.stay (fun p x hp hx=>hg.cell hx (fun e=>hn p.block hp (hG _ e.symm))),.inr fun b hb hgb=>?_⟩
   obtain ⟨b',hb',hlt⟩:=h.1.lt h0
   rw[hb]at hb'
   obtain rfl:=Option.some.inj hb'
   exact hn b hb (hG' b hlt hgb)
theorem P_.set{w:World}{G:Nat→Prop}{p:Int⊕List Int}{u:Value}(h:P_ w G p u){B:Nat}(hB:G B)(q:Nat)(x:Value):P_ (w.setCell ⟨B,q,none⟩ x) G p u:=by
 cases p with
 |inl i=>exact h
 |inr zs=>
  by_cases h0:zs=[]
  ·exact ⟨h.1.nilAny h0,.inl h0⟩
  ·have hn:=h.2.resolve_left h0
   exact ⟨h.1.stay (fun p y hp hy=>cell_other hy (fun e=>hn p.block hp (by rw[e];exact hB)) q x),.inr hn⟩
theorem P_.mono{w:World}{G G':Nat→Prop}{p:Int⊕List Int}{u:Value}(h:P_ w G p u)(hG:∀b,b<w.heap.size→G' b→G b):P_ w G' p u:=h.grown (World.grownBy.refl w none) (fun b e=>by cases e) hG
def Enc (w:World) (G:Nat→Prop) (sp:List (Int⊕List Int)) (cs:List Value):Prop:=cs.length=sp.length∧∀(j:Nat) p,sp[j]?=some p→∃u,cs[j]?=some u∧P_ w G p u
theorem Enc.nil(w:World)(G:Nat→Prop):Enc w G [] []:=⟨rfl,fun j p h=>by simp at h⟩
theorem Enc.cons{w:World}{G:Nat→Prop}{p:Int⊕List Int}{u:Value}{sp:List (Int⊕List Int)}{cs:List Value}(h:P_ w G p u)(ht:Enc w G sp cs):Enc w G (p::sp) (u::cs):=by
 refine ⟨by simp[ht.1],fun j q hq=>?_⟩
 cases j with
 |zero=>simp at hq;subst hq;exact ⟨u,rfl,h⟩
 |succ j=>simpa using ht.2 j q (by simpa using hq)
theorem Enc.append{w:World}{G:Nat→Prop}{sp sp':List (Int⊕List Int)}{cs cs':List Value}(h:Enc w G sp cs)(h':Enc w G sp' cs'):Enc w G (sp++sp') (cs++cs'):=by
 refine ⟨by simp[h.1,h'.1],fun j p hp=>?_⟩
 by_cases hj:j<sp.length
 ·rw[List.getElem?_append_left hj]at hp
  rw[List.getElem?_append_left (by rw[h.1];exact hj)]
  exact h.2 j p hp
 ·rw[List.getElem?_append_right (by omega)]at hp
  rw[List.getElem?_append_right (by rw[h.1];omega),h.1]
  exact h'.2 _ p hp
theorem Enc.map{w w':World}{G G':Nat→Prop}{sp:List (Int⊕List Int)}{cs:List Value}(h:Enc w G sp cs)(hm:∀p u,P_ w G p u→P_ w' G' p u):Enc w' G' sp cs:=⟨h.1,fun j p hp=>by obtain ⟨u,hu,hp'⟩:=h.2 j p hp;exact ⟨u,hu,hm _ _ hp'⟩⟩
theorem Enc.one{w:World}{G:Nat→Prop}{sp:List (Int⊕List Int)}{cs:List Value}(h:Enc w G sp cs):∀u∈cs,u.oneCell'=true:=by
 intro u hu
 obtain ⟨j,hj,rfl⟩:=List.getElem_of_mem hu
 obtain ⟨u',hu',hp⟩:=h.2 j (sp[j]'(by rw[←h.1];exact hj)) (List.getElem?_eq_getElem _)
 rw[List.getElem?_eq_getElem hj]at hu'
 rw[Option.some.inj hu']
 exact hp.one
def Reads (w:World) (v:Value) (n:Nat) (sp:List (Int⊕List Int)):Prop:=
 ∃(a:Option Addr) (cap:Nat),v=.slice a n cap∧n≤cap∧cap≤maxLen∧(n=0∨∃b off,a=some ⟨b,off,none⟩∧∀(j:Nat) p,sp[j]?=some p→∃u,w.cell? ⟨b,off+j,none⟩=some u∧P_ w (fun _=>False) p u)
theorem Reads.u_{w w':World}{v:Value}{n:Nat}{sp:List (Int⊕List Int)}(h:Reads w v n sp)(hb:Below w.heap.size w w'):Reads w' v n sp:=by
 obtain ⟨a,cap,h1,h2,h3,h4⟩:=h
 refine ⟨a,cap,h1,h2,h3,h4.imp id ?_⟩
 rintro ⟨b,off,ha,hc⟩
 refine ⟨b,off,ha,fun j p hp=>?_⟩
 obtain ⟨u,hu,hp'⟩:=hc j p hp
 exact ⟨u,c_ hb hu,hp'.u_ hb⟩
def Owns (lo base:Nat) (w:World) (e:TypeId) (size:Nat) (v:Value) (n:Nat) (sp:List (Int⊕List Int)):Prop:=∃cs,w.ownsRow base e size v n cs∧Enc w (fun b=>v.ownBlock=some b∨(lo≤b∧b<base)) sp cs
theorem below_grown{w w':World}(hb:Below w.heap.size w w'):w.grownBy w' none:=⟨hb.os,hb.tape,hb.output,hb.size,fun k hk _=>hb.block k hk⟩
theorem Owns.u_{lo base:Nat}{w w':World}{e:TypeId}{size n:Nat}{v:Value}{sp:List (Int⊕List Int)}(h:Owns lo base w e size v n sp)(hb:Below w.heap.size w w'):Owns lo base w' e size v n sp:=by
 obtain ⟨cs,h1,h2⟩:=h
 exact ⟨cs,h1.kept (below_grown hb) (by cases hv:v.ownBlock<;>simp),h2.map (fun p u hp=>hp.u_ hb)⟩
theorem grown_of_set(w:World)(B q:Nat)(x:Value):w.grownBy (w.setCell ⟨B,q,none⟩ x) (some B):=w_ (World.grownBy.refl w (some B)) q x
theorem Owns.set{lo base:Nat}{w:World}{e:TypeId}{size n:Nat}{v:Value}{sp:List (Int⊕List Int)}(h:Owns lo base w e size v n sp){B:Nat}(h0:lo≤B)(h1:B<base)(q:Nat)(x:Value):Owns lo base (w.setCell ⟨B,q,none⟩ x) e size v n sp:=by
 obtain ⟨cs,ho,he⟩:=h
 refine ⟨cs,ho.kept (grown_of_set w B q x) ?_,he.map (fun p u hp=>hp.set (B:=B) (.inr ⟨h0,h1⟩) q x)⟩
 by_cases hv:v.ownBlock=none
 ·exact .inl hv
 ·refine .inr (fun e=>?_)
  have:=(World.ownsRow.lt ho B e).1
  omega
theorem Owns.nil(lo base:Nat)(w:World)(e:TypeId)(size:Nat):Owns lo base w e size (.slice none 0 0) 0 []:=⟨[],World.ownsRow_nil w base e size,Enc.nil _ _⟩
theorem Owns.lt{lo base:Nat}{w:World}{e:TypeId}{size n:Nat}{v:Value}{sp:List (Int⊕List Int)}(h:Owns lo base w e size v n sp):∀k,v.ownBlock=some k→base≤k∧k<w.heap.size:=by
 obtain ⟨cs,h1,_⟩:=h;exact World.ownsRow.lt h1
theorem Owns.reads{lo base:Nat}{w:World}{e:TypeId}{size n:Nat}{v:Value}{sp:List (Int⊕List Int)}(h:Owns lo base w e size v n sp):Reads w v n sp:=by
 obtain ⟨cs,h1,h2⟩:=h
 rcases h1.2 with ⟨rfl,rfl⟩|⟨g,cap,cur,rfl,_,_,hnc,hcm,_,_⟩
 ·exact ⟨none,0,rfl,Nat.le_refl _,Nat.zero_le _,.inl rfl⟩
 ·refine ⟨some ⟨g,0,none⟩,cap,rfl,hnc,hcm,.inr ⟨g,0,rfl,fun j p hp=>?_⟩⟩
  obtain ⟨u,hu,hp'⟩:=h2.2 j p hp
  have hc:=h1.cells (g:=g) rfl j u hu
  have hadd:(⟨g,0,none⟩:Addr).add j=⟨g,0+j,none⟩:=by unfold Addr.add;split<;>simp_all
  rw[hadd]at hc
  exact ⟨u,hc,hp'.mono (fun b _ hf=>hf.elim)⟩
theorem Owns.made{lo base:Nat}{w:World}{e:TypeId}{size n:Nat}{cs:List Value}{sp:List (Int⊕List Int)}(hb:base≤w.heap.size)(hn:n≤maxLen)(hl:cs.length=n*size)(hen:Enc w (fun b=>lo≤b∧b<base) sp cs):
  Owns lo base (w.alloc (.cells cs.toArray e)) e size (.slice (some ⟨w.heap.size,0,none⟩) n n) n sp:=by
 refine ⟨cs,⟨hl,.inr ⟨w.heap.size,n,cs.toArray,rfl,hb,heap_alloc_new w _,Nat.le_refl _,hn,by simpa using hl,?_⟩⟩,hen.map (fun p u hp=>?_)⟩
 ·rw[←hl];simp
 ·refine hp.grown (below_grown (o_ w _)) (fun b e=>by cases e) (fun b hlt hg=>?_)
  rcases hg with hg|hg
  ·have:w.heap.size=b:=by simpa [Value.ownBlock] using hg
   omega
  ·exact hg
section
variable {P:Program} {w:World}
theorem append_where(base:Nat)(t ty e:TypeId)(i:TypeInfo)(z:Value)(size bytes:Nat)(ht:P.underlying t=some (.slice e))(hi:P.info? e=some i)(hz:i.zero=some z)
  (hsize:i.size=size) (hby:i.bytes=bytes) (hzs:z.cells.size=size) (hsz:0<size) (v:Value) (n:Nat) (xs:List Value) (hown:w.ownsRow base e size v n xs)
  (a:Addr) (m c:Nat) (news:List Value) (hl:news.length=m*size) (hnews:∀j u,news[j]?=some u→w.cell? (a.add j)=some u) (h1:∀u∈news,u.oneCell'=true)
  (h63:n+m≤maxLen) (hbytes:(n+m)*bytes≤140737488355328) (hbase:base≤w.heap.size):
  ∃v' w',(Builtin.append_ #[t,t] ty #[v,.slice (some a) m c]).run P w=.ok v' w'∧w'.ownsRow base e size v' (n+m) (xs++news)∧w.grownBy w' v.ownBlock∧(v'.ownBlock=v.ownBlock∨v'.ownBlock=some w.heap.size):=by
 obtain ⟨v',w',hr,h2,h3,h4⟩:=run_append_own (P:=P) w base t ty e i z size bytes ht hi hz hsize hby hzs hsz v n xs hown a m c news hl hnews h1 h63 hbytes hbase
 refine ⟨v',w',hr,h2,h3,?_⟩
 subst hsize hby
 have hsmall:n+m≤9223372036854775807:=by simp only[maxLen]at h63;omega
 rcases hown.2 with ⟨rfl,rfl⟩|⟨g,cap,cur,rfl,hbg,hg,hnc,hcm,hcs,htake⟩
 ·by_cases hm:m=0
  ·rw[h4.2 ⟨rfl,hm⟩];exact .inl rfl
  ·have hr':=run_append_nil (P:=P) w t ty e i z ht hi hz a m c news hl hnews (by omega) (by omega) (by have hb:=hbytes;simp only[Nat.zero_add]at hb;omega)
   have e:=hr.symm.trans hr'
   injection e with e1 _
   rw[e1];exact .inr rfl
 ·by_cases hroom:n+m≤cap
  ·have hfit:n*i.size+news.length≤cur.size:=by rw[hl,hcs,←Nat.add_mul];exact Nat.mul_le_mul_right _ hroom
   have hr':=run_append_room (P:=P) w t ty e i ht hi g n cap cur hg a m c news hl hnews h1 hroom hfit
   have e:=hr.symm.trans hr'
   injection e with e1 _
   rw[e1];exact .inl rfl
  ·have hr':=run_append_grow (P:=P) w t ty e i z ht hi hz ⟨g,0,none⟩ n cap xs hown.1 (hown.cells (g:=g) rfl) a m c news hl hnews (by omega) (by omega) (growslice_fits (by omega) hbytes)
   have e:=hr.symm.trans hr'
   injection e with e1 _
   rw[e1];exact .inr rfl
theorem wpList_append_owns{ops:Array Oper}{rest:List Oper}{o:Oper}{a:Act}{Q:Exit→Act→World→Prop}(hgd:o.guard=none)(s x:Operand)(t:TypeId)
  (ho:o.op=.call { callee:=.builtin .append,args:=#[s,x],argTypes:=#[t,t] })
  (base:Nat) (e:TypeId) (i:TypeInfo) (z:Value) (size bytes:Nat) (ht:P.underlying t=some (.slice e)) (hi:P.info? e=some i) (hz:i.zero=some z)
  (hsize:i.size=size) (hby:i.bytes=bytes) (hzs:z.cells.size=size) (hsz:0<size)
  (lo:Nat) (v:Value) (n:Nat) (sp:List (Int⊕List Int)) (hs:a.eval s=v) (hown:Owns lo base w e size v n sp)
  (ad:Addr) (m c:Nat) (news:List Value) (hx:a.eval x=.slice (some ad) m c) (hl:news.length=m*size) (hnews:∀j u,news[j]?=some u→w.cell? (ad.add j)=some u)
  (sn:List (Int⊕List Int)) (hen:Enc w (fun b=>v.ownBlock=some b∨(lo≤b∧b<base)) sn news)
  (h63:n+m≤maxLen) (hbytes:(n+m)*bytes≤140737488355328) (hbase:base≤w.heap.size)
  (h:∀v' w',Owns lo base w' e size v' (n+m) (sp++sn)→w.grownBy w' v.ownBlock→(v'.ownBlock=v.ownBlock∨v'.ownBlock=some w.heap.size)→wpList P ops Q rest (a.put o.dst v') w'):wpList P ops Q (o::rest) a w:=by
 obtain ⟨cs,h1,h2⟩:=hown
 obtain ⟨v',w',hr,h3,h4,h5⟩:=append_where (P:=P) base t o.type e i z size bytes ht hi hz hsize hby hzs hsz v n cs h1 ad m c news hl hnews hen.one h63 hbytes hbase
 refine wpList_plain hgd fun K hK=>?_
 unfold Oper.wp execOp
 simp only[ho,resolve,invoke,builtin,Sem.run_bind,Sem.run_pure,Result.andThen_ok,List.map_toArray,List.map_cons,List.map_nil,hs,hx,hr]
 refine hK _ _ (h v' w' ⟨_,h3,(h2.append hen).map (fun p u hp=>hp.grown h4 (fun b hb=>.inl hb) (fun b hlt hg=>?_))⟩ h4 h5)
 rcases hg with hg|hg
 ·rcases h5 with h5|h5
  ·exact .inl (h5▸hg)
  ·rw[h5]at hg
   have:=Option.some.inj hg
   omega
 ·exact .inr hg
end
theorem addr_add(b j:Nat):(⟨b,0,none⟩:Addr).add j=⟨b,j,none⟩:=by unfold Addr.add;split<;>simp_all
def mxS (m:Mx):List (Int⊕List Int):=[.inl m.rows,.inl m.cols,.inr m.cells]
def gdS (d:Mx×Mx):List (Int⊕List Int):=mxS d.1++mxS d.2
def lyS (l:Ly):List (Int⊕List Int):=.inl l.k::(mxS l.w++mxS l.b)
theorem flat_at{α β:Type}(f:α→List β)(k:Nat)(hk:∀x,(f x).length=k):∀(xs:List α) (i j:Nat) (x:α),xs[i]?=some x→j<k→(xs.flatMap f)[i*k+j]?=(f x)[j]?:=by
 intro xs
 induction xs with
 |nil=>intro i j x h;simp at h
 |cons y l ih=>
  intro i j x h hj
  rw[List.flatMap_cons]
  cases i with
  |zero=>
   simp at h;subst h
   rw[List.getElem?_append_left (by rw[hk];omega)];simp
  |succ i=>
   rw[List.getElem?_append_right (by rw[hk,Nat.succ_mul];omega),hk,show (i+1)*k+j - k=i*k+j by rw[Nat.succ_mul];omega]
   exact ih i j x (by simpa using h) hj
theorem flat_snoc{α β:Type}(f:α→List β)(xs:List α)(x:α):xs.flatMap f++f x=(xs++[x]).flatMap f:=by simp
theorem Reads.at{w:World}{v:Value}{α:Type}{f:α→List (Int⊕List Int)}{k:Nat}(hk:∀x,(f x).length=k){xs:List α}(h:Reads w v xs.length (xs.flatMap f)){i:Nat}{x:α}(hx:xs[i]?=some x):
  ∃b off cap,v=.slice (some ⟨b,off,none⟩) xs.length cap∧∀(j:Nat) p,(f x)[j]?=some p→∃u,w.cell? ⟨b,off+i*k+j,none⟩=some u∧P_ w (fun _=>False) p u:=by
 obtain ⟨a,cap,rfl,_,_,h4⟩:=h
 have hi:i<xs.length:=by
  rcases Nat.lt_or_ge i xs.length with h|h
  ·exact h
  ·rw[List.getElem?_eq_none h]at hx;cases hx
 obtain ⟨b,off,rfl,hc⟩:=h4.resolve_left (by omega)
 refine ⟨b,off,cap,rfl,fun j p hp=>?_⟩
 have hj:j<k:=by
  rw[←hk x]
  rcases Nat.lt_or_ge j (f x).length with h|h
  ·exact h
  ·rw[List.getElem?_eq_none h]at hp;cases hp
 obtain ⟨u,hu,hp'⟩:=hc (i*k+j) p (by rw[flat_at f k hk xs i j x hx hj];exact hp)
 exact ⟨u,by rw[Nat.add_assoc];exact hu,hp'⟩
def Y_ (w:World) (v:Value) (ls:List Ly):Prop:=Reads w v ls.length (ls.flatMap lyS)
def D_ (w:World) (v:Value) (ds:List (Mx×Mx)):Prop:=Reads w v ds.length (ds.flatMap gdS)
theorem Y_.u_{w w':World}{v:Value}{ls:List Ly}(h:Y_ w v ls)(hb:Below w.heap.size w w'):Y_ w' v ls:=Reads.u_ h hb
theorem D_.u_{w w':World}{v:Value}{ds:List (Mx×Mx)}(h:D_ w v ds)(hb:Below w.heap.size w w'):D_ w' v ds:=Reads.u_ h hb
theorem Y_.shape{w:World}{v:Value}{ls:List Ly}(h:Y_ w v ls):∃a cap,v=.slice a ls.length cap∧ls.length≤cap∧cap≤maxLen:=by obtain ⟨a,cap,h1,h2,h3,_⟩:=h;exact ⟨a,cap,h1,h2,h3⟩
theorem D_.shape{w:World}{v:Value}{ds:List (Mx×Mx)}(h:D_ w v ds):∃a cap,v=.slice a ds.length cap∧ds.length≤cap∧cap≤maxLen:=by obtain ⟨a,cap,h1,h2,h3,_⟩:=h;exact ⟨a,cap,h1,h2,h3⟩
theorem Y_.at{w:World}{v:Value}{ls:List Ly}(h:Y_ w v ls){i:Nat}{l:Ly}(hl:ls[i]?=some l):∃b off cap sa sn sk ta tn tk,v=.slice (some ⟨b,off,none⟩) ls.length cap∧
  w.cell? ⟨b,off+i*7,none⟩=some (.int .i64 l.k)∧w.cell? ⟨b,off+i*7+1,none⟩=some (.int .i64 l.w.rows)∧w.cell? ⟨b,off+i*7+2,none⟩=some (.int .i64 l.w.cols)∧w.cell? ⟨b,off+i*7+3,none⟩=some (.slice sa sn sk)∧
  w.cell? ⟨b,off+i*7+4,none⟩=some (.int .i64 l.b.rows)∧w.cell? ⟨b,off+i*7+5,none⟩=some (.int .i64 l.b.cols)∧w.cell? ⟨b,off+i*7+6,none⟩=some (.slice ta tn tk)∧
  IsLy w (.agg #[.int .i64 l.k,.int .i64 l.w.rows,.int .i64 l.w.cols,.slice sa sn sk,.int .i64 l.b.rows,.int .i64 l.b.cols,.slice ta tn tk]) l:=by
 obtain ⟨b,off,cap,hv,hc⟩:=Reads.at (f:=lyS) (k:=7) (fun _=>rfl) h hl
 obtain ⟨_,c0,rfl⟩:=hc 0 _ rfl
 obtain ⟨_,c1,rfl⟩:=hc 1 _ rfl
 obtain ⟨_,c2,rfl⟩:=hc 2 _ rfl
 obtain ⟨s,c3,hs,_⟩:=hc 3 _ rfl
 obtain ⟨_,c4,rfl⟩:=hc 4 _ rfl
 obtain ⟨_,c5,rfl⟩:=hc 5 _ rfl
 obtain ⟨t,c6,ht,_⟩:=hc 6 _ rfl
 obtain ⟨sa,sn,sk,rfl⟩:=hs.shape
 obtain ⟨ta,tn,tk,rfl⟩:=ht.shape
 exact ⟨b,off,cap,sa,sn,sk,ta,tn,tk,hv,c0,c1,c2,c3,c4,c5,c6,⟨_,_,rfl,hs,ht⟩⟩
theorem Y_.ints{w:World}{l:Ly}{k r c s r' c' t:Value}(h:IsLy w (.agg #[k,r,c,s,r',c',t]) l):I_ w s l.w.cells∧I_ w t l.b.cells:=by
 obtain ⟨s',t',e,hs,ht⟩:=h
 have e2:=Array.mk.inj (Value.agg.inj e)
 simp at e2
 obtain ⟨_,_,_,rfl,_,_,rfl⟩:=e2
 exact ⟨hs,ht⟩
theorem D_.at{w:World}{v:Value}{ds:List (Mx×Mx)}(h:D_ w v ds){i:Nat}{d:Mx×Mx}(hd:ds[i]?=some d):∃b off cap sa sn sk ta tn tk,v=.slice (some ⟨b,off,none⟩) ds.length cap∧
  w.cell? ⟨b,off+i*6,none⟩=some (.int .i64 d.1.rows)∧w.cell? ⟨b,off+i*6+1,none⟩=some (.int .i64 d.1.cols)∧w.cell? ⟨b,off+i*6+2,none⟩=some (.slice sa sn sk)∧
  w.cell? ⟨b,off+i*6+3,none⟩=some (.int .i64 d.2.rows)∧w.cell? ⟨b,off+i*6+4,none⟩=some (.int .i64 d.2.cols)∧w.cell? ⟨b,off+i*6+5,none⟩=some (.slice ta tn tk)∧
  I_ w (.slice sa sn sk) d.1.cells∧I_ w (.slice ta tn tk) d.2.cells:=by
 obtain ⟨b,off,cap,hv,hc⟩:=Reads.at (f:=gdS) (k:=6) (fun _=>rfl) h hd
 obtain ⟨_,c0,rfl⟩:=hc 0 _ rfl
 obtain ⟨_,c1,rfl⟩:=hc 1 _ rfl
 obtain ⟨s,c2,hs,_⟩:=hc 2 _ rfl
 obtain ⟨_,c3,rfl⟩:=hc 3 _ rfl
 obtain ⟨_,c4,rfl⟩:=hc 4 _ rfl
 obtain ⟨t,c5,ht,_⟩:=hc 5 _ rfl
 obtain ⟨sa,sn,sk,rfl⟩:=hs.shape
 obtain ⟨ta,tn,tk,rfl⟩:=ht.shape
 exact ⟨b,off,cap,sa,sn,sk,ta,tn,tk,hv,c0,c1,c2,c3,c4,c5,hs,ht⟩
theorem IsMxs.shape{w:World}{v:Value}{ms:List Mx}(h:IsMxs w v ms):∃a cap,v=.slice a ms.length cap∧ms.length≤cap∧cap≤maxLen:=by obtain ⟨a,cap,h1,h2,h3,_⟩:=h;exact ⟨a,cap,h1,h2,h3⟩
theorem IsMxs.at{w:World}{v:Value}{ms:List Mx}(h:IsMxs w v ms){i:Nat}{m:Mx}(hm:ms[i]?=some m):∃b off cap sa sn sk,v=.slice (some ⟨b,off,none⟩) ms.length cap∧
  w.cell? ⟨b,off+i*3,none⟩=some (.int .i64 m.rows)∧w.cell? ⟨b,off+i*3+1,none⟩=some (.int .i64 m.cols)∧w.cell? ⟨b,off+i*3+2,none⟩=some (.slice sa sn sk)∧I_ w (.slice sa sn sk) m.cells:=by
 obtain ⟨a,cap,rfl,_,_,h4⟩:=h
 obtain ⟨b,off,rfl,hc⟩:=h4.resolve_left (fun e=>by rw[e]at hm;simp at hm)
 obtain ⟨s,c0,c1,c2,hs⟩:=hc i m hm
 obtain ⟨sa,sn,sk,rfl⟩:=hs.shape
 exact ⟨b,off,cap,sa,sn,sk,rfl,c0,c1,c2,hs⟩
theorem reads_mxs{w:World}{v:Value}{ms:List Mx}(h:Reads w v ms.length (ms.flatMap mxS)):IsMxs w v ms:=by
 obtain ⟨a,cap,rfl,h2,h3,h4⟩:=h
 refine ⟨a,cap,rfl,h2,h3,?_⟩
 by_cases h0:ms=[]
 ·exact .inl h0
 ·have hn:ms.length≠0:=fun e=>h0 (List.eq_nil_of_length_eq_zero e)
  obtain ⟨b,off,rfl,hc⟩:=h4.resolve_left hn
  refine .inr ⟨b,off,rfl,fun i m hm=>?_⟩
  have hf:=flat_at mxS 3 (fun _=>rfl) ms i
  obtain ⟨_,c0,rfl⟩:=hc (i*3+0) (.inl m.rows) (by rw[hf 0 m hm (by decide)];rfl)
  obtain ⟨_,c1,rfl⟩:=hc (i*3+1) (.inl m.cols) (by rw[hf 1 m hm (by decide)];rfl)
  obtain ⟨s,c2,hs,_⟩:=hc (i*3+2) (.inr m.cells) (by rw[hf 2 m hm (by decide)];rfl)
  rw[←Nat.add_assoc]at c0 c1 c2
  exact ⟨s,c0,c1,c2,hs⟩
end Go.Proofs.YtjmmplpecmnlnaeGreatDoor
/- Boxes of any size: what a variable holds, cell by cell; a box that is written again. No program in sight. -/
namespace Go.Proofs.YtjmmplpecmnlnaeGreatDoor
open Go.RowKit
def Box (w:World) (B:Nat) (cs:List Value):Prop:=∀(j:Nat) x,cs[j]?=some x→w.cell? ⟨B,j,none⟩=some x
theorem Box.u_{w w':World}{B:Nat}{cs:List Value}(h:Box w B cs)(hb:Below w.heap.size w w'):Box w' B cs:=fun j x hx=>c_ hb (h j x hx)
theorem Box.new(V:World)(cs:List Value)(t:TypeId){B:Nat}(hB:V.heap.size=B):Box (V.alloc (.cells cs.toArray t)) B cs:=fun j x hx=>box_new V _ t hB (by simpa using hx)
theorem Box.lt{w:World}{B:Nat}{x:Value}{cs:List Value}(h:Box w B (x::cs)):B<w.heap.size:=World.block_lt_of_cell? w _ (h 0 x rfl)
theorem Box.other{w:World}{B B' q:Nat}{cs:List Value}(h:Box w B cs)(hne:B≠B')(u:Value):Box (w.setCell ⟨B',q,none⟩ u) B cs:=fun j x hx=>cell_other (h j x hx) hne q u
def Free (w:World) (B:Nat):Prop:=∀j,w.frozen? ⟨B,j,none⟩=false
theorem Free.new(V:World)(cs:Array Value)(t:TypeId){B:Nat}(hB:V.heap.size=B):Free (V.alloc (.cells cs t)) B:=box_free V cs t hB
theorem Free.u_{w w':World}{B:Nat}(h:Free w B)(hb:Below w.heap.size w w')(hlt:B<w.heap.size):Free w' B:=fun j=>(hb.frozen (p:=⟨B,j,none⟩) hlt).trans (h j)
theorem below_sets{V u:World}(h:Below V.heap.size V u){B:Nat}(hB:V.heap.size≤B)(q:Nat)(x:Value):Below V.heap.size V (u.setCell ⟨B,q,none⟩ x):=h.setCell hB _
theorem I_.freshSet{w:World}{B:Nat}{s:Value}{zs:List Int}(h:I_ w s zs){r c:Value}(hf:F_ B (.agg #[r,c,s])){b:Nat}(hb:b<B)(q:Nat)(u:Value):I_ (w.setCell ⟨b,q,none⟩ u) s zs:=by
 obtain ⟨a,cap,rfl,h2,h3,h4⟩:=h
 refine ⟨a,cap,rfl,h2,h3,?_⟩
 rcases h4 with h0|⟨b',off,rfl,hc⟩
 ·exact .inl h0
 ·rcases hf _ _ _ _ _ rfl with hz|hz
  ·exact .inl (List.eq_nil_of_length_eq_zero hz)
  ·exact .inr ⟨b',off,rfl,fun i x hx=>cell_other (hc i x hx) (by show b'≠b;simp only[]at hz;omega) q u⟩
theorem f_{B B':Nat}{v:Value}(h:F_ B v)(hb:B'≤B):F_ B' v:=fun r c x n k e=>(h r c x n k e).imp id (fun h=>Nat.le_trans hb h)
theorem Box.c2{w:World}{B:Nat}{x0 x1:Value}{cs:List Value}(h:Box w B (x0::x1::cs)):w.cell? ⟨B,0,none⟩=some x0∧w.cell? ⟨B,1,none⟩=some x1:=⟨h 0 _ rfl,h 1 _ rfl⟩
theorem Box.c3{w:World}{B:Nat}{x0 x1 x2:Value}{cs:List Value}(h:Box w B (x0::x1::x2::cs)):w.cell? ⟨B,0,none⟩=some x0∧w.cell? ⟨B,1,none⟩=some x1∧w.cell? ⟨B,2,none⟩=some x2:=⟨h 0 _ rfl,h 1 _ rfl,h 2 _ rfl⟩
theorem Box.c35{w:World}{B:Nat}{x0 x1 x2 x3 x4 x5:Value}{cs:List Value}(h:Box w B (x0::x1::x2::x3::x4::x5::cs)):w.cell? ⟨B,3,none⟩=some x3∧w.cell? ⟨B,4,none⟩=some x4∧w.cell? ⟨B,5,none⟩=some x5:=⟨h 3 _ rfl,h 4 _ rfl,h 5 _ rfl⟩
theorem Box.c6{w:World}{B:Nat}{x0 x1 x2 x3 x4 x5:Value}{cs:List Value}(h:Box w B (x0::x1::x2::x3::x4::x5::cs)):w.cell? ⟨B,0,none⟩=some x0∧w.cell? ⟨B,1,none⟩=some x1∧w.cell? ⟨B,2,none⟩=some x2∧w.cell? ⟨B,3,none⟩=some x3∧w.cell? ⟨B,4,none⟩=some x4∧w.cell? ⟨B,5,none⟩=some x5:=⟨h 0 _ rfl,h 1 _ rfl,h 2 _ rfl,h 3 _ rfl,h 4 _ rfl,h 5 _ rfl⟩
theorem Box.c7{w:World}{B:Nat}{x0 x1 x2 x3 x4 x5 x6:Value}{cs:List Value}(h:Box w B (x0::x1::x2::x3::x4::x5::x6::cs)):w.cell? ⟨B,0,none⟩=some x0∧w.cell? ⟨B,1,none⟩=some x1∧w.cell? ⟨B,2,none⟩=some x2∧w.cell? ⟨B,3,none⟩=some x3∧w.cell? ⟨B,4,none⟩=some x4∧w.cell? ⟨B,5,none⟩=some x5∧w.cell? ⟨B,6,none⟩=some x6:=⟨h 0 _ rfl,h 1 _ rfl,h 2 _ rfl,h 3 _ rfl,h 4 _ rfl,h 5 _ rfl,h 6 _ rfl⟩
theorem Free.f3{w:World}{B:Nat}(h:Free w B):w.frozen? ⟨B,0,none⟩=false∧w.frozen? ⟨B,1,none⟩=false∧w.frozen? ⟨B,2,none⟩=false:=⟨h 0,h 1,h 2⟩
theorem Free.f6{w:World}{B:Nat}(h:Free w B):w.frozen? ⟨B,0,none⟩=false∧w.frozen? ⟨B,1,none⟩=false∧w.frozen? ⟨B,2,none⟩=false∧w.frozen? ⟨B,3,none⟩=false∧w.frozen? ⟨B,4,none⟩=false∧w.frozen? ⟨B,5,none⟩=false:=⟨h 0,h 1,h 2,h 3,h 4,h 5⟩
end Go.Proofs.YtjmmplpecmnlnaeGreatDoor
/- Nets as plain data: how wide, what stands behind each layer, Grads together; facts on lists of them. No program in sight. -/
namespace Go.Proofs.YtjmmplpecmnlnaeGreatDoor
open Go.RowKit
def netE:List Ly→Int→Int
 |[],n=>if n<0∨12<n then 1 else 0
 |l::ls,n=>if wideE l n≠0 then wideE l n else netE ls (g_ l n)
def netW:List Ly→Int→Int
 |[],n=>n
 |l::ls,n=>netW ls (g_ l n)
def nwE (ls:List Ly) (n:Int):Int:=if 12<ls.length then 3 else netE ls n
def nwX (ls:List Ly) (n:Int):Int:=if nwE ls n=0 then netW ls n else 0
theorem drop_at{α:Type}{xs:List α}{i:Nat}{x:α}(h:xs[i]?=some x):xs.drop i=x::xs.drop (i+1):=by
 obtain ⟨hi,rfl⟩:=List.getElem?_eq_some_iff.1 h
 exact List.drop_eq_getElem_cons hi
theorem infoMx:(Tryz.prog.info? 28).map (fun i=>(i.zero,i.size,i.bytes))=some (some (.agg #[.int .i64 0,.int .i64 0,.slice none 0 0]),3,40):=by kernel_rfl
def runE:List Ly→Mx→Int
 |[],_=>0
 |l::ls,x=>if goE l x≠0 then goE l x else runE ls (goX l x)
def runT:List Ly→Mx→List Mx
 |[],_=>[]
 |l::ls,x=>goX l x::runT ls (goX l x)
def ngE (ls:List Ly) (x:Mx):Int:=if 12<ls.length then 3 else if q_ x≠0 then q_ x else runE ls x
def ngX (ls:List Ly) (x:Mx):List Mx:=if ngE ls x=0 then x::runT ls x else []
theorem isMxs_nil(w:World):IsMxs w (.slice none 0 0) []:=⟨none,0,rfl,Nat.le_refl _,Nat.zero_le _,.inl rfl⟩
theorem enc_mx{w:World}{G:Nat→Prop}{m:Mx}{s:Value}(h:P_ w G (.inr m.cells) s):Enc w G (mxS m) [.int .i64 m.rows,.int .i64 m.cols,s]:=.cons rfl (.cons rfl (.cons h (.nil _ _)))
theorem x_{w:World}{n:Nat}{r c s:Value}{zs:List Int}(h:I_ w s zs)(hf:F_ n (.agg #[r,c,s])){G:Nat→Prop}(hG:∀b,G b→b<n):P_ w G (.inr zs) s:=by
 refine ⟨h,?_⟩
 by_cases h0:zs=[]
 ·exact .inl h0
 ·obtain ⟨a,cap,rfl,_,_,h4⟩:=h
  obtain ⟨b,off,rfl,_⟩:=h4.resolve_left h0
  refine .inr fun k hk hg=>?_
  have hlt:=hG k hg
  obtain rfl:b=k:=by simpa [Value.ownBlock] using hk
  rcases hf r c ⟨b,off,none⟩ zs.length cap rfl with h1|h1
  ·exact absurd (List.eq_nil_of_length_eq_zero h1) h0
  ·have:n≤b:=h1
   omega
theorem part_old{w w':World}{s:Value}{zs:List Int}(h:I_ w s zs)(hb:Below w.heap.size w w'){G:Nat→Prop}(hG:∀b,G b→w.heap.size≤b):P_ w' G (.inr zs) s:=by
 refine ⟨h.u_ hb,?_⟩
 by_cases h0:zs=[]
 ·exact .inl h0
 ·obtain ⟨b,hb',hlt⟩:=h.lt h0
  refine .inr fun k hk hg=>?_
  rw[hb']at hk
  obtain rfl:=Option.some.inj hk
  have:=hG b hg
  omega
theorem three_set{w:World}{B:Nat}{a0 a1 a2:Value}(h:Box w B [a0,a1,a2])(x y z:Value):Box (((w.setCell ⟨B,0,none⟩ x).setCell ⟨B,1,none⟩ y).setCell ⟨B,2,none⟩ z) B [x,y,z]:=by
 have o:∀(u:World) (i j:Nat) (v:Value),i≠j→(u.setCell ⟨B,i,none⟩ v).cell? ⟨B,j,none⟩=u.cell? ⟨B,j,none⟩:=fun u i j v hij=>cell_at_other u B i j v hij
 intro j v hv
 match j,hv with
 |0,hv=>simp at hv;subst hv;rw[o _ 2 0 _ (by decide),o _ 1 0 _ (by decide)];exact World.cell?_setCell_same _ _ _ (h 0 _ rfl)
 |1,hv=>simp at hv;subst hv;rw[o _ 2 1 _ (by decide)];exact World.cell?_setCell_same _ _ _ ((o _ 0 1 _ (by decide)).trans (h 1 _ rfl))
 |2,hv=>simp at hv;subst hv;exact World.cell?_setCell_same _ _ _ ((o _ 1 2 _ (by decide)).trans ((o _ 0 2 _ (by decide)).trans (h 2 _ rfl)))
theorem infoGd:(Tryz.prog.info? 61).map (fun i=>(i.zero,i.size,i.bytes))=some (some (.agg #[.int .i64 0,.int .i64 0,.slice none 0 0,.int .i64 0,.int .i64 0,.slice none 0 0]),6,80):=by kernel_rfl
def gat1E (p q:Mx×Mx):Int:=if addE p.1 q.1≠0 then addE p.1 q.1 else addE p.2 q.2
def gat1X (p q:Mx×Mx):Mx×Mx:=(addX p.1 q.1,addX p.2 q.2)
def gatE:List (Mx×Mx)→List (Mx×Mx)→Int
 |p::ps,q::qs=>if gat1E p q≠0 then gat1E p q else gatE ps qs
 |_,_=>0
def gatX:List (Mx×Mx)→List (Mx×Mx)→List (Mx×Mx)
 |p::ps,q::qs=>gat1X p q::gatX ps qs
 |_,_=>[]
def gaE (ps qs:List (Mx×Mx)):Int:=if ps.length≠qs.length then 2 else gatE ps qs
def gaX (ps qs:List (Mx×Mx)):List (Mx×Mx):=if gaE ps qs=0 then gatX ps qs else []
theorem isGds_nil(w:World):D_ w (.slice none 0 0) []:=⟨none,0,rfl,Nat.le_refl _,Nat.zero_le _,.inl rfl⟩
theorem enc_gd{w:World}{G:Nat→Prop}{d:Mx×Mx}{s t:Value}(h:P_ w G (.inr d.1.cells) s)(h':P_ w G (.inr d.2.cells) t):Enc w G (gdS d) [.int .i64 d.1.rows,.int .i64 d.1.cols,s,.int .i64 d.2.rows,.int .i64 d.2.cols,t]:=.cons rfl (.cons rfl (.cons h (.cons rfl (.cons rfl (.cons h' (.nil _ _))))))
def zeroM (m:Mx):Mx:=⟨m.rows,m.cols,tab m.cells.length (fun _=>0)⟩
def zeroD (ls:List Ly):List (Mx×Mx):=ls.map fun l=>(zeroM l.w,zeroM l.b)
end Go.Proofs.YtjmmplpecmnlnaeGreatDoor
/- Plain facts on what layers give: what Check takes. No program in sight. -/
namespace Go.Proofs.YtjmmplpecmnlnaeGreatDoor
def LyG (l:Ly):Prop:=(∃Rw Cw:Nat,l.k=1∧Good l.w Rw Cw∧Good l.b 1 Cw∧1≤Rw∧Rw≤12∧1≤Cw)∨(l.k=2∧Good l.w 0 0∧Good l.b 0 0)∨(l.k=3∧Good l.w 1 1∧Good l.b 0 0)∨(∃Cb:Nat,l.k=4∧Good l.w 0 0∧Good l.b 1 Cb∧1≤Cb)
theorem LyG.lin{l:Ly}(Rw Cw:Nat)(hk:l.k=1)(gw:Good l.w Rw Cw)(gb:Good l.b 1 Cw)(h1:1≤Rw)(h2:Rw≤12)(h3:1≤Cw):LyG l:=.inl ⟨Rw,Cw,hk,gw,gb,h1,h2,h3⟩
theorem LyG.relu{l:Ly}(hk:l.k=2)(gw:Good l.w 0 0)(gb:Good l.b 0 0):LyG l:=.inr (.inl ⟨hk,gw,gb⟩)
theorem LyG.scale{l:Ly}(hk:l.k=3)(gw:Good l.w 1 1)(gb:Good l.b 0 0):LyG l:=.inr (.inr (.inl ⟨hk,gw,gb⟩))
theorem LyG.shift{l:Ly}(Cb:Nat)(hk:l.k=4)(gw:Good l.w 0 0)(gb:Good l.b 1 Cb)(h:1≤Cb):LyG l:=.inr (.inr (.inr ⟨Cb,hk,gw,gb,h⟩))
theorem LyG.el{l:Ly}{motive:LyG l→Prop}(lin:∀(Rw Cw:Nat) (hk:l.k=1) (gw:Good l.w Rw Cw) (gb:Good l.b 1 Cw) (h1:1≤Rw) (h2:Rw≤12) (h3:1≤Cw),motive (.lin Rw Cw hk gw gb h1 h2 h3))(relu:∀(hk:l.k=2) (gw:Good l.w 0 0) (gb:Good l.b 0 0),motive (.relu hk gw gb))
  (scale:∀(hk:l.k=3) (gw:Good l.w 1 1) (gb:Good l.b 0 0),motive (.scale hk gw gb)) (shift:∀(Cb:Nat) (hk:l.k=4) (gw:Good l.w 0 0) (gb:Good l.b 1 Cb) (h:1≤Cb),motive (.shift Cb hk gw gb h)) (t:LyG l):motive t:=by
 rcases t with ⟨Rw,Cw,hk,gw,gb,h1,h2,h3⟩|⟨hk,gw,gb⟩|⟨hk,gw,gb⟩|⟨Cb,hk,gw,gb,h⟩
 ·exact lin Rw Cw hk gw gb h1 h2 h3
 ·exact relu hk gw gb
 ·exact scale hk gw gb
 ·exact shift Cb hk gw gb h
theorem Good.same{m:Mx}{R C R' C':Nat}(g:Good m R C)(h1:R=R')(h2:C=C'):Good m R' C':=by subst h1 h2;exact g
theorem lyG_of{l:Ly}(h:l_ l=0):LyG l:=by
 obtain ⟨h1,h2,fw,fb,hf⟩:=lgood_of h
 obtain ⟨Rw,Cw,gw⟩:=o__ fw
 obtain ⟨Rb,Cb,gb⟩:=o__ fb
 have e1:=gw.r
 have e2:=gw.c
 have e3:=gb.r
 have e4:=gb.c
 unfold fitsL at hf
 by_cases k1:l.k=1
 ·rw[if_pos k1]at hf
  have hf:=of_decide_eq_true hf
  exact .lin Rw Cw k1 gw (gb.same (by omega) (by omega)) (by omega) (by omega) (by omega)
 ·rw[if_neg k1]at hf
  by_cases k2:l.k=2
  ·rw[if_pos k2]at hf
   have hf:=of_decide_eq_true hf
   exact .relu k2 (gw.same (by omega) (by omega)) (gb.same (by omega) (by omega))
  ·rw[if_neg k2]at hf
   by_cases k3:l.k=3
   ·rw[if_pos k3]at hf
    have hf:=of_decide_eq_true hf
    exact .scale k3 (gw.same (by omega) (by omega)) (gb.same (by omega) (by omega))
   ·rw[if_neg k3]at hf
    have hf:=of_decide_eq_true hf
    exact .shift Cb (by omega) (gw.same (by omega) (by omega)) (gb.same (by omega) rfl) (by omega)
theorem goE_zero{l:Ly}{x:Mx}(h:goE l x=0):l_ l=0∧q_ x=0∧takesL l x.cols=true:=by
 unfold goE at h
 by_cases h1:l_ l≠0
 ·rw[if_pos h1]at h;exact absurd h h1
 ·rw[if_neg h1]at h
  by_cases h2:q_ x≠0
  ·rw[if_pos h2]at h;exact absurd h h2
  ·rw[if_neg h2]at h
   by_cases h3:takesL l x.cols=false
   ·rw[if_pos h3]at h;cases h
   ·exact ⟨Decidable.not_not.1 h1,Decidable.not_not.1 h2,by simpa using h3⟩
theorem goE_of{l:Ly}{x:Mx}(h1:l_ l=0)(h2:q_ x=0)(h3:takesL l x.cols=true):goE l x=0:=by
 unfold goE;rw[if_neg (by simp[h1]),if_neg (by simp[h2]),if_neg (by simp[h3])]
theorem backE_zero{l:Ly}{x g:Mx}(h:backE l x g=0):goE l x=0∧q_ g=0∧g.rows=x.rows∧g.cols=g_ l x.cols∧¬(l.k=1∧12<x.rows):=by
 unfold backE at h
 by_cases h1:goE l x≠0
 ·rw[if_pos h1]at h;exact absurd h h1
 ·rw[if_neg h1]at h
  by_cases h2:q_ g≠0
  ·rw[if_pos h2]at h;exact absurd h h2
  ·rw[if_neg h2]at h
   by_cases h3:g.rows≠x.rows∨g.cols≠g_ l x.cols
   ·rw[if_pos h3]at h;cases h
   ·rw[if_neg h3]at h
    by_cases h4:l.k=1∧12<x.rows
    ·rw[if_pos h4]at h;cases h
    ·exact ⟨Decidable.not_not.1 h1,Decidable.not_not.1 h2,by omega,by omega,h4⟩
theorem backE_of{l:Ly}{x g:Mx}(h1:goE l x=0)(h2:q_ g=0)(h3:g.rows=x.rows)(h4:g.cols=g_ l x.cols)(h5:¬(l.k=1∧12<x.rows)):backE l x g=0:=by
 unfold backE;rw[if_neg (by simp[h1]),if_neg (by simp[h2]),if_neg (by omega),if_neg h5]
theorem cellAt_ends{m:Mx}{R C:Nat}(g:Good m R C)(q:Nat):inEnds (A_ m q)=true:=getD_ends g.e q
theorem each_eq{a:Mx}{R C:Nat}(g:Good a R C)(f:Nat→Int):eachX a f=⟨R,C,tab (R*C) f⟩:=by unfold eachX;rw[g.r,g.c,g.l]
theorem Good.each{a:Mx}{R C:Nat}(g:Good a R C){f:Nat→Int}(hf:∀q,q<R*C→inEnds (f q)=true):Good (eachX a f) R C:=by
 rw[each_eq g];exact ⟨rfl,rfl,g.hR,g.hC,tab_len _ _,tab_ends hf⟩
theorem Good.addRows{a b:Mx}{R C:Nat}(g:Good a R C):Good (addRows a b) R C:=g.each (fun q _=>by rw[ends_iff];exact ad_bd _ _)
theorem max_ends{x:Int}(h:inEnds x=true):inEnds (max x 0)=true:=by rw[ends_iff]at h ⊢;omega
theorem Good.relu{a:Mx}{R C:Nat}(g:Good a R C):Good (reluX a) R C:=g.each (fun q _=>max_ends (cellAt_ends g q))
theorem Good.reluB{x a:Mx}{R C:Nat}(g:Good a R C):Good (reluB x a) R C:=g.each (fun q _=>by split;exact cellAt_ends g q;decide)
theorem Good.copy{a:Mx}{R C:Nat}(g:Good a R C):Good (eachX a (A_ a)) R C:=g.each (fun q _=>cellAt_ends g q)
theorem each_self{a:Mx}{R C:Nat}(g:Good a R C):eachX a (A_ a)=a:=by
 obtain ⟨r,c,cs⟩:=a
 unfold eachX A_
 simp only[tab_list]
theorem times_each{a:Mx}{R C:Nat}(g:Good a R C)(x:Int):timesX a x=eachX a (fun q=>ml (A_ a q) x):=by
 rw[each_eq g]
 have e:timesE a=0:=by unfold timesE;rw[if_neg (by simp[g.fault])]
 unfold timesX
 rw[if_pos e,g.r,g.c]
 simp[A_]
theorem Good.times{a:Mx}{R C:Nat}(g:Good a R C)(x:Int):Good (timesX a x) R C:=by
 rw[times_each g];exact g.each (fun q _=>by rw[ends_iff];exact ml_bd _ _)
theorem takes_lin{l:Ly}{n:Int}(hk:l.k=1)(h:takesL l n=true):n=l.w.rows:=by unfold takesL at h;rw[if_pos hk]at h;exact of_decide_eq_true h
theorem takes_shift{l:Ly}{n:Int}(hk:l.k=4)(h:takesL l n=true):n=l.b.cols:=by unfold takesL at h;rw[if_neg (by omega),if_pos hk]at h;exact of_decide_eq_true h
theorem go_good{l:Ly}{x:Mx}{R C:Nat}(gx:Good x R C)(h:goE l x=0):∃C',Good (goX l x) R C'∧g_ l x.cols=(C':Int):=by
 obtain ⟨hl,_,ht⟩:=goE_zero h
 unfold goX
 rw[if_pos h]
 unfold goG g_
 cases lyG_of hl using LyG.el with
 |lin Rw Cw hk gw gb h1 h2 h3=>
  have e:=takes_lin hk ht
  rw[if_pos hk,if_pos hk]
  exact ⟨Cw,((gx.same (R':=R) (C':=Rw) rfl (by have:=gx.c;have:=gw.r;omega)).mul gw).addRows,gw.c⟩
 |relu hk gw gb=>rw[if_neg (by omega),if_pos hk,if_neg (by omega)];exact ⟨C,gx.relu,gx.c⟩
 |scale hk gw gb=>rw[if_neg (by omega),if_neg (by omega),if_pos hk,if_neg (by omega)];exact ⟨C,gx.times _,gx.c⟩
 |shift Cb hk gw gb h1=>rw[if_neg (by omega),if_neg (by omega),if_neg (by omega),if_neg (by omega)];exact ⟨C,gx.addRows,gx.c⟩
theorem back_good{l:Ly}{x g:Mx}{R C:Nat}(gx:Good x R C)(h:backE l x g=0):∃Cg,Good g R Cg∧g_ l x.cols=(Cg:Int)∧Good (backX l x g) R C:=by
 obtain ⟨hg,fg,e1,e2,h4⟩:=backE_zero h
 obtain ⟨hl,_,ht⟩:=goE_zero hg
 obtain ⟨Rg,Cg,gg⟩:=o__ fg
 have gg:=gg.same (R':=R) (C':=Cg) (by have:=gg.r;have:=gx.r;omega) rfl
 refine ⟨Cg,gg,by rw[←e2];exact gg.c,?_⟩
 unfold backX
 rw[if_pos h]
 unfold backG
 unfold g_ at e2
 cases lyG_of hl using LyG.el with
 |lin Rw Cw hk gw gb h1 h2 h3=>
  have e:=takes_lin hk ht
  rw[if_pos hk]at e2 ⊢
  have gt:=gw.turn h2
  have:=(gg.same (R':=R) (C':=Cw) rfl (by have:=gg.c;have:=gw.c;omega)).mul gt
  exact this.same rfl (by have:=gx.c;have:=gw.r;omega)
 |relu hk gw gb=>rw[if_neg (by omega)]at e2;rw[if_neg (by omega),if_pos hk];exact (gg.same rfl (by have:=gx.c;have:=gg.c;omega)).reluB
 |scale hk gw gb=>rw[if_neg (by omega)]at e2;rw[if_neg (by omega),if_neg (by omega),if_pos hk];exact (gg.same rfl (by have:=gx.c;have:=gg.c;omega)).times _
 |shift Cb hk gw gb h1=>rw[if_neg (by omega)]at e2;rw[if_neg (by omega),if_neg (by omega),if_neg (by omega)];exact (gg.same rfl (by have:=gx.c;have:=gg.c;omega)).copy
end Go.Proofs.YtjmmplpecmnlnaeGreatDoor
