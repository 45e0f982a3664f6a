/- Plain facts on cuts: which cuts stay within a limit, the first of them, the least limit. No Go in sight; conditions: what stands in each row (pre: the costs ahead of each place, rising). -/
import Derived.Test.YtpniemnfdleiialGreatPlain
namespace Go.Proofs.YtpniemnfdleiialGreat
def Tl (n:Nat):Nat→List Nat→Prop
 |a,[]=>a=n
 |a,e::t=>a<e∧Tl n e t
def Un (pre:Nat→Int) (L:Int):Nat→List Nat→Prop
 |_,[]=>True
 |a,e::t=>pre e - pre a≤L∧Un pre L e t
def Fw (pre:Nat→Int) (n r a:Nat) (L:Int):Prop:=∃t,t.length≤r∧Tl n a t∧Un pre L a t
def Fx (pre:Nat→Int) (n r a:Nat) (L:Int):Prop:=∃t,t.length=r∧Tl n a t∧Un pre L a t
theorem Tl.le{n:Nat}:∀{a:Nat} {t:List Nat},Tl n a t→a+t.length≤n
 |a,[],h=>by unfold Tl at h;simp;omega
 |a,e::t,h=>by have h1:=h.1;have:=Tl.le h.2;simp;omega
theorem Tl.cons{n a:Nat}{t:List Nat}(h:Tl n a t)(ha:a<n):∃e t',t=e::t'∧a<e∧Tl n e t':=by
 cases t with
 |nil=>unfold Tl at h;omega
 |cons e t'=>exact ⟨e,t',rfl,h.1,h.2⟩
theorem Un.mono{pre:Nat→Int}{L L':Int}(hl:L≤L'):∀{a:Nat} {t:List Nat},Un pre L a t→Un pre L' a t
 |_,[],_=>trivial
 |_,_::_,h=>⟨Int.le_trans h.1 hl,Un.mono hl h.2⟩
theorem Fw.mono{pre:Nat→Int}{n r a:Nat}{L L':Int}(h:Fw pre n r a L)(hl:L≤L'):Fw pre n r a L':=by
 obtain ⟨t,h1,h2,h3⟩:=h;exact ⟨t,h1,h2,h3.mono hl⟩
theorem Fx.fw{pre:Nat→Int}{n r a:Nat}{L:Int}(h:Fx pre n r a L):Fw pre n r a L:=by
 obtain ⟨t,h1,h2,h3⟩:=h;exact ⟨t,by omega,h2,h3⟩
theorem Fx.room{pre:Nat→Int}{n r a:Nat}{L:Int}(h:Fx pre n r a L):a+r≤n:=by
 obtain ⟨t,h1,h2,h3⟩:=h;have:=h2.le;omega
theorem fx_succ{pre:Nat→Int}{n r a:Nat}{L:Int}:Fx pre n (r+1) a L↔∃e,a<e∧pre e - pre a≤L∧Fx pre n r e L:=by
 constructor
 ·rintro ⟨t,h1,h2,h3⟩
  cases t with
  |nil=>simp at h1
  |cons e t=>exact ⟨e,h2.1,h3.1,t,by simpa using h1,h2.2,h3.2⟩
 ·rintro ⟨e,h1,h2,t,h3,h4,h5⟩
  exact ⟨e::t,by simp[h3],⟨h1,h4⟩,⟨h2,h5⟩⟩
theorem Fw.fx{pre:Nat→Int}(hp:∀i j,i≤j→pre i≤pre j){n:Nat}{L:Int}:∀{r a:Nat},Fw pre n r a L→a+r≤n→Fx pre n r a L
 |0,a,⟨t,h1,h2,h3⟩,_=>⟨t,by omega,h2,h3⟩
 |r+1,a,⟨t,h1,h2,h3⟩,hr=>by
  obtain ⟨e,t',rfl,h4,h5⟩:=h2.cons (by omega)
  have h6:=h3.1
  simp at h1
  by_cases hc:e+r≤n
  ·exact fx_succ.2 ⟨e,h4,h6,Fw.fx hp ⟨t',h1,h5,h3.2⟩ hc⟩
  ·have hle:=h5.le
   have q1:=hp (n - r) e (by omega)
   have q2:=hp a (n - r) (by omega)
   refine fx_succ.2 ⟨n - r,by omega,by omega,Fw.fx hp ⟨e::t',?_,⟨by omega,h5⟩,⟨by omega,h3.2⟩⟩ (by omega)⟩
   simp;omega
def First (pre:Nat→Int) (n:Nat) (L:Int):Nat→Nat→List Nat→Prop
 |0,_,t=>t=[]
 |r+1,a,t=>∃e t',t=e::t'∧a<e∧Fw pre n r e L∧(∀x,a<x→x<e→¬Fw pre n r x L)∧First pre n L r e t'
theorem first_step{pre:Nat→Int}(hp:∀i j,i≤j→pre i≤pre j){n r a e:Nat}{L:Int}(h:Fx pre n (r+1) a L)(he:Fw pre n r e L)(hm:∀x,a<x→x<e→¬Fw pre n r x L):pre e - pre a≤L∧Fx pre n r e L:=by
 obtain ⟨f,h1,h2,h3⟩:=fx_succ.1 h
 have hef:e≤f:=by
  rcases Nat.lt_or_ge f e with q|q
  ·exact absurd h3.fw (hm f h1 q)
  ·exact q
 have:=hp e f hef
 exact ⟨by omega,he.fx hp (by have:=h3.room;omega)⟩
theorem First.tl{pre:Nat→Int}(hp:∀i j,i≤j→pre i≤pre j){n:Nat}{L:Int}:∀{r a:Nat} {t:List Nat},First pre n L r a t→Fx pre n r a L→t.length=r∧Tl n a t∧Un pre L a t
 |0,a,t,h,⟨u,k1,k2,k3⟩=>by
  obtain rfl:t=[]:=h
  obtain rfl:u=[]:=List.eq_nil_of_length_eq_zero k1
  exact ⟨rfl,k2,k3⟩
 |r+1,a,t,⟨e,t',h1,h2,h3,h4,h5⟩,k=>by
  obtain ⟨q1,q2⟩:=first_step hp k h3 h4
  obtain ⟨a1,a2,a3⟩:=First.tl hp h5 q2
  subst h1
  exact ⟨by simp[a1],⟨h2,a2⟩,⟨q1,a3⟩⟩
def Least (pre:Nat→Int) (n r a:Nat) (P M:Int):Prop:=P≤M∧Fx pre n r a M∧∀L,P≤L→Fx pre n r a L→M≤L
def preS (cs:List Int) (k:Nat):Int:=(cs.take k).sum
theorem preS_zero(cs:List Int):preS cs 0=0:=by simp[preS]
theorem preS_succ{cs:List Int}{p:Nat}{c:Int}(h:cs[p]?=some c):preS cs (p+1)=preS cs p+c:=by
 unfold preS
 rw[List.take_add_one,h,List.sum_append]
 simp
theorem preS_out{cs:List Int}{p:Nat}(h:cs.length≤p):preS cs p=preS cs cs.length:=by
 unfold preS;rw[List.take_of_length_le h,List.take_length]
theorem preS_mono{cs:List Int}(h:∀c∈cs,0≤c)(i j:Nat)(hij:i≤j):preS cs i≤preS cs j:=by
 induction j with
 |zero=>
  obtain rfl:i=0:=by omega
  exact Int.le_refl _
 |succ j ih=>
  rcases Nat.lt_or_ge j i with q|q
  ·obtain rfl:i=j+1:=by omega
   exact Int.le_refl _
  ·have:=ih q
   cases hc:cs[j]? with
   |none=>
    have hl:=List.getElem?_eq_none_iff.1 hc
    rw[preS_out hl]at this
    rw[preS_out (show cs.length≤j+1 by omega)];exact this
   |some c=>
    have:=h c (List.mem_of_getElem? hc)
    rw[preS_succ hc];omega
theorem preS_bound{cs:List Int}(h:∀c∈cs,0≤c∧c≤1000000)(j:Nat):preS cs j≤1000000*j:=by
 induction j with
 |zero=>simp[preS]
 |succ j ih=>
  cases hc:cs[j]? with
  |none=>
   have hl:=List.getElem?_eq_none_iff.1 hc
   rw[preS_out (show cs.length≤j+1 by omega),←preS_out hl];omega
  |some c=>
   have:=h c (List.mem_of_getElem? hc)
   rw[preS_succ hc];omega
def gr (L:Int):List Int→Int→Nat→Nat
 |[],_,k=>k
 |c::cs,full,k=>if k=0∨L<full+c then gr L cs c (k+1) else gr L cs (full+c) k
def fitsP (cs:List Int) (r:Nat) (L:Int):Prop:=(∀c∈cs,c≤L)∧gr L cs 0 0≤r
theorem gr_drop{cs:List Int}{p:Nat}{c L full:Int}{k:Nat}(h:cs[p]?=some c):gr L (cs.drop p) full k=if k=0∨L<full+c then gr L (cs.drop (p+1)) c (k+1) else gr L (cs.drop (p+1)) (full+c) k:=by
 obtain ⟨hp,rfl⟩:=List.getElem?_eq_some_iff.1 h
 rw[List.drop_eq_getElem_cons hp,gr]
theorem gr_end{cs:List Int}{L full:Int}{k:Nat}:gr L (cs.drop cs.length) full k=k:=by simp[gr]
theorem some_at{cs:List Int}{p:Nat}(h:p<cs.length):∃c,cs[p]?=some c:=⟨cs[p],List.getElem?_eq_getElem h⟩
theorem mem_drop{cs:List Int}{a p:Nat}{c:Int}(h:cs[p]?=some c)(ha:a≤p):c∈cs.drop a:=by
 refine List.mem_of_getElem? (i:=p - a) ?_
 rw[List.getElem?_drop,show a+(p - a)=p by omega,h]
theorem at_drop{cs:List Int}{a:Nat}{c:Int}(h:c∈cs.drop a):∃p,a≤p∧p<cs.length∧cs[p]?=some c:=by
 obtain ⟨i,hi⟩:=List.getElem?_of_mem h
 rw[List.getElem?_drop]at hi
 exact ⟨a+i,by omega,(List.getElem?_eq_some_iff.1 hi).1,hi⟩
theorem gr_least{cs:List Int}(hc:∀c∈cs,0≤c){L:Int}:∀(d p s q k:Nat) (u:List Nat),cs.length - p=d→p≤cs.length→s≤p→q≤s→1≤k→Tl cs.length q u→Un (preS cs) L q u→u≠[]→gr L (cs.drop p) (preS cs p - preS cs s) k+1≤k+u.length
 |0,p,s,q,k,u,hd,hp,hs,hq,hk,ht,hu,hne=>by
  obtain rfl:p=cs.length:=by omega
  rw[gr_end]
  have:u.length≠0:=fun e=>hne (List.eq_nil_of_length_eq_zero e)
  omega
 |d+1,p,s,q,k,u,hd,hp,hs,hq,hk,ht,hu,hne=>by
  obtain ⟨c,hcp⟩:=some_at (show p<cs.length by omega)
  have hsu:=preS_succ hcp
  rw[gr_drop hcp]
  by_cases hf:L<preS cs p - preS cs s+c
  ·rw[if_pos (.inr hf)]
   cases u with
   |nil=>exact absurd rfl hne
   |cons e u'=>
    have h1:=hu.1
    have m1:=preS_mono hc q s hq
    have hep:e≤p:=by
     rcases Nat.lt_or_ge p e with x|x
     ·have:=preS_mono hc (p+1) e x;omega
     ·exact x
    have hu':u'≠[]:=by
     rintro rfl
     have:e=cs.length:=ht.2
     omega
    have:=gr_least hc d (p+1) p e (k+1) u' (by omega) (by omega) (by omega) hep (by omega) ht.2 hu.2 hu'
    rw[show preS cs (p+1) - preS cs p=c by omega]at this
    simp;omega
  ·rw[if_neg (by omega)]
   have:=gr_least hc d (p+1) s q k u (by omega) (by omega) (by omega) hq hk ht hu hne
   rw[show preS cs (p+1) - preS cs s=preS cs p - preS cs s+c by omega]at this
   exact this
theorem gr_does{cs:List Int}{L:Int}:∀(d p s k:Nat),cs.length - p=d→p≤cs.length→s<p→1≤k→preS cs p - preS cs s≤L→(∀c∈cs.drop p,c≤L)→∃u,Tl cs.length s u∧Un (preS cs) L s u∧u.length+k=gr L (cs.drop p) (preS cs p - preS cs s) k+1
 |0,p,s,k,hd,hp,hs,hk,hL,ha=>by
  obtain rfl:p=cs.length:=by omega
  rw[gr_end]
  exact ⟨[cs.length],⟨hs,rfl⟩,⟨hL,trivial⟩,by simp;omega⟩
 |d+1,p,s,k,hd,hp,hs,hk,hL,ha=>by
  obtain ⟨c,hcp⟩:=some_at (show p<cs.length by omega)
  have hsu:=preS_succ hcp
  have hcL:=ha c (mem_drop hcp (Nat.le_refl _))
  have ha':∀c∈cs.drop (p+1),c≤L:=fun x hx=>by
   obtain ⟨i,h1,_,h3⟩:=at_drop hx
   exact ha x (mem_drop h3 (by omega))
  rw[gr_drop hcp]
  by_cases hf:L<preS cs p - preS cs s+c
  ·rw[if_pos (.inr hf)]
   obtain ⟨u,h1,h2,h3⟩:=gr_does d (p+1) p (k+1) (by omega) (by omega) (by omega) (by omega) (by omega) ha'
   rw[show preS cs (p+1) - preS cs p=c by omega]at h3
   exact ⟨p::u,⟨hs,h1⟩,⟨hL,h2⟩,by simp;omega⟩
  ·rw[if_neg (by omega)]
   obtain ⟨u,h1,h2,h3⟩:=gr_does d (p+1) s k (by omega) (by omega) (by omega) hk (by omega) ha'
   rw[show preS cs (p+1) - preS cs s=preS cs p - preS cs s+c by omega]at h3
   exact ⟨u,h1,h2,h3⟩
theorem un_each{cs:List Int}(hc:∀c∈cs,0≤c){L:Int}:∀{a:Nat} {t:List Nat},Tl cs.length a t→Un (preS cs) L a t→∀p c,a≤p→cs[p]?=some c→c≤L
 |a,[],h,_,p,c,h1,h2=>by
  have:a=cs.length:=h
  have:=(List.getElem?_eq_some_iff.1 h2).1
  omega
 |a,e::t,h,k,p,c,h1,h2=>by
  rcases Nat.lt_or_ge p e with x|x
  ·have m1:=preS_mono hc a p h1
   have m2:=preS_mono hc (p+1) e x
   have:=preS_succ h2
   have:=k.1
   omega
  ·exact un_each hc h.2 k.2 p c x h2
theorem fits_iff{cs:List Int}(hc:∀c∈cs,0≤c)(r a:Nat)(L:Int)(ha:a≤cs.length):fitsP (cs.drop a) r L↔Fw (preS cs) cs.length r a L:=by
 unfold fitsP
 rcases Nat.lt_or_ge a cs.length with h|h
 ·obtain ⟨c,hca⟩:=some_at h
  have hsu:=preS_succ hca
  rw[gr_drop hca,if_pos (.inl rfl),Nat.zero_add]
  constructor
  ·rintro ⟨h1,h2⟩
   obtain ⟨u,q1,q2,q3⟩:=gr_does (cs:=cs) (L:=L) _ (a+1) a 1 rfl (by omega) (by omega) (by omega) (by have:=h1 c (mem_drop hca (Nat.le_refl _));omega) (fun x hx=>by
    obtain ⟨i,k1,_,k3⟩:=at_drop hx
    exact h1 x (mem_drop k3 (by omega)))
   rw[show preS cs (a+1) - preS cs a=c by omega]at q3
   exact ⟨u,by omega,q1,q2⟩
  ·rintro ⟨t,h1,h2,h3⟩
   refine ⟨fun x hx=>?_,?_⟩
   ·obtain ⟨i,k1,_,k3⟩:=at_drop hx
    exact un_each hc h2 h3 i x k1 k3
   ·have:=gr_least hc _ (a+1) a a 1 t rfl (by omega) (by omega) (by omega) (by omega) h2 h3 (by
     rintro rfl
     have:a=cs.length:=h2
     omega)
    rw[show preS cs (a+1) - preS cs a=c by omega]at this
    omega
 ·obtain rfl:a=cs.length:=by omega
  constructor
  ·intro _;exact ⟨[],by simp,rfl,trivial⟩
  ·intro _;simp[gr]
end Go.Proofs.YtpniemnfdleiialGreat
/- Plans as plain data, and how they lie in memory; which plans can be done. No program in sight. -/
namespace Go.Proofs.YtpniemnfdleiialGreat
open Go.RowKit
def IsActs (w:World) (v:Value) (l:List (Int×Int)):Prop:=
 ∃(a:Option Addr) (cap:Nat),v=.slice a l.length cap∧l.length≤cap∧cap≤maxLen∧(l=[]∨∃b off,a=some ⟨b,off,none⟩∧∀i x,l[i]?=some x→w.cell? ⟨b,off+i*2,none⟩=some (.int .i64 x.1)∧w.cell? ⟨b,off+i*2+1,none⟩=some (.int .i64 x.2))
theorem cell_bel{w w':World}(hb:Below w.heap.size w w'){p:Addr}{v:Value}(h:w.cell? p=some v):w'.cell? p=some v:=
 (hb.cell (p:=p) (World.block_lt_of_cell? w _ h)).trans h
theorem IsActs.u_{w w':World}{v:Value}{l:List (Int×Int)}(h:IsActs w v l)(hb:Below w.heap.size w w'):IsActs w' v l:=by
 obtain ⟨a,cap,h1,h2,h3,h4⟩:=h
 refine ⟨a,cap,h1,h2,h3,h4.imp id ?_⟩
 rintro ⟨b,off,ha,hc⟩
 exact ⟨b,off,ha,fun i x hx=>⟨cell_bel hb (hc i x hx).1,cell_bel hb (hc i x hx).2⟩⟩
theorem IsActs.len{w:World}{v:Value}{l:List (Int×Int)}(h:IsActs w v l):l.length≤maxLen:=by obtain ⟨_,_,_,h2,h3,_⟩:=h;omega
theorem IsActs.shape{w:World}{v:Value}{l:List (Int×Int)}(h:IsActs w v l):∃a cap,v=.slice a l.length cap:=by obtain ⟨a,cap,h1,_⟩:=h;exact ⟨a,cap,h1⟩
theorem IsActs.nil(w:World):IsActs w (.slice none 0 0) []:=⟨none,0,rfl,Nat.le_refl _,Nat.zero_le _,.inl rfl⟩
def IsPlan (w:World) (v:Value) (p:List (List (Int×Int))):Prop:=
 ∃(a:Option Addr) (cap:Nat),v=.slice a p.length cap∧p.length≤cap∧cap≤maxLen∧(p=[]∨∃b off,a=some ⟨b,off,none⟩∧∀i l,p[i]?=some l→∃s,w.cell? ⟨b,off+i,none⟩=some s∧IsActs w s l)
theorem IsPlan.u_{w w':World}{v:Value}{p:List (List (Int×Int))}(h:IsPlan w v p)(hb:Below w.heap.size w w'):IsPlan w' v p:=by
 obtain ⟨a,cap,h1,h2,h3,h4⟩:=h
 refine ⟨a,cap,h1,h2,h3,h4.imp id ?_⟩
 rintro ⟨b,off,ha,hc⟩
 refine ⟨b,off,ha,fun i l hl=>?_⟩
 obtain ⟨s,hs,hi⟩:=hc i l hl
 exact ⟨s,cell_bel hb hs,hi.u_ hb⟩
theorem IsPlan.len{w:World}{v:Value}{l:List (List (Int×Int))}(h:IsPlan w v l):l.length≤maxLen:=by obtain ⟨_,_,_,h2,h3,_⟩:=h;omega
theorem IsPlan.shape{w:World}{v:Value}{l:List (List (Int×Int))}(h:IsPlan w v l):∃a cap,v=.slice a l.length cap:=by obtain ⟨a,cap,h1,_⟩:=h;exact ⟨a,cap,h1⟩
theorem IsPlan.nil(w:World):IsPlan w (.slice none 0 0) []:=⟨none,0,rfl,Nat.le_refl _,Nat.zero_le _,.inl rfl⟩
theorem act_at{l:List (Int×Int)}{i:Nat}(h:i<l.length):∃x,l[i]?=some x:=⟨l[i],List.getElem?_eq_getElem h⟩
theorem stage_at{p:List (List (Int×Int))}{i:Nat}(h:i<p.length):∃l,p[i]?=some l:=⟨p[i],List.getElem?_eq_getElem h⟩
def okA (m:Int) (a:Int×Int):Prop:=1≤a.1∧a.1≤2∧0≤a.2∧a.2<m
def apart (l:List (Int×Int)):Prop:=∀(i k:Nat) (x y:Int×Int),k<i→l[i]?=some x→l[k]?=some y→x≠y
def ahead (l:List (Int×Int)):Prop:=∀(i k:Nat) (x y:Int×Int),k<i→l[i]?=some x→l[k]?=some y→¬(x.2=y.2∧y.1=2)
def okAB (m:Int) (a:Int×Int):Bool:=decide (1≤a.1)&&decide (a.1≤2)&&decide (0≤a.2)&&decide (a.2<m)
theorem okAB_iff{m:Int}{a:Int×Int}:okAB m a=true↔okA m a:=by simp[okAB,okA,and_assoc]
def apartB:List (Int×Int)→Bool
 |[]=>true
 |x::t=>(!decide (x∈t))&&apartB t
theorem apart_cons{x:Int×Int}{t:List (Int×Int)}:apart (x::t)↔x ∉ t∧apart t:=by
 constructor
 ·intro h
  refine ⟨fun hx=>?_,fun i k y z hk hy hz=>h (i+1) (k+1) y z (by omega) (by simpa using hy) (by simpa using hz)⟩
  obtain ⟨i,hi⟩:=List.getElem?_of_mem hx
  exact h (i+1) 0 x x (by omega) (by simpa using hi) rfl rfl
 ·rintro ⟨h1,h2⟩ i k y z hk hy hz
  cases i with
  |zero=>omega
  |succ i=>
   have hy':t[i]?=some y:=by simpa using hy
   cases k with
   |zero=>
    have hz':x=z:=by simpa using hz
    subst hz'
    exact fun e=>h1 (by rw[←e];exact List.mem_of_getElem? hy')
   |succ k=>exact h2 i k y z (by omega) hy' (by simpa using hz)
theorem apartB_iff:∀{l:List (Int×Int)},apartB l=true↔apart l
 |[]=>by simp[apartB,apart]
 |x::t=>by rw[apart_cons,←apartB_iff (l:=t)];simp[apartB]
def aheadB:List (Int×Int)→Bool
 |[]=>true
 |y::t=>(!(decide (y.1=2)&&t.any (fun x=>decide (x.2=y.2))))&&aheadB t
theorem ahead_cons{y:Int×Int}{t:List (Int×Int)}:ahead (y::t)↔(y.1=2→∀x∈t,x.2≠y.2)∧ahead t:=by
 constructor
 ·intro h
  refine ⟨fun hy x hx e=>?_,fun i k x z hk hx hz=>h (i+1) (k+1) x z (by omega) (by simpa using hx) (by simpa using hz)⟩
  obtain ⟨i,hi⟩:=List.getElem?_of_mem hx
  exact h (i+1) 0 x y (by omega) (by simpa using hi) rfl ⟨e,hy⟩
 ·rintro ⟨h1,h2⟩ i k x z hk hx hz
  cases i with
  |zero=>omega
  |succ i=>
   have hx':t[i]?=some x:=by simpa using hx
   cases k with
   |zero=>
    have hz':y=z:=by simpa using hz
    subst hz'
    exact fun e=>h1 e.2 x (List.mem_of_getElem? hx') e.1
   |succ k=>exact h2 i k x z (by omega) hx' (by simpa using hz)
theorem aheadB_iff:∀{l:List (Int×Int)},aheadB l=true↔ahead l
 |[]=>by simp[aheadB,ahead]
 |x::t=>by
  rw[ahead_cons,←aheadB_iff (l:=t)]
  by_cases h:x.1=2<;>simp[aheadB,h]
def actsE (l:List (Int×Int)) (m:Int):Int:=if ¬(l.all (okAB m)=true) then 1 else if ¬(apartB l=true) then 8 else if (l.length:Int)<2*m then 2 else if ¬(aheadB l=true) then 5 else 0
theorem allB_iff{l:List (Int×Int)}{m:Int}:l.all (okAB m)=true↔∀x∈l,okA m x:=by
 rw[List.all_eq_true];exact ⟨fun h x hx=>okAB_iff.1 (h x hx),fun h x hx=>okAB_iff.2 (h x hx)⟩
theorem actsE_one{l:List (Int×Int)}{m:Int}{i:Nat}{x:Int×Int}(h:l[i]?=some x)(hx:¬okA m x):1=actsE l m:=by
 unfold actsE;rw[if_pos];exact fun e=>hx (allB_iff.1 e x (List.mem_of_getElem? h))
theorem all_okA{l:List (Int×Int)}{m:Int}(h:∀i x,i<l.length→l[i]?=some x→okA m x):∀x∈l,okA m x:=fun x hx=>by
 obtain ⟨i,hi,rfl⟩:=List.getElem_of_mem hx
 exact h i _ hi (List.getElem?_eq_getElem hi)
theorem actsE_two{l:List (Int×Int)}{m:Int}(h:∀x∈l,okA m x)(h2:¬apart l):8=actsE l m:=by unfold actsE;rw[if_neg (fun e=>e (allB_iff.2 h)),if_pos (fun e=>h2 (apartB_iff.1 e))]
theorem actsE_less{l:List (Int×Int)}{m:Int}(h:∀x∈l,okA m x)(h2:apart l)(h3:(l.length:Int)<2*m):2=actsE l m:=by unfold actsE;rw[if_neg (fun e=>e (allB_iff.2 h)),if_neg (fun e=>e (apartB_iff.2 h2)),if_pos h3]
theorem actsE_back{l:List (Int×Int)}{m:Int}(h:∀x∈l,okA m x)(h2:apart l)(h3:¬(l.length:Int)<2*m)(h4:¬ahead l):5=actsE l m:=by unfold actsE;rw[if_neg (fun e=>e (allB_iff.2 h)),if_neg (fun e=>e (apartB_iff.2 h2)),if_neg h3,if_pos (fun e=>h4 (aheadB_iff.1 e))]
theorem actsE_ok{l:List (Int×Int)}{m:Int}(h:∀x∈l,okA m x)(h2:apart l)(h3:¬(l.length:Int)<2*m)(h4:ahead l):0=actsE l m:=by unfold actsE;rw[if_neg (fun e=>e (allB_iff.2 h)),if_neg (fun e=>e (apartB_iff.2 h2)),if_neg h3,if_neg (fun e=>e (aheadB_iff.2 h4))]
theorem actsE_in{l:List (Int×Int)}{m:Int}(h:actsE l m=0):(∀x∈l,okA m x)∧apart l∧¬(l.length:Int)<2*m∧ahead l:=by
 unfold actsE at h
 by_cases c1:l.all (okAB m)=true
 ·rw[if_neg (fun e=>e c1)]at h
  by_cases c2:apartB l=true
  ·rw[if_neg (fun e=>e c2)]at h
   by_cases c3:(l.length:Int)<2*m
   ·rw[if_pos c3]at h;cases h
   ·rw[if_neg c3]at h
    by_cases c4:aheadB l=true
    ·exact ⟨allB_iff.1 c1,apartB_iff.1 c2,c3,aheadB_iff.1 c4⟩
    ·rw[if_pos c4]at h;cases h
  ·rw[if_pos c2]at h;cases h
 ·rw[if_pos c1]at h;cases h
def codeA (m:Nat) (x:Int×Int):Nat:=(x.1.toNat - 1)*m+x.2.toNat
theorem codeA_lt{m:Nat}{x:Int×Int}(h:okA (m:Int) x):codeA m x<2*m:=by
 obtain ⟨h1,h2,h3,h4⟩:=h
 unfold codeA
 have:x.1.toNat - 1=0∨x.1.toNat - 1=1:=by omega
 rcases this with e|e<;>rw[e]<;>omega
theorem codeA_inj{m:Nat}{x y:Int×Int}(h:okA (m:Int) x)(k:okA (m:Int) y)(e:codeA m x=codeA m y):x=y:=by
 obtain ⟨h1,h2,h3,h4⟩:=h
 obtain ⟨k1,k2,k3,k4⟩:=k
 unfold codeA at e
 have a1:x.1.toNat - 1=0∨x.1.toNat - 1=1:=by omega
 have a2:y.1.toNat - 1=0∨y.1.toNat - 1=1:=by omega
 have:x.1=y.1∧x.2=y.2:=by
  rcases a1 with e1|e1<;>rcases a2 with e2|e2<;>rw[e1,e2]at e<;>omega
 exact Prod.ext this.1 this.2
theorem split_len(n:Nat)(l:List Nat):l.length=(l.filter (·≠n)).length+l.count n:=by
 induction l with
 |nil=>rfl
 |cons x l ih=>
  by_cases h:x=n
  ·subst h;simp at ih ⊢;omega
  ·rw[List.count_cons_of_ne (fun e=>h e),List.filter_cons_of_pos (by simpa using h)]
   simp at ih ⊢;omega
theorem few_nats:∀(n:Nat) (l:List Nat),l.Nodup→(∀x∈l,x<n)→l.length≤n
 |0,l,_,h=>by
  cases l with
  |nil=>simp
  |cons x l=>exact absurd (h x (by simp)) (by omega)
 |n+1,l,hd,h=>by
  have h1:(l.filter (·≠n)).length≤n:=few_nats n _ (hd.filter _) (fun x hx=>by
   have:=h x (List.mem_filter.1 hx).1
   have h2:x≠n:=by simpa using (List.mem_filter.1 hx).2
   omega)
  have h2:=split_len n l
  have h3:l.count n≤1:=List.nodup_iff_count.1 hd n
  omega
theorem apart_nodup{l:List (Int×Int)}(h:apart l):l.Nodup:=by
 rw[List.nodup_iff_pairwise_ne,List.pairwise_iff_getElem]
 intro i j hi hj hij e
 exact h j i _ _ hij (List.getElem?_eq_getElem hj) (List.getElem?_eq_getElem hi) e.symm
theorem acts_len{l:List (Int×Int)}{m:Nat}(h:∀x∈l,okA (m:Int) x)(h2:apart l):l.length≤2*m:=by
 have:=few_nats (2*m) (l.map (codeA m)) (by
  have hd:=apart_nodup h2
  rw[List.nodup_iff_pairwise_ne,List.pairwise_map]
  rw[List.nodup_iff_pairwise_ne]at hd
  exact List.Pairwise.imp_of_mem (fun hx hy hne e=>hne (codeA_inj (h _ hx) (h _ hy) e)) hd) (fun x hx=>by
  obtain ⟨y,hy,rfl⟩:=List.mem_map.1 hx
  exact codeA_lt (h y hy))
 simpa using this
theorem act_in{l:List (Int×Int)}{m:Nat}(h:∀x∈l,okA (m:Int) x)(h2:apart l)(h3:¬(l.length:Int)<2*(m:Int)){x:Int×Int}(hx:okA (m:Int) x):x∈l:=by
 rcases Classical.em (x∈l) with q|q
 ·exact q
 ·have:=acts_len (l:=x::l) (m:=m) (fun y hy=>by
   rcases List.mem_cons.1 hy with rfl|hy
   ·exact hx
   ·exact h y hy) (apart_cons.2 ⟨q,h2⟩)
  simp at this
  omega
end Go.Proofs.YtpniemnfdleiialGreat
