/- The small functions of package plan: has, add, forward, backward, isAct, checkNumbers. -/
import Derived.Test.YtpniemnfdleiialGreatPkPlC
import Derived.Test.YtpniemnfdleiialGreatPkFix
import Derived.Test.YtpniemnfdleiialGreatPkPlB
namespace Go.Proofs.YtpniemnfdleiialGreat
open Go.RowKit
set_option maxHeartbeats 1600000 in
set_option maxRecDepth 100000 in
theorem has_any(b:Nat)(s k m:Int)(L:List (Int×Int×Int))(w:World)(hd:Deeds w b L)(hok:okD (s,k,m)):Calls Tryz.prog 109 #[.map (some b),.agg #[.int .i64 s,.int .i64 k,.int .i64 m]] w fun e w'=>e=.returned (.bool (decide ((s,k,m)∈L)))∧Below w.heap.size w w':=by
 have hrun:=(hd.u_ (o_ w (.cells #[.int .i64 s,.int .i64 k,.int .i64 m] 184))).look hok true
 rw[if_pos rfl]at hrun
 unfold keyD at hrun
 dsimp only at hrun
 obtain ⟨p,hp⟩:=gN (posD (s,k,m) L)
 obtain ⟨q,hq⟩:=gN (decide ((s,k,m)∈L))
 rw[hp,hq]at hrun
 rw[hq]
 clear hp hq hd hok
 go_enter Tryz.func109,Tryz.ntmps109
 go_wp2
 go_ret
 exact ⟨rfl,o_ _ _⟩
set_option maxHeartbeats 1600000 in
set_option maxRecDepth 100000 in
theorem dadd_any(b:Nat)(s k m:Int)(L:List (Int×Int×Int))(w:World)(hd:Deeds w b L)(hok:okD (s,k,m))(hn:(s,k,m) ∉ L):Calls Tryz.prog 110 #[.map (some b),.agg #[.int .i64 s,.int .i64 k,.int .i64 m]] w fun e w'=>e=.returned (.tuple #[])∧Deeds w' b (L++[(s,k,m)])∧w.grownBy w' (some b):=by
 have h1:=hd.u_ (o_ w (.cells #[.int .i64 s,.int .i64 k,.int .i64 m] 184))
 have hlen:=h1.len 3
 obtain ⟨w1,hrun,h2,hg⟩:=h1.add hok hn
 have HR:=h_ (And.intro h2 ((World.grownBy_alloc w (.cells #[.int .i64 s,.int .i64 k,.int .i64 m] 184) (some b)).trans hg))
 unfold keyD at hrun
 dsimp only at hrun
 obtain ⟨n,hn⟩:=gN ((L.length:Int))
 rw[hn]at hlen hrun
 clear hn hd hok h1 h2 hg
 go_enter Tryz.func110,Tryz.ntmps110
 go_wp2
 go_end0
 exact ⟨rfl,HR.out.1,HR.out.2⟩
set_option maxRecDepth 100000 in
theorem fwd_any(m:Int)(w:World):Calls Tryz.prog 93 #[.int .i64 m] w fun e w'=>e=.returned (.agg #[.int .i64 1,.int .i64 m])∧Below w.heap.size w w':=by
 go_enter Tryz.func93,Tryz.ntmps93
 go_wp2
 exact bodyPost_ret (v:=.agg #[.int .i64 1,.int .i64 m]) (by simp[results,Tryz.results93,go_sem]) rfl ⟨rfl,o_ _ _⟩
set_option maxRecDepth 100000 in
theorem bwd_any(m:Int)(w:World):Calls Tryz.prog 94 #[.int .i64 m] w fun e w'=>e=.returned (.agg #[.int .i64 2,.int .i64 m])∧Below w.heap.size w w':=by
 go_enter Tryz.func94,Tryz.ntmps94
 go_wp2
 exact bodyPost_ret (v:=.agg #[.int .i64 2,.int .i64 m]) (by simp[results,Tryz.results94,go_sem]) rfl ⟨rfl,o_ _ _⟩
set_option maxHeartbeats 1600000 in
set_option maxRecDepth 100000 in
theorem isact_any(k m n:Int)(w:World):Calls Tryz.prog 108 #[.agg #[.int .i64 k,.int .i64 m],.int .i64 n] w fun e w'=>e=.returned (.bool (okAB n (k,m)))∧Below w.heap.size w w':=by
 by_cases e1:k=1
 ·by_cases e2:0≤m
  ·have HA:=h_ (show decide (m<n)=okAB n (k,m) by simp[okAB,e1,e2])
   subst e1
   go_enter Tryz.func108,Tryz.ntmps108
   go_wp2
   go_ret
   exact ⟨ret_bool HA.out,o_ _ _⟩
  ·have HA:=h_ (show false=okAB n (k,m) by simp[okAB,e1,e2])
   subst e1
   go_enter Tryz.func108,Tryz.ntmps108
   go_wp2
   go_ret
   exact ⟨ret_bool HA.out,o_ _ _⟩
 ·by_cases e3:k=2
  ·by_cases e2:0≤m
   ·have HA:=h_ (show decide (m<n)=okAB n (k,m) by simp[okAB,e3,e2])
    subst e3
    go_enter Tryz.func108,Tryz.ntmps108
    go_wp2
    go_ret
    exact ⟨ret_bool HA.out,o_ _ _⟩
   ·have HA:=h_ (show false=okAB n (k,m) by simp[okAB,e3,e2])
    subst e3
    go_enter Tryz.func108,Tryz.ntmps108
    go_wp2
    go_ret
    exact ⟨ret_bool HA.out,o_ _ _⟩
  ·have HA:=h_ (show false=okAB n (k,m) by
    rw[eq_comm,Bool.eq_false_iff]
    intro h
    obtain ⟨h1,h2,_⟩:=okAB_iff.1 h
    dsimp only at h1 h2
    omega)
   have n1:(k !=1)=true:=by simpa using e1
   have n2:(k !=2)=true:=by simpa using e3
   clear e1 e3
   go_enter Tryz.func108,Tryz.ntmps108
   go_wp2
   go_ret
   exact ⟨ret_bool HA.out,o_ _ _⟩
def numE (s m:Int):Int:=if m<1∨12<m∨s<1∨6<s then 1 else 0
set_option maxHeartbeats 1600000 in
set_option maxRecDepth 100000 in
theorem numbers_any(s m:Int)(w:World):Calls Tryz.prog 72 #[.int .i64 s,.int .i64 m] w fun e w'=>e=.returned (errV (numE s m))∧w'=w:=by
 by_cases c1:m<1∨12<m∨s<1∨6<s
 ·have HA:=h_ (show 1=numE s m by unfold numE;rw[if_pos c1])
  go_enter Tryz.func72,Tryz.ntmps72
  by_cases d1:m<1
  ·clear c1
   go_wp2
   go_ret
   exact ⟨R_ (err_of HA.out (by decide)),rfl⟩
  ·by_cases d2:12<m
   ·clear c1
    go_wp2
    go_ret
    exact ⟨R_ (err_of HA.out (by decide)),rfl⟩
   ·by_cases d3:s<1
    ·clear c1
     go_wp2
     go_ret
     exact ⟨R_ (err_of HA.out (by decide)),rfl⟩
    ·have d4:6<s:=by omega
     clear c1
     go_wp2
     go_ret
     exact ⟨R_ (err_of HA.out (by decide)),rfl⟩
 ·have HA:=h_ (show 0=numE s m by unfold numE;rw[if_neg c1])
  have d1:¬m<1:=by omega
  have d2:¬12<m:=by omega
  have d3:¬s<1:=by omega
  have d4:¬6<s:=by omega
  clear c1
  go_enter Tryz.func72,Tryz.ntmps72
  go_wp2
  go_ret
  exact ⟨R_ (err_no HA.out),rfl⟩
theorem grow_of{w w':World}(hb:Below w.heap.size w w')(r:Option Nat):w.grownBy w' r:=⟨hb.os,hb.tape,hb.output,hb.size,fun k hk _=>hb.block k hk⟩
theorem pn_drew{V u:World}(h:Below V.heap.size V u):Below V.heap.size V u.drew:=r_ h
theorem pn_drewN{V u:World}{n:Nat}(h:Below V.heap.size V u):Below V.heap.size V (u.drewN n):=⟨h.os,h.tape,h.output,h.size,h.block⟩
theorem pn_new3(V:World)(x y z:Value)(t:TypeId){W:World}(hb:Below (V.alloc (.cells #[x,y,z] t)).heap.size (V.alloc (.cells #[x,y,z] t)) W){B:Nat}(hB:V.heap.size=B):W.cell? ⟨B,0,none⟩=some x∧W.cell? ⟨B,1,none⟩=some y∧W.cell? ⟨B,2,none⟩=some z:=by
 subst hB
 exact ⟨cell_bel hb (by simp),cell_bel hb (by simp),cell_bel hb (by simp)⟩
theorem Deeds.apart{w:World}{b:Nat}{L:List (Int×Int×Int)}(h:Deeds w b L){p:Addr}{v:Value}(hc:w.cell? p=some v):some p.block≠some b:=by
 intro e
 have e:=Option.some.inj e
 obtain ⟨es,clock,hb,_⟩:=h
 rw[←e]at hb
 simp[World.cell?,hb]at hc
theorem cell_grow{w w':World}{b:Nat}{L:List (Int×Int×Int)}(h:Deeds w b L)(hg:w.grownBy w' (some b)){p:Addr}{v:Value}(hc:w.cell? p=some v):w'.cell? p=some v:=hg.cell hc (h.apart hc)
theorem IsActs.deeds{w w':World}{v:Value}{l:List (Int×Int)}{b:Nat}{L:List (Int×Int×Int)}(h:IsActs w v l)(hd:Deeds w b L)(hg:w.grownBy w' (some b)):IsActs w' v l:=by
 obtain ⟨a,cap,h1,h2,h3,h4⟩:=h
 refine ⟨a,cap,h1,h2,h3,h4.imp id ?_⟩
 rintro ⟨b',off,ha,hc⟩
 exact ⟨b',off,ha,fun i x hx=>⟨cell_grow hd hg (hc i x hx).1,cell_grow hd hg (hc i x hx).2⟩⟩
def deedsOf (s:Int) (l:List (Int×Int)):List (Int×Int×Int):=l.map (fun a=>(s,a))
theorem mem_deedsOf{s:Int}{l:List (Int×Int)}{a:Int×Int}:(s,a)∈deedsOf s l↔a∈l:=by
 unfold deedsOf
 rw[List.mem_map]
 constructor
 ·rintro ⟨x,hx,e⟩
  rw[←(Prod.mk.inj e).2];exact hx
 ·exact fun h=>⟨a,h,rfl⟩
theorem mem_deeds{s:Int}{L:List (Int×Int×Int)}{l:List (Int×Int)}{a:Int×Int}(hL:∀d∈L,d.1≠s):(s,a)∈L++deedsOf s l↔a∈l:=by
 rw[List.mem_append,mem_deedsOf]
 constructor
 ·rintro (h|h)
  ·exact absurd rfl (hL _ h)
  ·exact h
 ·exact fun h=>.inr h
theorem take_snoc{l:List (Int×Int)}{k:Nat}{x:Int×Int}(h:l[k]?=some x):l.take (k+1)=l.take k++[x]:=by
 rw[List.take_add_one,h];rfl
theorem deeds_snoc{s:Int}{L:List (Int×Int×Int)}{l:List (Int×Int)}{k:Nat}{x:Int×Int}(h:l[k]?=some x):L++deedsOf s (l.take (k+1))=L++deedsOf s (l.take k)++[(s,x)]:=by
 rw[take_snoc h];simp[deedsOf]
theorem deeds_apart{s:Int}{L:List (Int×Int×Int)}{l:List (Int×Int)}(h:(L++deedsOf s l).Nodup):apart l:=by
 have h2:(deedsOf s l).Nodup:=(List.nodup_append.1 h).2.1
 intro i k x y hk hx hy e
 subst e
 have a1:(deedsOf s l)[i]?=some (s,x):=by simp[deedsOf,hx]
 have a2:(deedsOf s l)[k]?=some (s,x):=by simp[deedsOf,hy]
 have:=idx_at h2 a1
 have:=idx_at h2 a2
 omega
theorem not_apart{l:List (Int×Int)}{k:Nat}{x:Int×Int}(h:l[k]?=some x)(hm:x∈l.take k):¬apart l:=by
 intro ha
 obtain ⟨i,hi⟩:=List.getElem?_of_mem hm
 have hlt:i<k:=by
  have:=(List.getElem?_eq_some_iff.1 hi).1
  rw[List.length_take]at this
  omega
 rw[List.getElem?_take,if_pos hlt]at hi
 exact ha k i x x hlt h hi rfl
theorem pos_deeds{s:Int}{L:List (Int×Int×Int)}{l:List (Int×Int)}(h:(L++deedsOf s l).Nodup){i:Nat}{x:Int×Int}(hx:l[i]?=some x):posD (s,x) (L++deedsOf s l)=((L.length+i:Nat):Int):=
 posD_at h (by rw[List.getElem?_append_right (by omega)];simp[deedsOf,hx])
theorem back_first{s:Int}{L:List (Int×Int×Int)}{l:List (Int×Int)}{m:Nat}(h:∀x∈l,okA (m:Int) x)(h2:(L++deedsOf s l).Nodup)(h3:¬(l.length:Int)<2*(m:Int)){p:Nat}(hp:p<m)
  (hlt:posD (s,2,(p:Int)) (L++deedsOf s l)<posD (s,1,(p:Int)) (L++deedsOf s l)):¬ahead l:=by
 have ha:=deeds_apart h2
 obtain ⟨i,hi⟩:=List.getElem?_of_mem (act_in h ha h3 (x:=(1,(p:Int))) ⟨Int.le_refl 1,show (1:Int)≤2 by decide,Int.natCast_nonneg p,by show (p:Int)<m;omega⟩)
 obtain ⟨k,hk⟩:=List.getElem?_of_mem (act_in h ha h3 (x:=(2,(p:Int))) ⟨show (1:Int)≤2 by decide,Int.le_refl 2,Int.natCast_nonneg p,by show (p:Int)<m;omega⟩)
 rw[pos_deeds h2 hi,pos_deeds h2 hk]at hlt
 exact fun hq=>hq i k _ _ (by omega) hi hk ⟨rfl,rfl⟩
theorem all_ahead{s:Int}{L:List (Int×Int×Int)}{l:List (Int×Int)}{m:Nat}(h:∀x∈l,okA (m:Int) x)(h2:(L++deedsOf s l).Nodup)
  (hq:∀p:Nat,p<m→¬posD (s,2,(p:Int)) (L++deedsOf s l)<posD (s,1,(p:Int)) (L++deedsOf s l)):ahead l:=by
 have ha:=deeds_apart h2
 rintro i k ⟨xk,xm⟩ ⟨yk,ym⟩ hki hx hy ⟨e1,e2⟩
 dsimp only at e1 e2
 subst e1 e2
 obtain ⟨q1,q2,q3,q4⟩:=h _ (List.mem_of_getElem? hx)
 dsimp only at q1 q2 q3 q4
 obtain ⟨p,rfl⟩:∃p:Nat,xm=(p:Int):=⟨xm.toNat,by omega⟩
 have:xk=1∨xk=2:=by omega
 rcases this with rfl|rfl
 ·have:=hq p (by omega)
  rw[pos_deeds h2 hx,pos_deeds h2 hy]at this
  omega
 ·exact ha i k _ _ hki hx hy rfl
end Go.Proofs.YtpniemnfdleiialGreat
/- When what is done: the times of a plan as plain data; there is just one such table; how the document's answer comes to it. No program in sight. -/
namespace Go.Proofs.YtpniemnfdleiialGreat
def lngA (th bk:List Int) (s:Nat) (a:Int×Int):Int:=if a.1=2 then (bk[s]?).getD 0 else (th[s]?).getD 0
def toT (T:List (List (Int×Int))) (s i:Nat):Int:=(((stA T s)[i]?).getD (0,0)).2
def depK (a:Int×Int) (s n:Nat):Option Nat:=if a.1=2 then (if s+1<n then some (s+1) else none) else (if s=0 then none else some (s - 1))
def prevT (T:List (List (Int×Int))) (s i:Nat):Int:=if i=0 then 0 else toT T s (i - 1)
def fromT (p T:List (List (Int×Int))) (s i:Nat) (a:Int×Int):Int:=
 match depK a s p.length with
 |none=>prevT T s i
 |some k=>if prevT T s i<toT T k (whr a (stA p k)).toNat then toT T k (whr a (stA p k)).toNat else prevT T s i
def newT (p:List (List (Int×Int))) (th bk:List Int) (T:List (List (Int×Int))) (s i:Nat) (a:Int×Int):Int×Int:=(fromT p T s i a,fromT p T s i a+lngA th bk s a)
def EqAt (p:List (List (Int×Int))) (th bk:List Int) (T:List (List (Int×Int))) (s i:Nat):Prop:=∀a,(stA p s)[i]?=some a→(stA T s)[i]?=some (newT p th bk T s i a)
def Shp (p T:List (List (Int×Int))):Prop:=T.length=p.length∧∀s,s<p.length→(stA T s).length=(stA p s).length
def IsTm (p:List (List (Int×Int))) (th bk:List Int) (T:List (List (Int×Int))):Prop:=Shp p T∧∀s,s<p.length→∀i,EqAt p th bk T s i
theorem depK_nb{a:Int×Int}{s n k:Nat}(hs:s<n):depK a s n=some k↔k<n∧nbA a s k:=by
 unfold depK nbA
 by_cases c:a.1=2
 ·rw[if_pos c]
  by_cases d:s+1<n
  ·rw[if_pos d]
   constructor
   ·intro e;have:=Option.some.inj e;exact ⟨by omega,.inl ⟨c,this.symm⟩⟩
   ·rintro ⟨_,⟨_,e⟩|⟨e,_⟩⟩
    ·rw[e]
    ·exact absurd c e
  ·rw[if_neg d]
   constructor
   ·intro e;cases e
   ·rintro ⟨h,⟨_,e⟩|⟨e,_⟩⟩
    ·omega
    ·exact absurd c e
 ·rw[if_neg c]
  by_cases d:s=0
  ·rw[if_pos d]
   constructor
   ·intro e;cases e
   ·rintro ⟨_,⟨e,_⟩|⟨_,e⟩⟩
    ·exact absurd e c
    ·omega
  ·rw[if_neg d]
   constructor
   ·intro e;have:=Option.some.inj e;exact ⟨by omega,.inr ⟨c,by omega⟩⟩
   ·rintro ⟨_,⟨e,_⟩|⟨_,e⟩⟩
    ·exact absurd e c
    ·rw[show s - 1=k by omega]
def AllIn (p:List (List (Int×Int))):Prop:=∀s k,s<p.length→k<p.length→∀a,a∈stA p s→0≤whr a (stA p k)
theorem new_same{p:List (List (Int×Int))}{th bk:List Int}{T T':List (List (Int×Int))}{g:List Nat}{s i:Nat}{a:Int×Int}(hin:AllIn p)(hs:s<p.length)(ha:(stA p s)[i]?=some a)(hi:i≤atN g s)
  (hd:∀k,k<p.length→nbA a s k→whr a (stA p k)<(atN g k:Int)) (hsame:∀k j,k<p.length→j<atN g k→(stA T k)[j]?=(stA T' k)[j]?):newT p th bk T s i a=newT p th bk T' s i a:=by
 have hp:prevT T s i=prevT T' s i:=by
  unfold prevT
  by_cases c:i=0
  ·rw[if_pos c,if_pos c]
  ·rw[if_neg c,if_neg c]
   unfold toT
   rw[hsame s (i - 1) hs (by omega)]
 have hf:fromT p T s i a=fromT p T' s i a:=by
  unfold fromT
  cases h:depK a s p.length with
  |none=>exact hp
  |some k=>
   obtain ⟨hk,hn⟩:=(depK_nb hs).1 h
   have h1:=hd k hk hn
   have h2:=hin s k hs hk a (List.mem_of_getElem? ha)
   have:toT T k (whr a (stA p k)).toNat=toT T' k (whr a (stA p k)).toNat:=by
    unfold toT
    rw[hsame k _ hk (by omega)]
   dsimp only
   rw[hp,this]
 unfold newT
 rw[hf]
theorem und_full{p:List (List (Int×Int))}(h:doneB p=true){g:List Nat}(hg:Closed p g){s:Nat}(hs:s<p.length):(stA p s).length≤atN g s:=by
 obtain ⟨k1,k2⟩:=fin_ok (p:=p) (n:=sumN (lens p) p.length) (f:=zeroN p) (by simp[zeroN]) (und_zero p) (fun s _=>by rw[zeroN_at];omega) (by omega)
 have:=(done_iff k1 k2).1 h s hs
 have:=k1 g hg s hs
 omega
def GoodT (p:List (List (Int×Int))) (th bk:List Int) (T:List (List (Int×Int))) (g:List Nat):Prop:=
 (g.length=p.length∧∀s,s<p.length→atN g s≤(stA p s).length)∧∀s,s<p.length→∀i a,i<atN g s→(stA p s)[i]?=some a→(stA T s)[i]?=some (newT p th bk T s i a)∧∀k,k<p.length→nbA a s k→whr a (stA p k)<(atN g k:Int)
theorem good_all{p:List (List (Int×Int))}{th bk:List Int}{T:List (List (Int×Int))}{g:List Nat}(h:GoodT p th bk T g)(hf:∀s,s<p.length→(stA p s).length≤atN g s){s:Nat}(hs:s<p.length)(i:Nat):EqAt p th bk T s i:=fun a ha=>by
 have:=(List.getElem?_eq_some_iff.1 ha).1
 exact (h.2 s hs i a (by have:=hf s hs;omega) ha).1
end Go.Proofs.YtpniemnfdleiialGreat
/- One round of all acts, as the document's answer makes it: plain data. -/
namespace Go.Proofs.YtpniemnfdleiialGreat
def Costs (p:List (List (Int×Int))) (th bk:List Int):Prop:=∀s,s<p.length→∀a,1≤lngA th bk s a∧lngA th bk s a≤1000000
def BdT (T:List (List (Int×Int))) (B:Int):Prop:=0≤B∧∀(t j:Nat) (x:Int×Int),(stA T t)[j]?=some x→0≤x.1∧x.1≤x.2∧x.2≤B
theorem BdT.to{T:List (List (Int×Int))}{B:Int}(h:BdT T B)(s i:Nat):0≤toT T s i∧toT T s i≤B:=by
 unfold toT
 cases e:(stA T s)[i]? with
 |none=>exact ⟨Int.le_refl 0,h.1⟩
 |some x=>obtain ⟨h1,h2,h3⟩:=h.2 s i x e;exact ⟨by show 0≤x.2;omega,h3⟩
theorem BdT.from_{p T:List (List (Int×Int))}{B:Int}(h:BdT T B)(s i:Nat)(a:Int×Int):0≤fromT p T s i a∧fromT p T s i a≤B:=by
 have hp:0≤prevT T s i∧prevT T s i≤B:=by
  unfold prevT
  split
  ·exact ⟨Int.le_refl 0,h.1⟩
  ·exact h.to _ _
 unfold fromT
 split
 ·exact hp
 ·split
  ·exact h.to _ _
  ·exact hp
theorem BdT.mono{T:List (List (Int×Int))}{B C:Int}(h:BdT T B)(hc:B≤C):BdT T C:=⟨by have:=h.1;omega,fun t j x hx=>by have:=h.2 t j x hx;omega⟩
theorem good_sum{p:List (List (Int×Int))}{th bk:List Int}{T:List (List (Int×Int))}{g:List Nat}(h:GoodT p th bk T g):sumN g p.length≤sumN (lens p) p.length:=sumN_le (fun s hs=>by rw[lens_at];exact h.1.2 s hs)
end Go.Proofs.YtpniemnfdleiialGreat
/- What all acts of a stage take; no plan is shorter than its dearest stage. No program in sight. -/
namespace Go.Proofs.YtpniemnfdleiialGreat
def durS (x y:Int):List (Int×Int)→Int
 |[]=>0
 |a::t=>(if a.1=2 then y else x)+durS x y t
theorem durS_app(x y:Int):∀l k,durS x y (l++k)=durS x y l+durS x y k
 |[],k=>by simp[durS]
 |a::t,k=>by
  have:=durS_app x y t k
  simp only[List.cons_append,durS]
  omega
theorem durS_cnt(x y:Int):∀l:List (Int×Int),durS x y l=((l.filter (fun a=>!decide (a.1=2))).length:Int)*x+((l.filter (fun a=>decide (a.1=2))).length:Int)*y
 |[]=>by simp[durS]
 |a::t=>by
  have:=durS_cnt x y t
  unfold durS
  rw[this]
  by_cases c:a.1=2
  ·rw[if_pos c,List.filter_cons_of_neg (by simp[c]),List.filter_cons_of_pos (by simp[c]),List.length_cons]
   rw[show (((t.filter (fun a=>decide (a.1=2))).length+1:Nat):Int)=((t.filter (fun a=>decide (a.1=2))).length:Int)+1 by omega,Int.add_mul]
   omega
  ·rw[if_neg c,List.filter_cons_of_pos (by simp[c]),List.filter_cons_of_neg (by simp[c]),List.length_cons]
   rw[show (((t.filter (fun a=>!decide (a.1=2))).length+1:Nat):Int)=((t.filter (fun a=>!decide (a.1=2))).length:Int)+1 by omega,Int.add_mul]
   omega
theorem cntA_le{l:List (Int×Int)}{m:Nat}(h:∀x∈l,okA (m:Int) x)(hd:l.Nodup)(q:(Int×Int)→Bool)(hq:∀x y,x∈l→y∈l→q x=true→q y=true→x.2=y.2→x=y):(l.filter q).length≤m:=by
 have:=few_nats m ((l.filter q).map (fun x=>x.2.toNat)) (by
  have hd2:(l.filter q).Nodup:=hd.filter _
  rw[List.nodup_iff_pairwise_ne,List.pairwise_map]
  rw[List.nodup_iff_pairwise_ne]at hd2
  refine List.Pairwise.imp_of_mem (fun {a b} ha hb hne e=>hne ?_) hd2
  obtain ⟨a1,a2⟩:=List.mem_filter.1 ha
  obtain ⟨b1,b2⟩:=List.mem_filter.1 hb
  obtain ⟨_,_,r1,_⟩:=h a a1
  obtain ⟨_,_,r2,_⟩:=h b b1
  exact hq a b a1 b1 a2 b2 (by omega)) (fun x hx=>by
  obtain ⟨y,hy,rfl⟩:=List.mem_map.1 hx
  obtain ⟨_,_,r1,r2⟩:=h y (List.mem_filter.1 hy).1
  omega)
 simpa using this
theorem filter_two(l:List (Int×Int))(q:(Int×Int)→Bool):(l.filter q).length+(l.filter (fun a=>!q a)).length=l.length:=by
 induction l with
 |nil=>rfl
 |cons a t ih=>
  cases c:q a
  ·rw[List.filter_cons_of_neg (by simp[c]),List.filter_cons_of_pos (by simp[c])];simp;omega
  ·rw[List.filter_cons_of_pos c,List.filter_cons_of_neg (by simp[c])];simp;omega
theorem dur_all{l:List (Int×Int)}{m:Nat}(h:∀x∈l,okA (m:Int) x)(h2:apart l)(h3:l.length=2*m)(x y:Int):durS x y l=(m:Int)*(x+y):=by
 have hd:=apart_nodup h2
 have c2:=cntA_le h hd (fun a=>decide (a.1=2)) (fun a b ha hb qa qb e=>by
  simp at qa qb
  exact Prod.ext (by rw[qa,qb]) e)
 have c1:=cntA_le h hd (fun a=>!decide (a.1=2)) (fun a b ha hb qa qb e=>by
  simp at qa qb
  obtain ⟨a1,a2,_⟩:=h a ha
  obtain ⟨b1,b2,_⟩:=h b hb
  exact Prod.ext (by omega) e)
 have:=filter_two l (fun a=>decide (a.1=2))
 rw[durS_cnt,show (l.filter (fun a=>!decide (a.1=2))).length=m by omega,show (l.filter (fun a=>decide (a.1=2))).length=m by omega,Int.mul_add]
theorem from_prev(p T:List (List (Int×Int)))(s i:Nat)(a:Int×Int):prevT T s i≤fromT p T s i a:=by
 unfold fromT
 split
 ·exact Int.le_refl _
 ·split<;>omega
theorem tm_at{p:List (List (Int×Int))}{th bk:List Int}{T:List (List (Int×Int))}(h:IsTm p th bk T){s i:Nat}(hs:s<p.length){a:Int×Int}(ha:(stA p s)[i]?=some a):(stA T s)[i]?=some (fromT p T s i a,fromT p T s i a+lngA th bk s a):=h.2 s hs i a ha
theorem tm_to{p:List (List (Int×Int))}{th bk:List Int}{T:List (List (Int×Int))}(h:IsTm p th bk T){s i:Nat}(hs:s<p.length){a:Int×Int}(ha:(stA p s)[i]?=some a):toT T s i=fromT p T s i a+lngA th bk s a:=by unfold toT;rw[tm_at h hs ha];rfl
theorem to_sum{p:List (List (Int×Int))}{th bk:List Int}{T:List (List (Int×Int))}(h:IsTm p th bk T){s:Nat}(hs:s<p.length):∀(i:Nat) (a:Int×Int),(stA p s)[i]?=some a→durS ((th[s]?).getD 0) ((bk[s]?).getD 0) ((stA p s).take (i+1))≤toT T s i
 |0,a,ha=>by
  rw[tm_to h hs ha,List.take_add_one,ha,List.take_zero]
  have:=from_prev p T s 0 a
  have e:prevT T s 0=0:=rfl
  rw[e]at this
  show durS _ _ [a]≤_
  unfold durS durS lngA
  omega
 |i+1,a,ha=>by
  have hi:i<(stA p s).length:=by have:=(List.getElem?_eq_some_iff.1 ha).1;omega
  have ih:=to_sum h hs i (stA p s)[i] (List.getElem?_eq_getElem hi)
  rw[tm_to h hs ha,List.take_add_one,ha,durS_app]
  have:=from_prev p T s (i+1) a
  have e:prevT T s (i+1)=toT T s i:=rfl
  rw[e]at this
  have e2:durS ((th[s]?).getD 0) ((bk[s]?).getD 0) (some a).toList=lngA th bk s a:=by
   show durS _ _ [a]=_
   unfold durS durS lngA
   omega
  rw[e2]
  omega
theorem last_ge{p:List (List (Int×Int))}{th bk:List Int}{T:List (List (Int×Int))}{m:Nat}(h:IsTm p th bk T){s:Nat}(hs:s<p.length)(hm:1≤m)(hok:∀x∈stA p s,okA (m:Int) x)(hap:apart (stA p s))(hl:(stA p s).length=2*m):(m:Int)*((th[s]?).getD 0+(bk[s]?).getD 0)≤toT T s (2*m - 1):=by
 have hi:2*m - 1<(stA p s).length:=by omega
 have:=to_sum h hs (2*m - 1) (stA p s)[2*m - 1] (List.getElem?_eq_getElem hi)
 rw[List.take_of_length_le (by omega),dur_all hok hap hl]at this
 exact this
theorem whr_get{a:Int×Int}:∀{l:List (Int×Int)},0≤whr a l→l[(whr a l).toNat]?=some a
 |[],h=>by simp[whr]at h
 |x::t,h=>by
  unfold whr at h ⊢
  by_cases c:x=a
  ·rw[if_pos c];simp[c]
  ·rw[if_neg c]at h ⊢
   by_cases d:whr a t=-1
   ·rw[if_pos d]at h;omega
   ·rw[if_neg d]at h ⊢
    have h0:0≤whr a t:=by have:=whr_nonneg a t;omega
    have:=whr_get h0
    rw[show (whr a t+1).toNat=(whr a t).toNat+1 by omega]
    simpa using this
end Go.Proofs.YtpniemnfdleiialGreat
