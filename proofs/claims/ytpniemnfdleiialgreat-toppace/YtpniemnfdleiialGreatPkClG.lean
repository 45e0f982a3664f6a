/- The program's own way to the times of a plan: an act is reckoned as soon as all that it waits for is. No program in sight. -/
import Derived.Test.YtpniemnfdleiialGreatPkPnF
import Derived.Laws.AppendOwn
import Derived.Test.YtpniemnfdleiialGreatPkPlB
import Derived.Test.YtpniemnfdleiialGreatPkPlC
import Derived.Deep.LoopGhost
import Derived.Deep.CutRange
import Derived.BigQuiet
namespace Go.Proofs.YtpniemnfdleiialGreat
def pushT (T:List (List (Int×Int))) (s:Nat) (x:Int×Int):List (List (Int×Int)):=T.set s (stA T s++[x])
theorem pushT_len(T:List (List (Int×Int)))(s:Nat)(x:Int×Int):(pushT T s x).length=T.length:=by simp[pushT]
theorem pushT_st{T:List (List (Int×Int))}{s:Nat}{x:Int×Int}(hs:s<T.length)(t:Nat):stA (pushT T s x) t=if t=s then stA T s++[x] else stA T t:=by
 unfold pushT
 by_cases c:t=s
 ·subst c
  rw[if_pos rfl]
  exact stA_at (List.getElem?_set_self hs)
 ·rw[if_neg c]
  rw[show stA (T.set s (stA T s++[x])) t=((T.set s (stA T s++[x]))[t]?).getD [] from rfl,List.getElem?_set_ne (fun e=>c e.symm)]
  rfl
theorem push_old{T:List (List (Int×Int))}{s:Nat}{x:Int×Int}(hs:s<T.length){t j:Nat}(h:j<(stA T t).length):(stA (pushT T s x) t)[j]?=(stA T t)[j]?:=by
 rw[pushT_st hs]
 by_cases c:t=s
 ·subst c
  rw[if_pos rfl,List.getElem?_append_left h]
 ·rw[if_neg c]
theorem push_new{T:List (List (Int×Int))}{s:Nat}{x:Int×Int}(hs:s<T.length):(stA (pushT T s x) s)[(stA T s).length]?=some x:=by
 rw[pushT_st hs,if_pos rfl,List.getElem?_append_right (Nat.le_refl _)]
 simp
theorem push_ln{T:List (List (Int×Int))}{s:Nat}{x:Int×Int}(hs:s<T.length)(t:Nat):(stA (pushT T s x) t).length=if t=s then (stA T s).length+1 else (stA T t).length:=by
 rw[pushT_st hs]
 split<;>simp
theorem lens_push(T:List (List (Int×Int)))(s:Nat)(x:Int×Int):lens (pushT T s x)=bump (lens T) s:=by
 unfold bump
 rw[lens_at]
 unfold pushT lens
 rw[List.map_set]
 simp
theorem push_to{T:List (List (Int×Int))}{s:Nat}{x:Int×Int}(hs:s<T.length){t j:Nat}(h:j<(stA T t).length):toT (pushT T s x) t j=toT T t j:=by
 unfold toT
 rw[push_old hs h]
structure Clk (p:List (List (Int×Int))) (th bk:List Int) (T:List (List (Int×Int))):Prop where
 len:T.length=p.length
 good:GoodT p th bk T (lens T)
theorem Clk.le{p:List (List (Int×Int))}{th bk:List Int}{T:List (List (Int×Int))}(h:Clk p th bk T){s:Nat}(hs:s<p.length):(stA T s).length≤(stA p s).length:=by
 have:=h.good.1.2 s hs
 rw[lens_at]at this
 exact this
theorem Clk.sum{p:List (List (Int×Int))}{th bk:List Int}{T:List (List (Int×Int))}(h:Clk p th bk T):sumN (lens T) p.length≤sumN (lens p) p.length:=good_sum h.good
theorem sum_push{p T:List (List (Int×Int))}(hl:T.length=p.length){s:Nat}(hs:s<p.length)(x:Int×Int):sumN (lens (pushT T s x)) p.length=sumN (lens T) p.length+1:=by
 rw[lens_push,sumN_bump (by simp[lens];omega),if_pos hs]
theorem Clk.push{p:List (List (Int×Int))}{th bk:List Int}{T:List (List (Int×Int))}(h:Clk p th bk T)(hin:AllIn p){s:Nat}{a:Int×Int}(hc:Can p (lens T) s)(ha:(stA p s)[(stA T s).length]?=some a):Clk p th bk (pushT T s (newT p th bk T s (stA T s).length a)):=by
 have hs:=hc.lt.1
 have hsl:s<T.length:=by rw[h.len];exact hs
 have hsame:∀k j,k<p.length→j<atN (lens T) k→(stA (pushT T s (newT p th bk T s (stA T s).length a)) k)[j]?=(stA T k)[j]?:=fun k j _ hj=>push_old hsl (by rw[lens_at]at hj;exact hj)
 have hmon:∀k,atN (lens T) k≤atN (lens (pushT T s (newT p th bk T s (stA T s).length a))) k:=fun k=>by
  rw[lens_at,lens_at,push_ln hsl]
  split
  ·rename_i e;subst e;omega
  ·omega
 have hdep:∀k,k<p.length→nbA a s k→whr a (stA p k)<(atN (lens T) k:Int):=by
  obtain ⟨b,hb,hd⟩:=hc
  rw[lens_at,ha]at hb
  obtain rfl:=Option.some.inj hb
  exact hd
 refine ⟨by rw[pushT_len];exact h.len,⟨⟨by simp[lens,pushT_len,h.len],fun t ht=>?_⟩,fun t ht i b hi hb=>?_⟩⟩
 ·rw[lens_at,push_ln hsl]
  split
  ·rename_i e;subst e
   have:=(List.getElem?_eq_some_iff.1 ha).1
   omega
  ·exact h.le ht
 ·rcases Nat.lt_or_ge i (atN (lens T) t) with q|q
  ·obtain ⟨r1,r2⟩:=h.good.2 t ht i b q hb
   refine ⟨?_,fun k hk hn=>by have:=r2 k hk hn;have:=hmon k;omega⟩
   rw[hsame t i ht q,r1,new_same (T:=T) (T':=pushT T s (newT p th bk T s (stA T s).length a)) hin ht hb (by omega) r2 (fun k j hk hj=>(hsame k j hk hj).symm)]
  ·rw[lens_at,push_ln hsl]at hi
   rw[lens_at]at q
   have e:t=s:=by
    rcases Nat.lt_or_ge i (stA T t).length with c|c
    ·omega
    ·by_cases d:t=s
     ·exact d
     ·rw[if_neg d]at hi;omega
   subst e
   rw[if_pos rfl]at hi
   obtain rfl:i=(stA T t).length:=by omega
   rw[ha]at hb
   obtain rfl:=Option.some.inj hb
   refine ⟨?_,fun k hk hn=>by have:=hdep k hk hn;have:=hmon k;omega⟩
   rw[push_new hsl]
   exact congrArg some (new_same (T:=T) (T':=pushT T t (newT p th bk T t (stA T t).length a)) hin ht ha (by rw[lens_at];exact Nat.le_refl _) hdep (fun k j hk hj=>(hsame k j hk hj).symm))
theorem Clk.fin{p:List (List (Int×Int))}{th bk:List Int}{T:List (List (Int×Int))}(h:Clk p th bk T)(hdn:doneB p=true)(hcl:Closed p (lens T)):IsTm p th bk T:=by
 have hf:∀s,s<p.length→(stA p s).length≤atN (lens T) s:=fun s hs=>und_full hdn hcl hs
 refine ⟨⟨h.len,fun s hs=>?_⟩,fun s hs i=>good_all h.good hf hs i⟩
 have h1:=hf s hs
 rw[lens_at]at h1
 have:=h.le hs
 omega
def nilT (n:Nat):List (List (Int×Int)):=List.replicate n []
theorem nilT_st(n s:Nat):stA (nilT n) s=[]:=by
 unfold stA nilT
 rw[List.getElem?_replicate]
 split<;>rfl
theorem Clk.nil(p:List (List (Int×Int)))(th bk:List Int):Clk p th bk (nilT p.length):=by
 refine ⟨by simp[nilT],⟨by simp[lens,nilT],fun s _=>?_⟩,fun s _ i a hi _=>?_⟩
 ·rw[lens_at,nilT_st];exact Nat.zero_le _
 ·rw[lens_at,nilT_st]at hi;simp at hi
theorem sum_nil(n:Nat):∀k,sumN (lens (nilT n)) k=0
 |0=>rfl
 |k+1=>by
  have:=sum_nil n k
  unfold sumN
  rw[this,lens_at,nilT_st]
  rfl
theorem BdT.nil(n:Nat):BdT (nilT n) 0:=⟨Int.le_refl 0,fun t j x hx=>by rw[nilT_st]at hx;simp at hx⟩
theorem BdT.push{p:List (List (Int×Int))}{th bk:List Int}{T:List (List (Int×Int))}{B:Int}(h:BdT T B)(hc:Costs p th bk){s i:Nat}{a:Int×Int}(hs:s<p.length)(hsl:s<T.length):BdT (pushT T s (newT p th bk T s i a)) (B+1000000):=by
 refine ⟨by have:=h.1;omega,fun t j x hx=>?_⟩
 rw[pushT_st hsl]at hx
 have key:∀t (j:Nat),(stA T t)[j]?=some x→0≤x.1∧x.1≤x.2∧x.2≤B+1000000:=fun t j hx=>by have:=h.2 t j x hx;omega
 split at hx
 ·rcases Nat.lt_or_ge j (stA T s).length with q|q
  ·rw[List.getElem?_append_left q]at hx
   exact key s j hx
  ·rw[List.getElem?_append_right q]at hx
   have e:j - (stA T s).length=0:=by
    rcases Nat.eq_zero_or_pos (j - (stA T s).length) with c|c
    ·exact c
    ·rw[List.getElem?_eq_none (by simp;omega)]at hx;cases hx
   rw[e]at hx
   have hx:newT p th bk T s i a=x:=by simpa using hx
   subst hx
   have h1:=h.from_ (p:=p) s i a
   have h2:=hc s hs a
   unfold newT
   dsimp only
   omega
 ·exact key t j hx
structure PassC (p:List (List (Int×Int))) (T0 T:List (List (Int×Int))) (s:Nat) (on:Bool):Prop where
 no:on=false→T=T0∧∀t,t<s→¬Can p (lens T0) t
 yes:on=true→sumN (lens T0) p.length<sumN (lens T) p.length
theorem PassC.first(p T0:List (List (Int×Int))):PassC p T0 T0 0 false:=⟨fun _=>⟨rfl,fun t h=>by omega⟩,(fun e=>by cases e)⟩
theorem PassC.stay{p T0 T:List (List (Int×Int))}{s:Nat}{on:Bool}(h:PassC p T0 T s on)(hc:¬Can p (lens T) s):PassC p T0 T (s+1) on:=
 ⟨fun e=>⟨(h.no e).1,fun t ht=>by
  rcases Nat.lt_or_ge t s with q|q
  ·exact (h.no e).2 t q
  ·obtain rfl:t=s:=by omega
   rw[←(h.no e).1];exact hc⟩,h.yes⟩
theorem PassC.go{p T0 T:List (List (Int×Int))}{s:Nat}{on:Bool}(h:PassC p T0 T s on)(hl:T.length=p.length)(hs:s<p.length)(x:Int×Int):PassC p T0 (pushT T s x) (s+1) true:=by
 refine ⟨(fun e=>by cases e),fun _=>?_⟩
 rw[sum_push hl hs]
 cases on with
 |false=>rw[(h.no rfl).1];omega
 |true=>have:=h.yes rfl;omega
def keysC (p:List (List (Int×Int))) (s i:Nat) (a:Int×Int):List (Int×Int×Int):=
 (if i=0 then [] else [((s:Int),((stA p s)[i - 1]?).getD (0,0))])++(match depK a s p.length with|none=>[]|some k=>[((k:Int),a)])
def lookC (M:List ((Int×Int×Int)×Int)) (d:Int×Int×Int):Option Int:=(M.find? (fun e=>decide (e.1=d))).map (·.2)
def latC (M:List ((Int×Int×Int)×Int)):Int→List (Int×Int×Int)→Option Int
 |l,[]=>some l
 |l,d::t=>match lookC M d with
  |none=>none
  |some e=>latC M (if l<e then e else l) t
def ToldC (p T:List (List (Int×Int))) (M:List ((Int×Int×Int)×Int)):Prop:=∀(s j:Nat) (a:Int×Int),s<p.length→(stA p s)[j]?=some a→lookC M ((s:Int),a)=if j<(stA T s).length then some (toT T s j) else none
theorem ToldC.nil(p:List (List (Int×Int))):ToldC p (nilT p.length) []:=fun s j a _ _=>by rw[nilT_st];rfl
theorem lookC_snoc{M:List ((Int×Int×Int)×Int)}{d d':Int×Int×Int}{x:Int}:lookC (M++[(d,x)]) d'=match lookC M d' with|some e=>some e|none=>if d=d' then some x else none:=by
 unfold lookC
 rw[List.find?_append]
 cases h:M.find? (fun e=>decide (e.1=d')) with
 |some e=>rfl
 |none=>
  by_cases c:d=d'
  ·simp[c]
  ·simp[c]
theorem ToldC.push{p T:List (List (Int×Int))}{M:List ((Int×Int×Int)×Int)}(h:ToldC p T M)(hl:T.length=p.length)(hap:∀s,s<p.length→apart (stA p s)){s:Nat}{a:Int×Int}(hs:s<p.length)(ha:(stA p s)[(stA T s).length]?=some a)(x:Int×Int):ToldC p (pushT T s x) (M++[(((s:Int),a),x.2)]):=by
 intro t j b ht hb
 have hsl:s<T.length:=by rw[hl];exact hs
 rw[lookC_snoc,h t j b ht hb,push_ln hsl]
 by_cases c:j<(stA T t).length
 ·have c2:j<if t=s then (stA T s).length+1 else (stA T t).length:=by
   by_cases d:t=s
   ·subst d;rw[if_pos rfl];omega
   ·rw[if_neg d];exact c
  rw[if_pos c,push_to hsl c,if_pos c2]
 ·rw[if_neg c]
  dsimp only
  by_cases d:t=s
  ·subst d
   rw[if_pos rfl]
   by_cases e:j=(stA T t).length
   ·subst e
    rw[ha]at hb
    obtain rfl:=Option.some.inj hb
    rw[if_pos rfl,if_pos (by omega)]
    unfold toT
    rw[push_new hsl]
    rfl
   ·have hne:¬(((t:Int),a)=((t:Int),b)):=fun q=>by
     have q:a=b:=(Prod.mk.inj q).2
     subst q
     have h1:=whr_idx (hap t ht) ha
     have h2:=whr_idx (hap t ht) hb
     omega
    rw[if_neg hne,if_neg (by omega)]
  ·rw[if_neg d,if_neg c,if_neg]
   intro q
   have q:(s:Int)=(t:Int):=(Prod.mk.inj q).1
   omega
theorem lat_told{p T:List (List (Int×Int))}{M:List ((Int×Int×Int)×Int)}{B:Int}(h:ToldC p T M)(hin:AllIn p)(hb:BdT T B){s:Nat}{a:Int×Int}(hs:s<p.length)(ha:(stA p s)[(stA T s).length]?=some a):
  (Can p (lens T) s∧latC M 0 (keysC p s (stA T s).length a)=some (fromT p T s (stA T s).length a))∨(¬Can p (lens T) s∧latC M 0 (keysC p s (stA T s).length a)=none):=by
 have hcan:Can p (lens T) s↔∀k,k<p.length→nbA a s k→whr a (stA p k)<((stA T k).length:Int):=by
  constructor
  ·rintro ⟨b,hb,hd⟩
   rw[lens_at,ha]at hb
   obtain rfl:=Option.some.inj hb
   exact fun k hk hn=>by have:=hd k hk hn;rw[lens_at]at this;exact this
  ·exact fun hd=>⟨a,by rw[lens_at];exact ha,fun k hk hn=>by rw[lens_at];exact hd k hk hn⟩
 have hto:=fun t j=>(hb.to t j).1
 have hprev:∀(l:List (Int×Int×Int)),latC M 0 ((if (stA T s).length=0 then [] else [((s:Int),((stA p s)[(stA T s).length - 1]?).getD (0,0))])++l)=latC M (prevT T s (stA T s).length) l:=fun l=>by
  unfold prevT
  by_cases c:(stA T s).length=0
  ·rw[if_pos c,if_pos c];rfl
  ·rw[if_neg c,if_neg c]
   have hlt:(stA T s).length - 1<(stA p s).length:=by have:=(List.getElem?_eq_some_iff.1 ha).1;omega
   have:=h s ((stA T s).length - 1) (stA p s)[(stA T s).length - 1] hs (List.getElem?_eq_getElem hlt)
   rw[if_pos (by omega)]at this
   rw[List.getElem?_eq_getElem hlt]
   show latC M 0 (((s:Int),(stA p s)[(stA T s).length - 1])::l)=_
   rw[latC,this]
   dsimp only
   have h0:=hto s ((stA T s).length - 1)
   by_cases e:0<toT T s ((stA T s).length - 1)
   ·rw[if_pos e]
   ·rw[if_neg e,show toT T s ((stA T s).length - 1)=0 by omega]
 unfold keysC
 rw[hprev]
 cases hd:depK a s p.length with
 |none=>
  left
  refine ⟨hcan.2 (fun k hk hn=>?_),?_⟩
  ·rw[(depK_nb hs).2 ⟨hk,hn⟩]at hd;cases hd
  ·unfold fromT
   rw[hd]
   rfl
 |some k=>
  obtain ⟨hkn,hnb⟩:=(depK_nb hs).1 hd
  have hw:=hin s k hs hkn a (List.mem_of_getElem? ha)
  obtain ⟨j,hj⟩:∃j:Nat,whr a (stA p k)=(j:Int):=⟨_,(Int.toNat_of_nonneg hw).symm⟩
  have hget:(stA p k)[j]?=some a:=by have:=whr_get hw;rw[hj]at this;exact this
  have hl:=h k j a hkn hget
  have hone:∀k',k'<p.length→nbA a s k'→k'=k:=fun k' hk' hn'=>by
   have:=(depK_nb hs).2 ⟨hk',hn'⟩
   rw[hd]at this
   exact (Option.some.inj this).symm
  dsimp only
  rw[latC,hl]
  by_cases c:j<(stA T k).length
  ·left
   refine ⟨hcan.2 (fun k' hk' hn'=>by rw[hone k' hk' hn',hj];omega),?_⟩
   rw[if_pos c]
   unfold fromT
   rw[hd]
   dsimp only
   rw[hj]
   rfl
  ·right
   refine ⟨fun q=>c (by have:=hcan.1 q k hkn hnb;rw[hj]at this;omega),?_⟩
   rw[if_neg c]
end Go.Proofs.YtpniemnfdleiialGreat
/- When what has ended, as a map in memory: who, what, which part; and when. Lists of such keys in memory. -/
namespace Go.Proofs.YtpniemnfdleiialGreat
open Go.RowKit
theorem rowC:(106:TypeId)<Tryz.prog.types.size:=of_decide_eq_true (by kernel_rfl)
theorem wideC:(match Tryz.prog.underlying 106 with|some (.array _ _)|some (.struct _)=>true|_=>false)=true:=by kernel_rfl
set_option maxRecDepth 100000 in
theorem lawC:Maps.Keyed Tryz.prog 106:=Maps.Keyed.of_law (deep_law_laid laidD (m:=3) (by omega) rowC (by kernel_rfl) wideC)
theorem ktypeC:Tryz.prog.keyType 106=true:=by kernel_rfl
theorem cellsC:Tryz.prog.cellsOf 106=3:=by kernel_rfl
theorem keyC_of{d:Int×Int×Int}(h:okD d):∃l,keyOf Tryz.prog 106 (keyD d)=some l:=by
 obtain ⟨a,b,c⟩:=d
 obtain ⟨h1,h2,h3,h4,h5,h6⟩:=h
 dsimp only at h1 h2 h3 h4 h5 h6
 have wa:(Lit.int .i64 a).wf=true:=WalkArith.wf_i64 (by omega)
 have wb:(Lit.int .i64 b).wf=true:=WalkArith.wf_i64 (by omega)
 have wc:(Lit.int .i64 c).wf=true:=WalkArith.wf_i64 (by omega)
 obtain ⟨n,hn⟩:=typesD
 have hf:(keyD (a,b,c)).formed Tryz.prog 106=true:=by
  simp[Value.formed,keyD,Tryz.underlying106,cellsC]
 have hr:List.range 3=[0,1,2]:=by decide
 have e:∃ls,Tryz.prog.keyLits (Tryz.prog.types.size+1) 106 (keyD (a,b,c)).cells.toList=some ls:=by
  rw[hn]
  simp[Program.keyLits,keyD,Value.cells,Tryz.underlying106,Tryz.underlying3,cellsC,cellsD1,hr,wa,wb,wc]
 obtain ⟨ls,hls⟩:=e
 unfold keyOf
 rw[Tryz.underlying106]
 dsimp only
 rw[ktypeC,hf,hls]
 exact ⟨_,rfl⟩
def Ends (w:World) (b:Nat) (M:List ((Int×Int×Int)×Int)):Prop:=
 ∃es clock,w.heap[b]?=some (.map es clock)∧(M.map (·.1)).Nodup∧(∀e∈M,okD e.1)∧es.size=M.length∧∀(i:Nat) (e:MapEntry),es[i]?=some e→∃d x,M[i]?=some (d,x)∧e.key=keyD d∧e.val=.int .i64 x
theorem lookC_at:∀{M:List ((Int×Int×Int)×Int)} {i:Nat} {d:Int×Int×Int} {x:Int},(M.map (·.1)).Nodup→M[i]?=some (d,x)→lookC M d=some x
 |[],i,d,x,_,h=>by simp at h
 |(d',x')::t,0,d,x,_,h=>by
  obtain ⟨rfl,rfl⟩:d'=d∧x'=x:=by simpa using h
  simp[lookC]
 |(d',x')::t,i+1,d,x,hn,h=>by
  have h':t[i]?=some (d,x):=by simpa using h
  have hn':d' ∉ t.map (·.1)∧(t.map (·.1)).Nodup:=by simpa using hn
  have hne:d'≠d:=fun e=>hn'.1 (by rw[e];exact List.mem_map.2 ⟨(d,x),List.mem_of_getElem? h',rfl⟩)
  have ih:=lookC_at hn'.2 h'
  unfold lookC at ih ⊢
  rw[List.find?_cons_of_neg (by simpa using hne)]
  exact ih
theorem lookC_none{M:List ((Int×Int×Int)×Int)}{d:Int×Int×Int}(h:∀e∈M,e.1≠d):lookC M d=none:=by
 unfold lookC
 rw[List.find?_eq_none.2 (fun e he=>by simpa using h e he)]
 rfl
theorem lookC_out{M:List ((Int×Int×Int)×Int)}{d:Int×Int×Int}(h:lookC M d=none):d ∉ M.map (·.1):=by
 intro hm
 obtain ⟨e,he,rfl⟩:=List.mem_map.1 hm
 unfold lookC at h
 have:=List.find?_eq_none.1 (Option.map_eq_none_iff.1 h) e he
 simp at this
theorem Ends.new(w:World):Ends (w.alloc (.map #[] 0)) w.heap.size []:=⟨#[],0,(MapKept.heap_alloc w _).1,by simp,fun d h=>by simp at h,rfl,fun i e h=>by simp at h⟩
theorem Ends.lt{w:World}{b:Nat}{M:List ((Int×Int×Int)×Int)}(h:Ends w b M):b<w.heap.size:=by
 obtain ⟨es,clock,hb,_⟩:=h
 exact (Array.getElem?_eq_some_iff.1 hb).1
theorem Ends.grown{w w':World}{b:Nat}{B:Option Nat}{M:List ((Int×Int×Int)×Int)}(h:Ends w b M)(hg:w.grownBy w' B)(hne:some b≠B):Ends w' b M:=by
 have hl:=h.lt
 obtain ⟨es,clock,h1,h2⟩:=h
 exact ⟨es,clock,(hg.block b hl hne).trans h1,h2⟩
theorem Ends.u_{w w':World}{b:Nat}{M:List ((Int×Int×Int)×Int)}(h:Ends w b M)(hb:Below w.heap.size w w'):Ends w' b M:=h.grown (grow_of hb none) (by simp)
theorem Ends.find{w:World}{b:Nat}{M:List ((Int×Int×Int)×Int)}(h:Ends w b M){d:Int×Int×Int}(hd:okD d)(w2:World):∃es clock,w.heap[b]?=some (.map es clock)∧es.size=M.length∧
  ((lookC M d=none∧(Instr.findKey 106 (keyD d) es.toList).run Tryz.prog w2=.ok none w2)∨(∃(i:Nat) (x:Int),lookC M d=some x∧(Instr.findKey 106 (keyD d) es.toList).run Tryz.prog w2=.ok (some (i,.int .i64 x)) w2)):=by
 obtain ⟨es,clock,h1,h2,h3,h4,h5⟩:=h
 refine ⟨es,clock,h1,h4,?_⟩
 obtain ⟨l,hl⟩:=keyC_of hd
 have hall:∀e∈es.toList,∃l,keyOf Tryz.prog 106 e.key=some l:=by
  intro e he
  obtain ⟨i,hi⟩:=List.getElem?_of_mem he
  obtain ⟨d',x,q1,q2,_⟩:=h5 i e (by simpa using hi)
  rw[q2]
  exact keyC_of (h3 _ (List.mem_of_getElem? q1))
 rcases lawC.find w2 hl es.toList hall with ⟨f1,f2⟩|⟨j,e,f1,f2,f3⟩
 ·left
  refine ⟨lookC_none (fun q hq hqd=>?_),f1⟩
  obtain ⟨i,hi⟩:=List.getElem?_of_mem hq
  have hlt:i<es.size:=by rw[h4];exact (List.getElem?_eq_some_iff.1 hi).1
  obtain ⟨d',x,q1,q2,_⟩:=h5 i es[i] (Array.getElem?_eq_getElem hlt)
  rw[hi]at q1
  obtain rfl:=Option.some.inj q1
  rw[show d'=d from hqd]at q2
  exact f2 es[i] (by simp) q2
 ·right
  obtain ⟨d',x,q1,q2,q3⟩:=h5 j e (by simpa using f2)
  have:d'=d:=keyD_inj (q2.symm.trans f3)
  subst this
  exact ⟨j,x,lookC_at h2 q1,by rw[f1,q3]⟩
theorem Ends.look{w:World}{b:Nat}{M:List ((Int×Int×Int)×Int)}(h:Ends w b M){d:Int×Int×Int}(hd:okD d):
  (Instr.lookup 96 (.map (some b)) (keyD d) true).run Tryz.prog w=.ok (.tuple #[.int .i64 ((lookC M d).getD 0),.bool (lookC M d).isSome]) w:=by
 obtain ⟨es,clock,hb,_,hf⟩:=h.find hd w
 obtain ⟨l,hl⟩:=keyC_of hd
 rcases hf with ⟨q1,q2⟩|⟨i,x,q1,q2⟩
 ·simp[Instr.lookup,run_underlying Tryz.underlying96,MapKept.run_getObj_map hb,lawC.check w _ hl,q2,Result.andThen,q1]
 ·simp[Instr.lookup,run_underlying Tryz.underlying96,MapKept.run_getObj_map hb,lawC.check w _ hl,q2,Result.andThen,q1]
theorem Ends.add{w:World}{b:Nat}{M:List ((Int×Int×Int)×Int)}(h:Ends w b M){d:Int×Int×Int}(hd:okD d)(hn:lookC M d=none)(x:Int):
  ∃w',(Instr.mapUpdate 96 (.map (some b)) (keyD d) (.int .i64 x)).run Tryz.prog w=.ok () w'∧Ends w' b (M++[(d,x)])∧w.grownBy w' (some b):=by
 obtain ⟨es,clock,hb,hs,hf⟩:=h.find hd w
 obtain ⟨l,hl⟩:=keyC_of hd
 rcases hf with ⟨q1,q2⟩|⟨i,y,q1,q2⟩
 ·refine ⟨ChangeMaps.setBlock w b (.map (es.push ⟨keyD d,.int .i64 x,clock⟩) (clock+1)),?_,?_,⟨rfl,rfl,rfl,by simp[ChangeMaps.setBlock],fun i _ hi=>ChangeMaps.heap_setBlock_other hb _ (fun e=>hi (by rw[e]))⟩⟩
  ·simp[Instr.mapUpdate,run_underlying Tryz.underlying96,MapKept.run_getObj_map hb,lawC.check w false hl,q2,MapKept.run_setObj_map _ hb,Result.andThen,ChangeMaps.setBlock]
  ·obtain ⟨es',clock',hb',h2,h3,h4,h5⟩:=h
   rw[hb]at hb'
   have hb':=Option.some.inj hb'
   injection hb' with e1 e2
   subst e1
   refine ⟨_,_,ChangeMaps.heap_setBlock_same hb _,?_,?_,by simp[h4],?_⟩
   ·rw[List.map_append,List.nodup_append]
    refine ⟨h2,by simp,fun a ha c hc e=>?_⟩
    have hc:c=d:=by simpa using hc
    subst hc
    exact lookC_out hn (e▸ha)
   ·intro z hz
    rw[List.mem_append]at hz
    rcases hz with hz|hz
    ·exact h3 z hz
    ·have hz:z=(d,x):=by simpa using hz
     subst hz;exact hd
   ·intro i e he
    rw[Array.getElem?_push]at he
    by_cases hi:i=es.size
    ·rw[if_pos hi]at he
     have he:=Option.some.inj he
     subst he
     exact ⟨d,x,by rw[List.getElem?_append_right (by omega),hi,h4];simp,rfl,rfl⟩
    ·rw[if_neg hi]at he
     obtain ⟨d',y,k1,k2⟩:=h5 i e he
     exact ⟨d',y,by rw[List.getElem?_append_left (List.getElem?_eq_some_iff.1 k1).1];exact k1,k2⟩
 ·rw[hn]at q1;cases q1
theorem infoSpan:(Tryz.prog.info? 109).map (fun i=>(i.zero,i.size,i.bytes))=some (some (.agg #[.int .i64 0,.int .i64 0]),2,16):=by kernel_rfl
theorem infoSpans:(Tryz.prog.info? 98).map (fun i=>(i.zero,i.size,i.bytes))=some (some (.slice none 0 0),1,24):=by kernel_rfl
theorem plan_facts{p:List (List (Int×Int))}{m:Nat}(h:planE p (m:Int)=0):AllIn p∧doneB p=true∧1≤p.length∧p.length≤6∧1≤m∧m≤12∧∀s,s<p.length→(stA p s).length=2*m∧∀a∈stA p s,okA (m:Int) a:=by
 obtain ⟨h1,h2,h3⟩:=planE_in h
 unfold rangeP at h1
 have hst:∀k,k<p.length→actsE (stA p k) (m:Int)=0:=fun k hk=>by
  obtain ⟨l,hl⟩:=stage_at hk
  rw[stA_at hl]
  exact stagesE_in h2 k l hl
 refine ⟨fun s k hs hk a ha=>?_,h3,by omega,by omega,by omega,by omega,fun s hs=>?_⟩
 ·obtain ⟨q1,_⟩:=actsE_in (hst s hs)
  obtain ⟨r1,r2,r3,_⟩:=actsE_in (hst k hk)
  obtain ⟨i,hi⟩:=List.getElem?_of_mem (act_in r1 r2 r3 (q1 a ha))
  rw[whr_idx r2 hi];omega
 ·obtain ⟨r1,r2,r3,_⟩:=actsE_in (hst s hs)
  have:=acts_len r1 r2
  exact ⟨by omega,r1⟩
theorem ints_cell{w:World}{b off:Nat}{l:List Int}(h:∀i x,l[i]?=some x→w.cell? ⟨b,off+i,none⟩=some (.int .i64 x)){s:Nat}(hs:s<l.length){W:World}(hb:Below w.heap.size w W):W.cell? ⟨b,off+s,none⟩=some (.int .i64 ((l[s]?).getD 0)):=by
 have:=h s l[s] (List.getElem?_eq_getElem hs)
 rw[List.getElem?_eq_getElem hs]
 exact cell_bel hb this
theorem lens_sum{p:List (List (Int×Int))}{m:Nat}(h:∀s,s<p.length→(stA p s).length=2*m):∀k,k≤p.length→sumN (lens p) k=2*m*k
 |0,_=>by simp[sumN]
 |k+1,hk=>by
  have:=lens_sum h k (by omega)
  have h1:=h k (by omega)
  unfold sumN
  rw[this,lens_at,h1,Nat.mul_succ]
def evenA:Int→List (Int×Int)→Bool
 |_,[]=>true
 |last,a::t=>if a.1=2∧a.2<last then false else evenA (if a.1=2 then a.2 else last) t
def evenB (p:List (List (Int×Int))):Bool:=p.all (evenA (-1))
def okT (x:Int):Bool:=decide (1≤x)&&decide (x≤1000000)
def timE (p:List (List (Int×Int))) (m:Int) (th bk:List Int):Int:=if planE p m=0 then (if th.length=p.length∧bk.length=p.length then (if (∀x∈th,okT x=true)∧(∀x∈bk,okT x=true) then 0 else 1) else 2) else planE p m
theorem timE_plan{p:List (List (Int×Int))}{m:Int}{th bk:List Int}(h:planE p m≠0):planE p m=timE p m th bk:=by unfold timE;rw[if_neg h]
theorem timE_len{p:List (List (Int×Int))}{m:Int}{th bk:List Int}(h:planE p m=0)(h2:¬(th.length=p.length∧bk.length=p.length)):2=timE p m th bk:=by unfold timE;rw[if_pos h,if_neg h2]
theorem timE_bad{p:List (List (Int×Int))}{m:Int}{th bk:List Int}(h:planE p m=0)(h2:th.length=p.length∧bk.length=p.length){x:Int}(hx:x∈th∨x∈bk)(hb:¬(1≤x∧x≤1000000)):1=timE p m th bk:=by
 unfold timE
 rw[if_pos h,if_pos h2,if_neg]
 rintro ⟨q1,q2⟩
 have:okT x=true:=by rcases hx with r|r;exact q1 x r;exact q2 x r
 unfold okT at this
 simp at this
 exact hb this
theorem timE_ok{p:List (List (Int×Int))}{m:Int}{th bk:List Int}(h:planE p m=0)(h2:th.length=p.length∧bk.length=p.length)(h3:∀x∈th,1≤x∧x≤1000000)(h4:∀x∈bk,1≤x∧x≤1000000):0=timE p m th bk:=by
 unfold timE
 rw[if_pos h,if_pos h2,if_pos]
 exact ⟨fun x hx=>by unfold okT;simp[h3 x hx],fun x hx=>by unfold okT;simp[h4 x hx]⟩
theorem timE_in{p:List (List (Int×Int))}{m:Int}{th bk:List Int}(h:timE p m th bk=0):planE p m=0∧th.length=p.length∧bk.length=p.length∧(∀x∈th,1≤x∧x≤1000000)∧(∀x∈bk,1≤x∧x≤1000000):=by
 unfold timE at h
 by_cases c1:planE p m=0
 ·rw[if_pos c1]at h
  by_cases c2:th.length=p.length∧bk.length=p.length
  ·rw[if_pos c2]at h
   by_cases c3:(∀x∈th,okT x=true)∧(∀x∈bk,okT x=true)
   ·refine ⟨c1,c2.1,c2.2,fun x hx=>?_,fun x hx=>?_⟩
    ·have:=c3.1 x hx;unfold okT at this;simpa using this
    ·have:=c3.2 x hx;unfold okT at this;simpa using this
   ·rw[if_neg c3]at h;cases h
  ·rw[if_neg c2]at h;cases h
 ·rw[if_neg c1]at h;exact absurd h c1
theorem costs_of{p:List (List (Int×Int))}{th bk:List Int}(h1:th.length=p.length)(h2:bk.length=p.length)(h3:∀x∈th,1≤x∧x≤1000000)(h4:∀x∈bk,1≤x∧x≤1000000):Costs p th bk:=by
 intro s hs a
 unfold lngA
 split
 ·rw[List.getElem?_eq_getElem (by omega)];exact h4 _ (List.getElem_mem _)
 ·rw[List.getElem?_eq_getElem (by omega)];exact h3 _ (List.getElem_mem _)
end Go.Proofs.YtpniemnfdleiialGreat
