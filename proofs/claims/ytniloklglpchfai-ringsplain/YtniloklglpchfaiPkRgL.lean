/- A ring of workers: nobody waits for ever. No program in sight. -/
import Derived.Test.YtniloklglpchfaiPkEqBy
import Derived.Test.YtniloklglpchfaiRgO
namespace Go.Proofs.Ytniloklglpchfai
open Go Go.Conc
def ringS (to fr:Nat):Nat→Nat→List Cm
 |0,_=>[]
 |k+1,j=>(true,to,j)::(false,fr,j)::ringS to fr k (j+1)
theorem ringS_snd(to fr:Nat):∀(k j d:Nat),cmc true to ((ringS to fr k j).drop d)=k - (d+1) / 2
 |0,j,d=>by simp[ringS,cmc]
 |k+1,j,0=>by have:=ringS_snd to fr k (j+1) 0;simp only[List.drop_zero]at this ⊢;simp[ringS,cmc,this];omega
 |k+1,j,1=>by have:=ringS_snd to fr k (j+1) 0;simp only[List.drop_zero]at this;simp[ringS,cmc,this]
 |k+1,j,d+2=>by have:=ringS_snd to fr k (j+1) d;simp only[ringS,List.drop_succ_cons];rw[this];omega
theorem ringS_rcv(to fr:Nat):∀(k j d:Nat),cmc false fr ((ringS to fr k j).drop d)=k - d / 2
 |0,j,d=>by simp[ringS,cmc]
 |k+1,j,0=>by have:=ringS_rcv to fr k (j+1) 0;simp only[List.drop_zero]at this ⊢;simp[ringS,cmc,this];omega
 |k+1,j,1=>by have:=ringS_rcv to fr k (j+1) 0;simp only[List.drop_zero]at this;simp[ringS,cmc,this];omega
 |k+1,j,d+2=>by have:=ringS_rcv to fr k (j+1) d;simp only[ringS,List.drop_succ_cons];rw[this];omega
theorem ringS_next(to fr:Nat):∀(k j d:Nat),d<2*k→∃l,(ringS to fr k j).drop d=(if d % 2=0 then (true,to,j+d / 2) else (false,fr,j+d / 2))::l
 |0,j,d,h=>by omega
 |k+1,j,0,_=>⟨_,rfl⟩
 |k+1,j,1,_=>⟨_,rfl⟩
 |k+1,j,d+2,h=>by
  obtain ⟨l,hl⟩:=ringS_next to fr k (j+1) d (by omega)
  refine ⟨l,?_⟩
  simp only[ringS,List.drop_succ_cons]
  rw[hl,show (d+2) % 2=d % 2 by omega,show j+1+d / 2=j+(d+2) / 2 by omega]
theorem ringS_len(to fr:Nat):∀(k j:Nat),(ringS to fr k j).length=2*k
 |0,_=>rfl
 |k+1,j=>by simp[ringS,ringS_len to fr k (j+1)];omega
theorem ringS_ord{chs:List Nat}{rdr wtr:Nat→Nat}{i to fr:Nat}(h1:to∈chs)(h2:fr∈chs)(h3:wtr to=i)(h4:rdr fr=i):∀(k j:Nat) (s r:Nat→Nat),s to=j→r fr=j→Ord chs rdr wtr i (ringS to fr k j) s r
 |0,_,_,_,_,_=>trivial
 |k+1,j,s,r,hs,hr=>⟨h1,h3,hs.symm,h2,h4,hr.symm,ringS_ord h1 h2 h3 h4 k (j+1) _ _ (by rw[bump_self,hs]) (by rw[bump_self,hr])⟩
theorem least(f:Nat→Nat):∀n,0<n→∃w,w<n∧∀v,v<n→f w≤f v
 |0,h=>by omega
 |1,_=>⟨0,by omega,fun v hv=>by rw[show v=0 by omega];exact Nat.le_refl _⟩
 |n+2,_=>by
  obtain ⟨w,h1,h2⟩:=least f (n+1) (by omega)
  by_cases h:f w≤f (n+1)
  ·exact ⟨w,by omega,fun v hv=>by
    rcases Nat.lt_or_ge v (n+1) with q|q
    ·exact h2 v q
    ·rw[show v=n+1 by omega];exact h⟩
  ·exact ⟨n+1,by omega,fun v hv=>by
    rcases Nat.lt_or_ge v (n+1) with q|q
    ·have:=h2 v q;omega
    ·rw[show v=n+1 by omega];exact Nat.le_refl _⟩
structure Ring (o:Bo) (c K:Nat) (ch:Nat→Nat):Prop where
 nk:o.nk=c
 sc0:o.sc0=[]
 b1:1≤o.b0
 scr:∀w,w<c→o.scr (o.b0+w)=ringS (ch ((w+1) % c)) (ch w) K 0
 wtr:∀w,w<c→o.wtr (ch ((w+1) % c))=o.b0+w
 rdr:∀w,w<c→o.rdr (ch w)=o.b0+w
 cap:∀w,w<c→o.cap (ch w)=1
 mem:∀x,x∈o.chs↔∃w,w<c∧ch w=x
theorem Ring.live{o:Bo}{c K:Nat}{ch:Nat→Nat}(R:Ring o c K ch):o.Live:=by
 intro snt rcv sc hsuf hsn hrc hfit hpark
 have hfull:∀w,w<c→o.full (o.b0+w)=ringS (ch ((w+1) % c)) (ch w) K 0:=fun w hw=>by
  unfold Bo.full
  rw[if_neg (by have:=R.b1;omega),R.scr w hw]
 have hwk:∀w,w<c→o.Wk (o.b0+w):=fun w hw=>⟨by omega,by rw[R.nk];omega⟩
 have hd:∀w,∃d,w<c→sc (o.b0+w)=(ringS (ch ((w+1) % c)) (ch w) K 0).drop d:=fun w=>by
  by_cases hw:w<c
  ·obtain ⟨d,hd⟩:=hsuf _ (.inr (hwk w hw))
   exact ⟨d,fun _=>by rw[hd,hfull w hw]⟩
  ·exact ⟨0,fun q=>absurd q hw⟩
 obtain ⟨f,hf⟩:=Classical.axiomOfChoice hd
 have hsnt:∀w,w<c→f w≤2*K→snt (ch ((w+1) % c))=(f w+1) / 2:=fun w hw hK=>by
  have:=hsn (ch ((w+1) % c))
  rw[R.wtr w hw,hf w hw,hfull w hw,ringS_snd]at this
  have h0:=ringS_snd (ch ((w+1) % c)) (ch w) K 0 0
  rw[List.drop_zero]at h0
  rw[h0]at this
  omega
 have hrcv:∀w,w<c→f w≤2*K→rcv (ch w)=f w / 2:=fun w hw hK=>by
  have:=hrc (ch w)
  rw[R.rdr w hw,hf w hw,hfull w hw,ringS_rcv]at this
  have h0:=ringS_rcv (ch ((w+1) % c)) (ch w) K 0 0
  rw[List.drop_zero]at h0
  rw[h0]at this
  omega
 have hsntK:∀w,w<c→2*K≤f w→snt (ch ((w+1) % c))=K:=fun w hw hK=>by
  have:=hsn (ch ((w+1) % c))
  rw[R.wtr w hw,hf w hw,hfull w hw,ringS_snd]at this
  have h0:=ringS_snd (ch ((w+1) % c)) (ch w) K 0 0
  rw[List.drop_zero]at h0
  rw[h0]at this
  omega
 have hrcvK:∀w,w<c→2*K≤f w→rcv (ch w)=K:=fun w hw hK=>by
  have:=hrc (ch w)
  rw[R.rdr w hw,hf w hw,hfull w hw,ringS_rcv]at this
  have h0:=ringS_rcv (ch ((w+1) % c)) (ch w) K 0 0
  rw[List.drop_zero]at h0
  rw[h0]at this
  omega
 have key:∀w,w<c→2*K≤f w:=by
  rcases Nat.eq_zero_or_pos c with h0|h0
  ·intro w hw;omega
  ·obtain ⟨w,hw,hmin⟩:=least f c h0
   by_cases hK:2*K≤f w
   ·exact fun v hv=>Nat.le_trans hK (hmin v hv)
   ·exfalso
    obtain ⟨l,hl⟩:=ringS_next (ch ((w+1) % c)) (ch w) K 0 (f w) (by omega)
    have hsc:=(hf w hw).trans hl
    rcases hpark _ (.inr (hwk w hw)) with q|⟨x,j,l',q,_,e⟩|⟨x,j,l',q,_,e⟩
    ·rw[hsc]at q;cases q
    ·rw[hsc]at q
     obtain ⟨e1,-⟩:=List.cons.inj q
     by_cases hp:f w % 2=0
     ·rw[if_pos hp]at e1;cases e1
     ·rw[if_neg hp]at e1
      have ex:ch w=x:=(Prod.mk.inj (Prod.mk.inj e1).2).1
      subst ex
      rw[hrcv w hw (by omega)]at e
      obtain ⟨v,hv,hvw⟩:∃v,v<c∧(v+1) % c=w:=by
       rcases Nat.eq_zero_or_pos w with z|z
       ·exact ⟨c - 1,by omega,by rw[show c - 1+1=c by omega,Nat.mod_self,z]⟩
       ·exact ⟨w - 1,by omega,by rw[show w - 1+1=w by omega,Nat.mod_eq_of_lt hw]⟩
      have hm:=hmin v hv
      rcases Nat.lt_or_ge (f v) (2*K) with z|z
      ·have hs:=hsnt v hv (by omega)
       rw[hvw]at hs
       omega
      ·have hs:=hsntK v hv z
       rw[hvw]at hs
       omega
    ·rw[hsc]at q
     obtain ⟨e1,-⟩:=List.cons.inj q
     by_cases hp:f w % 2=0
     ·rw[if_pos hp]at e1
      have ex:ch ((w+1) % c)=x:=(Prod.mk.inj (Prod.mk.inj e1).2).1
      subst ex
      have hv:(w+1) % c<c:=Nat.mod_lt _ h0
      rw[hsnt w hw (by omega),R.cap _ hv]at e
      have hm:=hmin _ hv
      rcases Nat.lt_or_ge (f ((w+1) % c)) (2*K) with z|z
      ·rw[hrcv _ hv (by omega)]at e;omega
      ·rw[hrcvK _ hv z]at e;omega
     ·rw[if_neg hp]at e1;cases e1
 intro i hi
 rcases hi with rfl|hi
 ·obtain ⟨d,hd⟩:=hsuf 0 (.inl rfl)
  rw[hd]
  unfold Bo.full
  rw[if_pos rfl,R.sc0,List.drop_nil]
 ·obtain ⟨w,rfl⟩:∃w,i=o.b0+w:=⟨i - o.b0,by have:=hi.1;omega⟩
  have hw:w<c:=by have:=hi.2;rw[R.nk]at this;omega
  rw[hf w hw]
  exact List.drop_eq_nil_of_le (by rw[ringS_len];exact key w hw)
end Go.Proofs.Ytniloklglpchfai
/- A ring: which piece a worker has, and what it holds, round by round. -/
namespace Go.Proofs.Ytniloklglpchfai
open Go Go.RowKit Go.Conc
def qN (c i k:Nat):Nat:=(i+2*c - 1 - k) % c
theorem qN_lt{c:Nat}(h:1≤c)(i k:Nat):qN c i k<c:=Nat.mod_lt _ (by omega)
theorem qN_zero{c i:Nat}(h:1≤c)(h6:c≤6)(hi:i<c):(i+c - 1) % c=qN c i 0:=by
 unfold qN
 have hc:c=1∨c=2∨c=3∨c=4∨c=5∨c=6:=by omega
 rcases hc with rfl|rfl|rfl|rfl|rfl|rfl<;>omega
theorem qN_next{c i k:Nat}(h:1≤c)(h6:c≤6)(hi:i<c)(hk:k<2*(c - 1)):(qN c i k+c - 1) % c=qN c i (k+1):=by
 unfold qN
 have hc:c=1∨c=2∨c=3∨c=4∨c=5∨c=6:=by omega
 rcases hc with rfl|rfl|rfl|rfl|rfl|rfl<;>omega
theorem qN_from{c i k:Nat}(h:1≤c)(h6:c≤6)(hi:i<c)(hk:k<2*(c - 1)):qN c ((i+c - 1) % c) k=qN c i (k+1):=by
 unfold qN
 have hc:c=1∨c=2∨c=3∨c=4∨c=5∨c=6:=by omega
 rcases hc with rfl|rfl|rfl|rfl|rfl|rfl<;>omega
theorem qN_who{c i k:Nat}(h:1≤c)(h6:c≤6)(hi:i<c)(hk:k<c):(qN c i k+k+1) % c=i:=by
 unfold qN
 have hc:c=1∨c=2∨c=3∨c=4∨c=5∨c=6:=by omega
 rcases hc with rfl|rfl|rfl|rfl|rfl|rfl<;>omega
theorem qN_all{c i p:Nat}(h:1≤c)(h6:c≤6)(hi:i<c)(hp:p<c):∃j,j≤c - 1∧qN c i (c - 1+j)=p:=by
 refine ⟨(i+c - p) % c,by have:=Nat.mod_lt (i+c - p) (show c > 0 by omega);omega,?_⟩
 unfold qN
 have hc:c=1∨c=2∨c=3∨c=4∨c=5∨c=6:=by omega
 rcases hc with rfl|rfl|rfl|rfl|rfl|rfl<;>omega
theorem pred_succ{c i:Nat}(h:1≤c)(hi:i<c):((i+1) % c+c - 1) % c=i:=by
 rcases Nat.lt_or_ge (i+1) c with q|q
 ·rw[Nat.mod_eq_of_lt q,show i+1+c - 1=i+c by omega,Nat.add_mod_right,Nat.mod_eq_of_lt hi]
 ·have:i+1=c:=by omega
  rw[this,Nat.mod_self,Nat.zero_add,Nat.mod_eq_of_lt (by omega)]
  omega
def xN (n c:Nat) (ps:Nat→List Int) (i k:Nat):List Int:=partX n c ps (qN c i k) (min k (c - 1))
section
variable {n c:Nat} {ps:Nat→List Int} {i:Nat}
theorem xN_len(h:1≤c)(h6:c≤6)(hl:∀i,i<c→(ps i).length=n)(k:Nat):(xN n c ps i k).length=stN n c (qN c i k+1) - stN n c (qN c i k):=partX_len h6 (qN_lt h i k) hl _
theorem xN_zero(h:1≤c)(h6:c≤6)(hi:i<c):xN n c ps i 0=pcL n c (qN c i 0) (ps i):=by
 unfold xN
 rw[Nat.zero_min]
 unfold partX
 have:=qN_who (k:=0) h h6 hi (by omega)
 rw[Nat.add_zero]at this
 rw[this]
theorem xN_add(h:1≤c)(h6:c≤6)(hi:i<c){k:Nat}(hk:k+1<c):List.zipWith ad (xN n c ps ((i+c - 1) % c) k) (pcL n c (qN c i (k+1)) (ps i))=xN n c ps i (k+1):=by
 have h1:=qN_from h h6 hi (k:=k) (by omega)
 have h2:=qN_who (k:=k+1) h h6 hi hk
 unfold xN
 rw[h1,Nat.min_eq_left (by omega),Nat.min_eq_left (by omega)]
 conv=>rhs;unfold partX
 rw[show qN c i (k+1)+k+2=qN c i (k+1)+(k+1)+1 by omega,h2]
theorem xN_pass(h:1≤c)(h6:c≤6)(hi:i<c){k:Nat}(hk:c≤k+1)(hk2:k<2*(c - 1)):xN n c ps ((i+c - 1) % c) k=xN n c ps i (k+1):=by
 have h1:=qN_from h h6 hi hk2
 unfold xN
 rw[h1,Nat.min_eq_right (by omega),Nat.min_eq_right (by omega)]
end
def tsJ (n c i:Nat) (X:Nat→List Int) (ts:List Int):Nat→List Int
 |0=>layT ts (X (c - 1)) (stN n c (qN c i (c - 1))) (stN n c (qN c i (c - 1)+1))
 |j+1=>layT (tsJ n c i X ts j) (X (c - 1+(j+1))) (stN n c (qN c i (c - 1+(j+1)))) (stN n c (qN c i (c - 1+(j+1))+1))
theorem stN_mono{n c p q:Nat}(hc6:c≤6)(hpq:p≤q)(hq:q≤c):stN n c p≤stN n c q:=by
 induction q with
 |zero=>rw[show p=0 by omega];exact Nat.le_refl _
 |succ q ih=>
  rcases Nat.lt_or_ge p (q+1) with h|h
  ·exact Nat.le_trans (ih (by omega) (by omega)) (stN_in hc6 (by omega)).1
  ·rw[show p=q+1 by omega];exact Nat.le_refl _
theorem pcL_lay{n c q:Nat}{ts xs:List Int}(hc6:c≤6)(hq:q<c)(hl:ts.length=n)(hx:xs.length=stN n c (q+1) - stN n c q):pcL n c q (layT ts xs (stN n c q) (stN n c (q+1)))=xs:=by
 have:=stN_in (n:=n) hc6 hq
 have e:(ts.take (stN n c q)).length=stN n c q:=by rw[List.length_take];omega
 unfold pcL layT
 rw[List.append_assoc,List.drop_append_of_le_length (by omega),List.drop_eq_nil_of_le (by omega),List.nil_append,List.take_append_of_le_length (by omega),List.take_of_length_le (by omega)]
theorem pcL_lay_ne{n c p q:Nat}{ts xs:List Int}(hc6:c≤6)(hp:p<c)(hq:q<c)(hne:p≠q)(hl:ts.length=n)(hx:xs.length=stN n c (q+1) - stN n c q):pcL n c p (layT ts xs (stN n c q) (stN n c (q+1)))=pcL n c p ts:=by
 have h1:=stN_in (n:=n) hc6 hq
 have h2:=stN_in (n:=n) hc6 hp
 refine List.ext_getElem? fun y=>?_
 by_cases hy:y<stN n c (p+1) - stN n c p
 ·rw[pcL_at hy,pcL_at hy]
  have e:(ts.take (stN n c q)).length=stN n c q:=by rw[List.length_take];omega
  unfold layT
  rcases Nat.lt_or_ge p q with h|h
  ·have:=stN_mono (n:=n) hc6 (show p+1≤q by omega) (by omega)
   rw[List.append_assoc,List.getElem?_append_left (by omega),List.getElem?_take,if_pos (by omega)]
  ·have:=stN_mono (n:=n) hc6 (show q+1≤p by omega) (by omega)
   rw[List.getElem?_append_right (by rw[List.length_append];omega),List.length_append,e,hx,List.getElem?_drop]
   congr 1
   omega
 ·have l1:(layT ts xs (stN n c q) (stN n c (q+1))).length=n:=by rw[layT_len h1.1 (by omega) hx,hl]
  rw[List.getElem?_eq_none (by rw[pcL_len hc6 hp l1];omega),List.getElem?_eq_none (by rw[pcL_len hc6 hp hl];omega)]
theorem tsJ_len{n c i:Nat}{X:Nat→List Int}{ts:List Int}(h1:1≤c)(hc6:c≤6)(hl:ts.length=n)(hX:∀k,(X k).length=stN n c (qN c i k+1) - stN n c (qN c i k)):∀j,(tsJ n c i X ts j).length=n
 |0=>by
  have:=stN_in (n:=n) hc6 (qN_lt h1 i (c - 1))
  unfold tsJ
  rw[layT_len this.1 (by omega) (hX _),hl]
 |j+1=>by
  have:=stN_in (n:=n) hc6 (qN_lt h1 i (c - 1+(j+1)))
  have ih:=tsJ_len h1 hc6 hl hX j
  unfold tsJ
  rw[layT_len this.1 (by omega) (hX _),ih]
theorem tsJ_at{n c i:Nat}{X:Nat→List Int}{ts:List Int}{F:Nat→List Int}(h1:1≤c)(hc6:c≤6)(hl:ts.length=n)(hX:∀k,(X k).length=stN n c (qN c i k+1) - stN n c (qN c i k))(hF:∀k,c≤k+1→X k=F (qN c i k)):∀j d,d≤j→pcL n c (qN c i (c - 1+d)) (tsJ n c i X ts j)=F (qN c i (c - 1+d))
 |0,d,hd=>by
  rw[show d=0 by omega,Nat.add_zero,←hF _ (by omega)]
  unfold tsJ
  exact pcL_lay hc6 (qN_lt h1 _ _) hl (hX _)
 |j+1,d,hd=>by
  have hjl:=tsJ_len (i:=i) h1 hc6 hl hX j
  unfold tsJ
  by_cases e:qN c i (c - 1+d)=qN c i (c - 1+(j+1))
  ·rw[e,pcL_lay hc6 (qN_lt h1 _ _) hjl (hX _),←hF _ (by omega)]
  ·rw[pcL_lay_ne hc6 (qN_lt h1 _ _) (qN_lt h1 _ _) e hjl (hX _)]
   refine tsJ_at h1 hc6 hl hX hF j d ?_
   rcases Nat.lt_or_ge j d with q|q
   ·exact absurd (by rw[show d=j+1 by omega]) e
   ·exact q
theorem tsJ_all{n c i:Nat}{X:Nat→List Int}{ts:List Int}{F:Nat→List Int}(h1:1≤c)(hc6:c≤6)(hi:i<c)(hl:ts.length=n)(hX:∀k,(X k).length=stN n c (qN c i k+1) - stN n c (qN c i k))(hF:∀k,c≤k+1→X k=F (qN c i k)){p:Nat}(hp:p<c):pcL n c p (tsJ n c i X ts (c - 1))=F p:=by
 obtain ⟨j,hj,rfl⟩:=qN_all h1 hc6 hi hp
 exact tsJ_at h1 hc6 hl hX hF _ _ hj
def MsgR (n c:Nat) (ps:Nat→List Int) (C:Nat→Nat):Msg:=fun ch j v W mb mo=>∃w,w<c∧ch=C w∧∃L,Lst W L v (xN n c ps ((w+c - 1) % c) j)∧mb=lsB L∧mo=lsB L
theorem msgR_fast(n c:Nat)(ps:Nat→List Int)(C:Nat→Nat):(MsgR n c ps C).Fast:=by
 rintro ch j v W W' mb mo ⟨w,hw,rfl,L,hL,rfl,rfl⟩ hx
 exact ⟨w,hw,rfl,L,hL.keep fun B hB=>hx.keep B hB (hL.lt B hB),rfl,rfl⟩
section
variable {E:Env} {Goal:Stand} {n:Nat} {b c:Frame} {a:Act} {cs:List Frame} {W:World} {kn ow:Nat→Prop}
theorem path_end(h:Here W kn ow){fn:Func}{v:Value}(hn:b.kind=.normal)(hd:a.defers=[])(hf:E.P.funcs[b.fn]?=some fn)(hr:∀W',(results fn a.tmps).run E.P W'=.ok v W')(he:∀W',(results fn a.tmps).events E.P W' #[]=#[])
  (hp:∃ρ,Path E Goal n ρ (G (c.finish v) cs) W kn ow):∃ρ,Path E Goal (n+2) ρ (G (b.at a []) (c::cs)) W kn ow:=
 Path.go h.knl h.owk rfl (fun _ _ _=>stepG_end) rfl (Path.go h.knl h.owk rfl (fun W' _ _=>stepG_leave hn hd hf (hr W') (he W')) rfl hp)
theorem Path.up{E:Env}{Goal:Stand}{N n:Nat}{g:Goroutine}{W:World}{kn ow:Nat→Prop}(h:N≤n)(hp:∃ρ,Path E Goal N ρ g W kn ow):∃ρ,Path E Goal n ρ g W kn ow:=hp.imp fun _ q=>q.mono h
end
end Go.Proofs.Ytniloklglpchfai
