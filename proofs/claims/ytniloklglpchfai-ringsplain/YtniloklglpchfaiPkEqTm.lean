/- Many that talk over channels: sends and receives; whoever moves comes nearer to its end. No program in sight. -/
import Derived.Test.YtniloklglpchfaiPkEqMt
namespace Go.Proofs.Ytniloklglpchfai
open Go Go.Conc
theorem Mute.still{u:Trace}(h:Mute u)(g:Nat){t:Trace}:Deaf (t++u) g=Deaf t g:=h.deaf g
section
variable {E:Env} {M:Msg} {Fin:Nat→Stand} {chs:List Nat} {cap rdr wtr:Nat→Nat} {Out Sh In:Nat→Prop} {gs:Array Goroutine} {W:World} {t:Trace} {kn ow:Who→Nat→Prop} {snt rcv:Nat→Nat} {sc:Nat→List Cm} {pk:Nat→Bool} {n:Nat→Nat} {ρ:Nat→Rho} {sl:Option (Nat×Nat)} {i:Nat} {g:Goroutine}
theorem chan_ext(T:Talk E M Fin chs cap rdr wtr Out Sh In gs W t kn ow snt rcv sc pk n ρ){c:Nat}(hc:c∈chs)(k:Who)(cp:Nat)(buf:Array Value)(cl:Bool)(s r:Nat)(tm:Bool):Ext (kn k) W (W.setChan c cp buf cl s r tm):=
 Ext.chan (fun z=>(T.net.apt.low k c z).2 (T.net.chan c hc).1) ..
theorem Talk.send(T:Talk E M Fin chs cap rdr wtr Out Sh In gs W t kn ow snt rcv sc pk n ρ)(hM:M.Fast)(hF:∀i g W kn ow,Fin i g W kn ow→g.status=.running)(hi:In i)(hpk:pk i=false)(hg:gs[i]?=some g){c j:Nat}{l:List Cm}(hsc:sc i=(true,c,j)::l)(hrun:Run E M (Fin i) (sc i) g W (kn (.inl i)) (ow (.inl i)))
  (hno:∀k,¬(In k∧pk k=true∧rdr c=k∧∃j l,sc k=(false,c,j)::l)) (hroom:snt c<rcv c+cap c):
  ∃gs' W' u kn' ow' n1 ρ1,runT E.P (crowd gs W sl) i=(.next (crowd gs' W' sl),u)∧Talk E M Fin chs cap rdr wtr Out Sh In gs' W' (t++u) kn' ow' (bump snt c) rcv (upF sc i l) pk (upF n i n1) (upF ρ i ρ1)∧
   Turn E chs rdr wtr In i gs gs' W W' u kn ow kn' ow' sc (upF sc i l) snt (bump snt c) rcv rcv (rkOf sc pk n ρ) (rkOf (upF sc i l) pk (upF n i n1) (upF ρ i ρ1)):=by
 rw[hsc]at hrun
 obtain ⟨_,g₂,v,z,hst,mb,mo,k1,o1,hm,hsp,n1,ρ1,hp⟩:=hrun
 have hord:=T.ord i hi
 rw[hsc]at hord
 obtain ⟨hc,hw,rfl,hord⟩:=hord
 obtain ⟨buf,b1,b2,hnet⟩:=T.net.send hM hc (T.deaf i hi) hm hsp g₂.frame.fn g₂.frame.place
 obtain ⟨gs',hr,hsz,hgi,hgk⟩:=turn_send (sl:=sl) hg hst b1 (by omega) (fun k x _ hx=>T.noRecv hF hc k x hx (hno k))
 have hki:∀k,¬In k→k≠i:=fun k hk e=>hk (e▸hi)
 have hlen:LtK (rkOf (upF sc i l) pk (upF n i n1) (upF ρ i ρ1) i) (rkOf sc pk n ρ i):=by
  unfold rkOf
  rw[upF_self,hsc,hpk]
  exact .left _ _ (by simp)
 refine ⟨gs',_,_,_,_,n1,ρ1,hr,⟨hnet,T.room,fun d hd=>?_,fun k hk=>by rw[mute_send.still];exact T.deaf k hk,fun k hk=>?_,fun k hk=>?_,fun k c' j' l' hk h1 h2=>?_,fun k c' j' l' hk h1 h2=>?_,fun k x hk hx=>?_⟩,⟨Cnt.pops hi hsc hw,hsz,fun k hk=>.inl (hgk k (hki k hk)),fun k=>?_,hlen,by rw[size_setChan];exact Nat.le_refl _,rfl,fun B _ _ h3=>get_setChan _ _ _ _ _ _ _ _ (fun e=>h3 (e▸hc)),fun k hk=>⟨gives_off _ (hki k hk) ..,gives_off _ (hki k hk) ..⟩,.inl fun op hop=>⟨(mute_send op hop).1,fun m e=>?_⟩,fun x B q=>.inl (gives_had hsp.b1 hsp.b2 x B q)⟩⟩
 ·have:=T.fit d hd
  by_cases e:d=c
  ·subst e;rw[bump_self];omega
  ·rw[bump_ne _ e];exact this
 ·by_cases e:k=i
  ·subst e
   rw[gives_self,gives_self,upF_self,upF_self,upF_self]
   exact ⟨_,hgi,.inl ⟨hpk,hp.ext ((chan_ext T hc (.inl k) ..).le hsp.a1)⟩⟩
  ·rw[gives_off _ e,gives_off _ e,upF_ne _ e,upF_ne _ e,upF_ne _ e]
   obtain ⟨x,hx,hsit⟩:=T.sit k hk
   exact ⟨x,by rw[hgk k e];exact hx,hsit.ext hM (chan_ext T hc (.inl k) ..)⟩
 ·by_cases e:k=i
  ·subst e
   rw[upF_self]
   exact hord
  ·rw[upF_ne _ e]
   exact (T.ord k hk).same (fun d hd=>bump_ne _ (fun z=>e (by rw[←hd,z,hw]))) (fun _ _=>rfl)
 ·by_cases e:k=i
  ·subst e
   rw[hpk]at h1
   cases h1
  ·rw[upF_ne _ e]at h2
   have hne:c'≠c:=fun z=>by
    subst z
    have ho:=T.ord k hk
    rw[h2]at ho
    exact hno k ⟨hk,h1,ho.2.1,j',l',h2⟩
   rw[bump_ne _ hne]
   exact T.park k c' j' l' hk h1 h2
 ·by_cases e:k=i
  ·subst e
   rw[hpk]at h1
   cases h1
  ·rw[upF_ne _ e]at h2
   have ho:=T.ord k hk
   rw[h2]at ho
   rw[bump_ne _ (fun z=>e (by rw[←ho.2.1,z,hw]))]
   exact T.full k c' j' l' hk h1 h2
 ·exact T.off k x hk (by rw[←hgk k (hki k hk)];exact hx)
 ·by_cases e:k=i
  ·subst e
   exact .inr hlen
  ·left
   unfold rkOf
   rw[upF_ne _ e,upF_ne _ e,upF_ne _ e]
 ·simp only[List.mem_toArray,List.mem_cons,List.not_mem_nil,or_false]at hop
  rcases hop with rfl|rfl<;>cases e
theorem Talk.fits(T:Talk E M Fin chs cap rdr wtr Out Sh In gs W t kn ow snt rcv sc pk n ρ)(i c j:Nat):(∀B,kn (.inr (c,j)) B→B<W.heap.size)∧(∀B,ow (.inr (c,j)) B→kn (.inr (c,j)) B)∧(∀B,ow (.inr (c,j)) B→¬kn (.inl i) B)∧(∀B,kn (.inr (c,j)) B→¬ow (.inl i) B):=
 ⟨fun B q=>T.klow _ B q,fun B q=>T.net.apt.own _ B q,fun B q z=>T.net.apt.dis _ _ B (inl_inr _ _) z q,fun B q=>T.net.apt.dis _ _ B (inr_inl _ _) q⟩
theorem Talk.recv(T:Talk E M Fin chs cap rdr wtr Out Sh In gs W t kn ow snt rcv sc pk n ρ)(hM:M.Fast)(hF:∀i g W kn ow,Fin i g W kn ow→g.status=.running)(hi:In i)(hpk:pk i=false)(hg:gs[i]?=some g){c j:Nat}{l:List Cm}(hsc:sc i=(false,c,j)::l)(hrun:Run E M (Fin i) (sc i) g W (kn (.inl i)) (ow (.inl i)))(hlt:rcv c<snt c)
  (hno:∀k,¬(In k∧pk k=true∧wtr c=k∧∃j l,sc k=(true,c,j)::l)):
  ∃gs' W' u kn' ow' n1 ρ1,runT E.P (crowd gs W sl) i=(.next (crowd gs' W' sl),u)∧Talk E M Fin chs cap rdr wtr Out Sh In gs' W' (t++u) kn' ow' snt (bump rcv c) (upF sc i l) pk (upF n i n1) (upF ρ i ρ1)∧
   Turn E chs rdr wtr In i gs gs' W W' u kn ow kn' ow' sc (upF sc i l) snt snt rcv (bump rcv c) (rkOf sc pk n ρ) (rkOf (upF sc i l) pk (upF n i n1) (upF ρ i ρ1)):=by
 rw[hsc]at hrun
 obtain ⟨_,g₂,z,f,hst,hget⟩:=hrun
 have hord:=T.ord i hi
 rw[hsc]at hord
 obtain ⟨hc,hw,rfl,hord⟩:=hord
 obtain ⟨buf,v,b1,_,b2,b3,b4,hnet⟩:=T.net.recv hM hc (T.deaf i hi) hlt g₂.frame.fn g₂.frame.place (cap c)
 obtain ⟨gs',hr,hsz,hgi,hgk⟩:=turn_recv (sl:=sl) hg hst b1 b2 (fun k x _ hx=>T.noSend hF hc k x hx (hno k))
 rw[b3]at hgi
 obtain ⟨f1,f2,f3,f4⟩:=T.fits i c (rcv c)
 obtain ⟨n1,ρ1,hp⟩:=hget (W.setChan c (cap c) (buf.extract 1 buf.size) false (snt c) (rcv c+1) false) v _ _ (chan_ext T hc (.inl i) ..) (hM _ _ _ _ _ _ _ b4 (chan_ext T hc _ ..)) (fun B q=>by rw[size_setChan];exact f1 B q) f2 f3 f4
 have hki:∀k,¬In k→k≠i:=fun k hk e=>hk (e▸hi)
 have hlen:LtK (rkOf (upF sc i l) pk (upF n i n1) (upF ρ i ρ1) i) (rkOf sc pk n ρ i):=by
  unfold rkOf
  rw[upF_self,hsc,hpk]
  exact .left _ _ (by simp)
 refine ⟨gs',_,_,_,_,n1,ρ1,hr,⟨hnet,T.room,fun d hd=>?_,fun k hk=>by rw[mute_recv.still];exact T.deaf k hk,fun k hk=>?_,fun k hk=>?_,fun k c' j' l' hk h1 h2=>?_,fun k c' j' l' hk h1 h2=>?_,fun k x hk hx=>?_⟩,⟨Cnt.popr hi hsc hw,hsz,fun k hk=>.inl (hgk k (hki k hk)),fun k=>?_,hlen,by rw[size_setChan];exact Nat.le_refl _,rfl,fun B _ _ h3=>get_setChan _ _ _ _ _ _ _ _ (fun e=>h3 (e▸hc)),fun k hk=>⟨takes_off _ (hki k hk) ..,takes_off _ (hki k hk) ..⟩,.inl fun op hop=>⟨(mute_recv op hop).1,fun m e=>?_⟩,fun x B q=>.inl (takes_had x B q)⟩⟩
 ·have:=T.fit d hd
  unfold bump
  split<;>omega
 ·by_cases e:k=i
  ·subst e
   rw[takes_self,takes_self,upF_self,upF_self,upF_self]
   exact ⟨_,hgi,.inl ⟨hpk,hp⟩⟩
  ·rw[takes_off _ e,takes_off _ e,upF_ne _ e,upF_ne _ e,upF_ne _ e]
   obtain ⟨x,hx,hsit⟩:=T.sit k hk
   exact ⟨x,by rw[hgk k e];exact hx,hsit.ext hM (chan_ext T hc (.inl k) ..)⟩
 ·by_cases e:k=i
  ·subst e
   rw[upF_self]
   exact hord
  ·rw[upF_ne _ e]
   exact (T.ord k hk).same (fun _ _=>rfl) (fun d hd=>bump_ne _ (fun z=>e (by rw[←hd,z,hw])))
 ·by_cases e:k=i
  ·subst e
   rw[hpk]at h1
   cases h1
  ·rw[upF_ne _ e]at h2
   have ho:=T.ord k hk
   rw[h2]at ho
   rw[bump_ne _ (fun z=>e (by rw[←ho.2.1,z,hw]))]
   exact T.park k c' j' l' hk h1 h2
 ·by_cases e:k=i
  ·subst e
   rw[hpk]at h1
   cases h1
  ·rw[upF_ne _ e]at h2
   have hne:c'≠c:=fun z=>by
    subst z
    have ho:=T.ord k hk
    rw[h2]at ho
    exact hno k ⟨hk,h1,ho.2.1,j',l',h2⟩
   rw[bump_ne _ hne]
   exact T.full k c' j' l' hk h1 h2
 ·exact T.off k x hk (by rw[←hgk k (hki k hk)];exact hx)
 ·by_cases e:k=i
  ·subst e
   exact .inr hlen
  ·left
   unfold rkOf
   rw[upF_ne _ e,upF_ne _ e,upF_ne _ e]
 ·simp only[List.mem_toArray,List.mem_cons,List.not_mem_nil,or_false]at hop
  rcases hop with rfl|rfl<;>cases e
theorem Talk.parks(T:Talk E M Fin chs cap rdr wtr Out Sh In gs W t kn ow snt rcv sc pk n ρ)(hi:In i)(hpk:pk i=false){gs':Array Goroutine}{x:Goroutine}(hr:runT E.P (crowd gs W sl) i=(.next (crowd gs' W sl),#[]))(hsz:gs'.size=gs.size)(hgi:gs'[i]?=some x)(hgk:∀k,k≠i→gs'[k]?=gs[k]?)
  (hsit:Sit E M (Fin i) (sc i) true (n i) (ρ i) x W (kn (.inl i)) (ow (.inl i))) (hp:∀c j l,sc i=(false,c,j)::l→rcv c=snt c) (hf:∀c j l,sc i=(true,c,j)::l→rcv c+cap c=snt c):
  Talk E M Fin chs cap rdr wtr Out Sh In gs' W (t++#[]) kn ow snt rcv sc (upF pk i true) n ρ∧Turn E chs rdr wtr In i gs gs' W W #[] kn ow kn ow sc sc snt snt rcv rcv (rkOf sc pk n ρ) (rkOf sc (upF pk i true) n ρ):=by
 have hki:∀k,¬In k→k≠i:=fun k hk e=>hk (e▸hi)
 have hlen:LtK (rkOf sc (upF pk i true) n ρ i) (rkOf sc pk n ρ i):=by
  unfold rkOf
  rw[upF_self,hpk]
  exact .left _ _ (by simp)
 refine ⟨⟨by simpa using T.net,T.room,T.fit,fun k hk=>by simpa using T.deaf k hk,fun k hk=>?_,T.ord,fun k c' j' l' hk h1 h2=>?_,fun k c' j' l' hk h1 h2=>?_,fun k x hk hx=>?_⟩,⟨Cnt.refl ..,hsz,fun k hk=>.inl (hgk k (hki k hk)),fun k=>?_,hlen,Nat.le_refl _,rfl,fun _ _ _ _=>rfl,fun _ _=>⟨rfl,rfl⟩,.inl (fun op hop=>by simp at hop),fun x B q=>.inl ⟨x,q⟩⟩⟩
 ·by_cases e:k=i
  ·subst e
   rw[upF_self]
   exact ⟨_,hgi,hsit⟩
  ·rw[upF_ne _ e]
   obtain ⟨x,hx,hsit⟩:=T.sit k hk
   exact ⟨x,by rw[hgk k e];exact hx,hsit⟩
 ·by_cases e:k=i
  ·subst e
   exact hp c' j' l' h2
  ·rw[upF_ne _ e]at h1
   exact T.park k c' j' l' hk h1 h2
 ·by_cases e:k=i
  ·subst e
   exact hf c' j' l' h2
  ·rw[upF_ne _ e]at h1
   exact T.full k c' j' l' hk h1 h2
 ·exact T.off k x hk (by rw[←hgk k (hki k hk)];exact hx)
 ·by_cases e:k=i
  ·subst e
   exact .inr hlen
  ·left
   unfold rkOf
   rw[upF_ne _ e]
theorem cm_inj{b b':Bool}{c j c' j':Nat}{l l':List Cm}(h:(b,c,j)::l=(b',c',j')::l'):b=b'∧c=c'∧j=j'∧l=l':=by
 obtain ⟨e1,e2⟩:=List.cons.inj h
 obtain ⟨e3,e4⟩:=Prod.mk.inj e1
 obtain ⟨e5,e6⟩:=Prod.mk.inj e4
 exact ⟨e3,e5,e6,e2⟩
theorem Talk.wait(T:Talk E M Fin chs cap rdr wtr Out Sh In gs W t kn ow snt rcv sc pk n ρ)(hF:∀i g W kn ow,Fin i g W kn ow→g.status=.running)(hi:In i)(hpk:pk i=false)(hg:gs[i]?=some g){c j:Nat}{l:List Cm}(hsc:sc i=(false,c,j)::l)(hrun:Run E M (Fin i) (sc i) g W (kn (.inl i)) (ow (.inl i)))(hlt:¬rcv c<snt c):
  ∃gs',runT E.P (crowd gs W sl) i=(.next (crowd gs' W sl),#[])∧Talk E M Fin chs cap rdr wtr Out Sh In gs' W (t++#[]) kn ow snt rcv sc (upF pk i true) n ρ∧
   Turn E chs rdr wtr In i gs gs' W W #[] kn ow kn ow sc sc snt snt rcv rcv (rkOf sc pk n ρ) (rkOf sc (upF pk i true) n ρ):=by
 rw[hsc]at hrun
 obtain ⟨_,g₂,z,f,hst,hget⟩:=hrun
 have hord:=T.ord i hi
 rw[hsc]at hord
 obtain ⟨hc,hw,rfl,hord⟩:=hord
 obtain ⟨buf,b1,b2⟩:=T.chan hc
 have hb:buf=#[]:=Array.eq_empty_of_size_eq_zero (by omega)
 subst hb
 have heq:rcv c=snt c:=b2
 obtain ⟨gs',hr,hsz,hgi,hgk⟩:=turn_wait (sl:=sl) hg hst b1 (fun k x _ hx=>T.noSend hF hc k x hx (fun q=>by
  obtain ⟨q1,q2,_,j',l',q3⟩:=q
  have:=T.full k c j' l' q1 q2 q3
  have:=T.room c hc
  omega))
 exact ⟨gs',hr,T.parks hi hpk hr hsz hgi hgk (.inr (.inl ⟨rfl,c,_,l,g₂,z,f,hsc,rfl,hget⟩)) (fun c' j' l' h2=>by rw[hsc]at h2;obtain ⟨_,rfl,_⟩:=cm_inj h2;exact heq) (fun c' j' l' h2=>by rw[hsc]at h2;obtain ⟨q,_⟩:=cm_inj h2;cases q)⟩
theorem Talk.stays(T:Talk E M Fin chs cap rdr wtr Out Sh In gs W t kn ow snt rcv sc pk n ρ)(hF:∀i g W kn ow,Fin i g W kn ow→g.status=.running)(hi:In i)(hpk:pk i=false)(hg:gs[i]?=some g){c j:Nat}{l:List Cm}(hsc:sc i=(true,c,j)::l)(hrun:Run E M (Fin i) (sc i) g W (kn (.inl i)) (ow (.inl i)))
  (hno:∀k,¬(In k∧pk k=true∧rdr c=k∧∃j l,sc k=(false,c,j)::l)) (hroom:¬snt c<rcv c+cap c):
  ∃gs',runT E.P (crowd gs W sl) i=(.next (crowd gs' W sl),#[])∧Talk E M Fin chs cap rdr wtr Out Sh In gs' W (t++#[]) kn ow snt rcv sc (upF pk i true) n ρ∧
   Turn E chs rdr wtr In i gs gs' W W #[] kn ow kn ow sc sc snt snt rcv rcv (rkOf sc pk n ρ) (rkOf sc (upF pk i true) n ρ):=by
 rw[hsc]at hrun
 obtain ⟨_,g₂,v,z,hst,hput⟩:=hrun
 have hord:=T.ord i hi
 rw[hsc]at hord
 obtain ⟨hc,hw,rfl,hord⟩:=hord
 obtain ⟨buf,b1,b2⟩:=T.chan hc
 have hcap:=T.fit c hc
 obtain ⟨gs',hr,hsz,hgi,hgk⟩:=turn_full (sl:=sl) hg hst b1 (by omega) (fun k x _ hx=>T.noRecv hF hc k x hx (hno k))
 exact ⟨gs',hr,T.parks hi hpk hr hsz hgi hgk (.inr (.inr ⟨rfl,c,_,l,g₂,v,z,hsc,rfl,hput⟩)) (fun c' j' l' h2=>by rw[hsc]at h2;obtain ⟨q,_⟩:=cm_inj h2;cases q) (fun c' j' l' h2=>by rw[hsc]at h2;obtain ⟨_,rfl,_⟩:=cm_inj h2;omega)⟩
end
section
variable {E:Env} {M:Msg} {Fin:Nat→Stand} {chs:List Nat} {cap rdr wtr:Nat→Nat} {Out Sh In:Nat→Prop} {gs:Array Goroutine} {W:World} {t:Trace} {kn ow:Who→Nat→Prop} {snt rcv:Nat→Nat} {sc:Nat→List Cm} {pk:Nat→Bool} {n:Nat→Nat} {ρ:Nat→Rho} {sl:Option (Nat×Nat)} {i:Nat} {g:Goroutine}
theorem Talk.two(T:Talk E M Fin chs cap rdr wtr Out Sh In gs W t kn ow snt rcv sc pk n ρ)(hM:M.Fast)(hi:In i)(hpk:pk i=false){a c s r j ja:Nat}(ha:In a)(hap:pk a=true)(hai:a≠i){b:Bool}{l la:List Cm}(hsc:sc i=(b,c,j)::l)(hasc:sc a=(!b,c,ja)::la){cp:Nat}{bf:Array Value}{u:Trace}{gs':Array Goroutine}{x y:Goroutine}{kn' ow':Who→Nat→Prop}{n1 n2:Nat}{ρ1 ρ2:Rho}
  (hc:c∈chs) (hwi:(if b then wtr c else rdr c)=i) (hwa:(if b then rdr c else wtr c)=a) (hu:Mute u) (hum:∀op∈u,∀m,op.act≠.mark m) (hnet:Net M Out Sh (W.setChan c cp bf false s r false) (t++u) kn' ow' chs cap (bump snt c) (bump rcv c)) (hsz:gs'.size=gs.size) (hgi:gs'[i]?=some x) (hga:gs'[a]?=some y) (hgk:∀k,k≠i→k≠a→gs'[k]?=gs[k]?)
  (hkk:∀k,k≠i→k≠a→kn' (.inl k)=kn (.inl k)∧ow' (.inl k)=ow (.inl k)) (hown:∀z B,ow' z B→∃y,ow y B) (hpi:Path E (Run E M (Fin i) l) n1 ρ1 x (W.setChan c cp bf false s r false) (kn' (.inl i)) (ow' (.inl i))) (hpa:Path E (Run E M (Fin a) la) n2 ρ2 y (W.setChan c cp bf false s r false) (kn' (.inl a)) (ow' (.inl a)))
  (ho1:Ord chs rdr wtr i l (bump snt c) (bump rcv c)) (ho2:Ord chs rdr wtr a la (bump snt c) (bump rcv c)):
  Talk E M Fin chs cap rdr wtr Out Sh In gs' (W.setChan c cp bf false s r false) (t++u) kn' ow' (bump snt c) (bump rcv c) (upF (upF sc i l) a la) (upF pk a false) (upF (upF n i n1) a n2) (upF (upF ρ i ρ1) a ρ2)∧
   Turn E chs rdr wtr In i gs gs' W (W.setChan c cp bf false s r false) u kn ow kn' ow' sc (upF (upF sc i l) a la) snt (bump snt c) rcv (bump rcv c) (rkOf sc pk n ρ) (rkOf (upF (upF sc i l) a la) (upF pk a false) (upF (upF n i n1) a n2) (upF (upF ρ i ρ1) a ρ2)):=by
 have hki:∀k,¬In k→k≠i:=fun k hk e=>hk (e▸hi)
 have hka:∀k,¬In k→k≠a:=fun k hk e=>hk (e▸ha)
 have hw:∀d,wtr d≠i→wtr d≠a→d≠c:=fun d q1 q2 e=>by
  subst e
  cases b
  ·exact q2 hwa
  ·exact q1 hwi
 have hr:∀d,rdr d≠i→rdr d≠a→d≠c:=fun d q1 q2 e=>by
  subst e
  cases b
  ·exact q1 hwi
  ·exact q2 hwa
 have hlen:LtK (rkOf (upF (upF sc i l) a la) (upF pk a false) (upF (upF n i n1) a n2) (upF (upF ρ i ρ1) a ρ2) i) (rkOf sc pk n ρ i):=by
  unfold rkOf
  rw[upF_ne _ (fun e=>hai e.symm),upF_ne _ (fun e=>hai e.symm),upF_self,hsc,hpk]
  exact .left _ _ (by simp)
 have hold:∀k,k≠i→k≠a→∀d j l,In k→∀q,sc k=(q,d,j)::l→d≠c:=fun k h1 h2 d j l hk q hq=>by
  have ho:=T.ord k hk
  rw[hq]at ho
  cases q
  ·exact hr d (fun e=>h1 (ho.2.1.symm.trans e)) (fun e=>h2 (ho.2.1.symm.trans e))
  ·exact hw d (fun e=>h1 (ho.2.1.symm.trans e)) (fun e=>h2 (ho.2.1.symm.trans e))
 have hcnt:Cnt In rdr wtr sc (upF (upF sc i l) a la) snt (bump snt c) rcv (bump rcv c):=by
  have hasc':upF sc i l a=(!b,c,ja)::la:=by rw[upF_ne _ hai];exact hasc
  cases b
  ·exact (Cnt.popr hi hsc hwi).trans (Cnt.pops ha hasc' hwa)
  ·exact (Cnt.pops hi hsc hwi).trans (Cnt.popr ha hasc' hwa)
 refine ⟨⟨hnet,T.room,fun d hd=>?_,fun k hk=>by rw[hu.still];exact T.deaf k hk,fun k hk=>?_,fun k hk=>?_,fun k c' j' l' hk h1 h2=>?_,fun k c' j' l' hk h1 h2=>?_,fun k x hk hx=>?_⟩,⟨hcnt,hsz,fun k hk=>.inl (hgk k (hki k hk) (hka k hk)),fun k=>?_,hlen,by rw[size_setChan];exact Nat.le_refl _,rfl,fun B _ _ h3=>get_setChan _ _ _ _ _ _ _ _ (fun e=>h3 (e▸hc)),fun k hk=>hkk k (hki k hk) (hka k hk),.inl (fun op hop=>⟨(hu op hop).1,hum op hop⟩),fun x B q=>.inl (hown x B q)⟩⟩
 ·have:=T.fit d hd
  unfold bump
  split<;>omega
 ·by_cases e:k=a
  ·subst e
   rw[upF_self,upF_self,upF_self,upF_self]
   exact ⟨_,hga,.inl ⟨rfl,hpa⟩⟩
  ·rw[upF_ne _ e,upF_ne _ e,upF_ne _ e,upF_ne _ e]
   by_cases e2:k=i
   ·subst e2
    rw[upF_self,upF_self,upF_self]
    exact ⟨_,hgi,.inl ⟨hpk,hpi⟩⟩
   ·rw[upF_ne _ e2,upF_ne _ e2,upF_ne _ e2,(hkk k e2 e).1,(hkk k e2 e).2]
    obtain ⟨z,hz,hsit⟩:=T.sit k hk
    exact ⟨z,by rw[hgk k e2 e];exact hz,hsit.ext hM (chan_ext T hc (.inl k) ..)⟩
 ·by_cases e:k=a
  ·subst e
   rw[upF_self]
   exact ho2
  ·rw[upF_ne _ e]
   by_cases e2:k=i
   ·subst e2
    rw[upF_self]
    exact ho1
   ·rw[upF_ne _ e2]
    exact (T.ord k hk).same (fun d hd=>bump_ne _ (hw d (fun z=>e2 (hd.symm.trans z)) (fun z=>e (hd.symm.trans z)))) (fun d hd=>bump_ne _ (hr d (fun z=>e2 (hd.symm.trans z)) (fun z=>e (hd.symm.trans z))))
 ·by_cases e:k=a
  ·subst e
   rw[upF_self]at h1
   cases h1
  ·rw[upF_ne _ e]at h1 h2
   by_cases e2:k=i
   ·subst e2
    rw[hpk]at h1
    cases h1
   ·rw[upF_ne _ e2]at h2
    have hne:=hold k e2 e c' j' l' hk _ h2
    rw[bump_ne _ hne,bump_ne _ hne]
    exact T.park k c' j' l' hk h1 h2
 ·by_cases e:k=a
  ·subst e
   rw[upF_self]at h1
   cases h1
  ·rw[upF_ne _ e]at h1 h2
   by_cases e2:k=i
   ·subst e2
    rw[hpk]at h1
    cases h1
   ·rw[upF_ne _ e2]at h2
    have hne:=hold k e2 e c' j' l' hk _ h2
    rw[bump_ne _ hne,bump_ne _ hne]
    exact T.full k c' j' l' hk h1 h2
 ·exact T.off k x hk (by rw[←hgk k (hki k hk) (hka k hk)];exact hx)
 ·by_cases e:k=a
  ·subst e
   right
   unfold rkOf
   rw[upF_self,upF_self,upF_self,upF_self,hasc,hap]
   exact .left _ _ (by simp;omega)
  ·by_cases e2:k=i
   ·subst e2
    exact .inr hlen
   ·left
    unfold rkOf
    rw[upF_ne _ e,upF_ne _ e,upF_ne _ e,upF_ne _ e,upF_ne _ e2,upF_ne _ e2,upF_ne _ e2]
theorem Talk.meet(T:Talk E M Fin chs cap rdr wtr Out Sh In gs W t kn ow snt rcv sc pk n ρ)(hM:M.Fast)(hF:∀i g W kn ow,Fin i g W kn ow→g.status=.running)(hi:In i)(hpk:pk i=false)(hg:gs[i]?=some g){c j a:Nat}{l:List Cm}(hsc:sc i=(true,c,j)::l)(hrun:Run E M (Fin i) (sc i) g W (kn (.inl i)) (ow (.inl i)))
  (ha:In a) (hap:pk a=true) {ja:Nat} {la:List Cm} (hasc:sc a=(false,c,ja)::la):
  ∃gs' W' u kn' ow' n1 ρ1 n2 ρ2,runT E.P (crowd gs W sl) i=(.next (crowd gs' W' sl),u)∧Talk E M Fin chs cap rdr wtr Out Sh In gs' W' (t++u) kn' ow' (bump snt c) (bump rcv c) (upF (upF sc i l) a la) (upF pk a false) (upF (upF n i n1) a n2) (upF (upF ρ i ρ1) a ρ2)∧
   Turn E chs rdr wtr In i gs gs' W W' u kn ow kn' ow' sc (upF (upF sc i l) a la) snt (bump snt c) rcv (bump rcv c) (rkOf sc pk n ρ) (rkOf (upF (upF sc i l) a la) (upF pk a false) (upF (upF n i n1) a n2) (upF (upF ρ i ρ1) a ρ2)):=by
 rw[hsc]at hrun
 obtain ⟨_,g₂,v,z,hst,mb,mo,k1,o1,hm,hsp,n1,ρ1,hp⟩:=hrun
 have hord:=T.ord i hi
 rw[hsc]at hord
 obtain ⟨hc,hw,rfl,hord⟩:=hord
 have hoa:=T.ord a ha
 rw[hasc]at hoa
 obtain ⟨_,hra,rfl,hoa⟩:=hoa
 have hai:a≠i:=fun e=>by rw[e,hpk]at hap;cases hap
 have heq:=T.park a c _ la ha hap hasc
 obtain ⟨x,hx,hsa⟩:=T.sit a ha
 rcases hsa with ⟨q,_⟩|⟨_,c',j',l',gj,zj,f,q1,rfl,hget⟩|⟨_,c',j',l',gj,v',zj,q1,_⟩
 ·rw[hap]at q;cases q
 case inr.inr=>rw[hasc]at q1;obtain ⟨q,_⟩:=cm_inj q1;cases q
 rw[hasc]at q1
 obtain ⟨_,rfl,rfl,rfl⟩:=cm_inj q1
 obtain ⟨b1,hnet⟩:=T.net.meet hM hc (T.deaf i hi) (T.deaf a ha) hai hm hsp heq g₂.frame.fn gj.frame.fn g₂.frame.place gj.frame.place (cap c)
 obtain ⟨gs',hr,hsz,hgi,hga,hgk⟩:=turn_meet (sl:=sl) hg hst b1 hai hx (fun k x _ h2 hx=>T.noRecv hF hc k x hx (fun q=>h2 (q.2.2.1.symm.trans hra)))
 have hke:∀(f:Who→Nat→Prop) (x y:Nat→Prop),takes (gives f i c (snt c) x y) a c (snt c) (.inl a)=orP (f (.inl a)) y:=fun f x y=>by rw[takes_self,gives_off _ hai,gives_msg]
 have hio:∀(f:Who→Nat→Prop) (x y:Nat→Prop),takes (gives f i c (snt c) x y) a c (snt c) (.inl i)=x:=fun f x y=>by rw[takes_off _ (fun e=>hai e.symm),gives_self]
 obtain ⟨n2,ρ2,hp2⟩:=hget (W.setChan c (cap c) #[] false (snt c+1) (rcv c+1) false) v mb mo (chan_ext T hc (.inl a) ..) (by rw[heq];exact hM _ _ _ _ _ _ _ hm ((chan_ext T hc (.inl i) ..).le hsp.a2)) (fun B q=>by rw[size_setChan];exact T.klow _ B (hsp.a2 B q)) hsp.c2 (fun B q z=>T.net.apt.dis _ _ B (inl_ne hai) z (hsp.b2 B q)) (fun B q=>T.net.apt.dis _ _ B (inl_ne fun e=>hai e.symm) (hsp.a2 B q))
 obtain ⟨h1,h2⟩:=T.two (b:=true) hM hi hpk ha hap hai hsc hasc hc hw hra mute_met (fun op hop m e=>by
   simp only[List.mem_toArray,List.mem_cons,List.not_mem_nil,or_false]at hop
   rcases hop with rfl|rfl|rfl|rfl<;>cases e) hnet hsz hgi hga hgk (fun k e1 e2=>⟨by rw[takes_off _ e2,gives_off _ e1],by rw[takes_off _ e2,gives_off _ e1]⟩) (fun z B q=>by obtain ⟨y,q⟩:=takes_had z B q;exact gives_had hsp.b1 hsp.b2 y B q) (by rw[hio,hio];exact hp.ext ((chan_ext T hc (.inl i) ..).le hsp.a1)) (by rw[hke,hke];exact hp2)
   (hord.same (fun _ _=>rfl) (fun d hd=>bump_ne _ (fun z=>hai (by rw[←hd,z,hra])))) (hoa.same (fun d hd=>bump_ne _ (fun z=>hai (by rw[←hd,z,hw]))) (fun _ _=>rfl))
 exact ⟨gs',_,_,_,_,n1,ρ1,n2,ρ2,hr,h1,h2⟩
theorem Talk.shift(T:Talk E M Fin chs cap rdr wtr Out Sh In gs W t kn ow snt rcv sc pk n ρ)(hM:M.Fast)(hF:∀i g W kn ow,Fin i g W kn ow→g.status=.running)(hi:In i)(hpk:pk i=false)(hg:gs[i]?=some g){c j a:Nat}{l:List Cm}(hsc:sc i=(false,c,j)::l)(hrun:Run E M (Fin i) (sc i) g W (kn (.inl i)) (ow (.inl i)))
  (ha:In a) (hap:pk a=true) {ja:Nat} {la:List Cm} (hasc:sc a=(true,c,ja)::la):
  ∃gs' W' u kn' ow' n1 ρ1 n2 ρ2,runT E.P (crowd gs W sl) i=(.next (crowd gs' W' sl),u)∧Talk E M Fin chs cap rdr wtr Out Sh In gs' W' (t++u) kn' ow' (bump snt c) (bump rcv c) (upF (upF sc i l) a la) (upF pk a false) (upF (upF n i n1) a n2) (upF (upF ρ i ρ1) a ρ2)∧
   Turn E chs rdr wtr In i gs gs' W W' u kn ow kn' ow' sc (upF (upF sc i l) a la) snt (bump snt c) rcv (bump rcv c) (rkOf sc pk n ρ) (rkOf (upF (upF sc i l) a la) (upF pk a false) (upF (upF n i n1) a n2) (upF (upF ρ i ρ1) a ρ2)):=by
 rw[hsc]at hrun
 obtain ⟨_,g₂,z,f,hst,hget⟩:=hrun
 have hord:=T.ord i hi
 rw[hsc]at hord
 obtain ⟨hc,hri,rfl,hord⟩:=hord
 have hoa:=T.ord a ha
 rw[hasc]at hoa
 obtain ⟨_,hwa,rfl,hoa⟩:=hoa
 have hai:a≠i:=fun e=>by rw[e,hpk]at hap;cases hap
 have hfull:=T.full a c _ la ha hap hasc
 have hroom:=T.room c hc
 obtain ⟨x,hx,hsa⟩:=T.sit a ha
 rcases hsa with ⟨q,_⟩|⟨_,c',j',l',gj,zj,f',q1,_⟩|⟨_,c',j',l',gj,v,zj,q1,rfl,mb,mo,k1,o1,hm,hsp,n2,ρ2,hp2⟩
 ·rw[hap]at q;cases q
 ·rw[hasc]at q1;obtain ⟨q,_⟩:=cm_inj q1;cases q
 rw[hasc]at q1
 obtain ⟨_,rfl,rfl,rfl⟩:=cm_inj q1
 obtain ⟨buf,w,b1,b2,b3,b4,b5,hnet⟩:=T.net.shift hM hc (T.deaf a ha) (T.deaf i hi) hai (by omega) hm hsp g₂.frame.fn gj.frame.fn g₂.frame.place gj.frame.place (cap c)
 obtain ⟨gs',hr,hsz,hgi,hga,hgk⟩:=turn_shift (sl:=sl) hg hst b1 b3 hai hx (fun k x _ h2 hx=>T.noSend hF hc k x hx (fun q=>h2 (q.2.2.1.symm.trans hwa)))
 rw[b4]at hgi
 have hke:∀(f:Who→Nat→Prop) (x y:Nat→Prop),gives (takes f i c (rcv c)) a c (snt c) x y (.inl i)=orP (f (.inl i)) (f (.inr (c,rcv c))):=fun f x y=>by rw[gives_off _ (fun e=>hai e.symm),takes_self]
 have hio:∀(f:Who→Nat→Prop) (x y:Nat→Prop),gives (takes f i c (rcv c)) a c (snt c) x y (.inl a)=x:=fun f x y=>by rw[gives_self]
 obtain ⟨f1,f2,f3,f4⟩:=T.fits i c (rcv c)
 obtain ⟨n1,ρ1,hp1⟩:=hget (W.setChan c (cap c) ((buf.extract 1 buf.size).push v) false (snt c+1) (rcv c+1) false) w _ _ (chan_ext T hc (.inl i) ..) (hM _ _ _ _ _ _ _ b5 (chan_ext T hc _ ..)) (fun B q=>by rw[size_setChan];exact f1 B q) f2 f3 f4
 obtain ⟨h1,h2⟩:=T.two (b:=false) hM hi hpk ha hap hai hsc hasc hc hri hwa (u:=#[{ g:=i,fn:=g₂.frame.fn,pos:=g₂.frame.place,act:=.recv c (rcv c) (cap c) },{ g:=i,fn:=g₂.frame.fn,pos:=g₂.frame.place,act:=.recvDone c (rcv c) },{ g:=a,fn:=gj.frame.fn,pos:=gj.frame.place,act:=.send c (snt c) },{ g:=a,fn:=gj.frame.fn,pos:=gj.frame.place,act:=.sendDone c (snt c) }]) (fun op hop=>by
   simp only[List.mem_toArray,List.mem_cons,List.not_mem_nil,or_false]at hop
   rcases hop with rfl|rfl|rfl|rfl<;>exact ⟨rfl,fun _ _=>rfl⟩) (fun op hop m e=>by
   simp only[List.mem_toArray,List.mem_cons,List.not_mem_nil,or_false]at hop
   rcases hop with rfl|rfl|rfl|rfl<;>cases e) hnet hsz hgi hga hgk (fun k e1 e2=>⟨by rw[gives_off _ e2,takes_off _ e1],by rw[gives_off _ e2,takes_off _ e1]⟩) (fun z B q=>by obtain ⟨y,q⟩:=gives_had (f:=takes ow i c (rcv c)) (fun B q=>by rw[takes_off _ hai];exact hsp.b1 B q) (fun B q=>by rw[takes_off _ hai];exact hsp.b2 B q) z B q;exact takes_had y B q) (by rw[hke,hke];exact hp1) (by rw[hio,hio];exact hp2.ext ((chan_ext T hc (.inl a) ..).le hsp.a1))
   (hord.same (fun d hd=>bump_ne _ (fun z=>hai (by rw[←hd,z,hwa]))) (fun _ _=>rfl)) (hoa.same (fun _ _=>rfl) (fun d hd=>bump_ne _ (fun z=>hai (by rw[←hd,z,hri]))))
 exact ⟨gs',_,_,_,_,n1,ρ1,n2,ρ2,hr,h1,h2⟩
theorem Talk.step(T:Talk E M Fin chs cap rdr wtr Out Sh In gs W t kn ow snt rcv sc pk n ρ)(hM:M.Fast)(hF:∀i g W kn ow,Fin i g W kn ow→g.status=.running)(hnew:∀B,W.heap.size≤B→¬Out B)(hi:In i)(hpk:pk i=false)(hg:gs[i]?=some g):
  (sc i=[]∧∀W',Ext (kn (.inl i)) W W'→Fin i g W' (kn (.inl i)) (ow (.inl i)))∨
  ∃gs' W' u kn' ow' snt' rcv' sc' pk' n' ρ',runT E.P (crowd gs W sl) i=(.next (crowd gs' W' sl),u)∧Talk E M Fin chs cap rdr wtr Out Sh In gs' W' (t++u) kn' ow' snt' rcv' sc' pk' n' ρ'∧Turn E chs rdr wtr In i gs gs' W W' u kn ow kn' ow' sc sc' snt snt' rcv rcv' (rkOf sc pk n ρ) (rkOf sc' pk' n' ρ'):=by
 obtain ⟨y,hy,hsit⟩:=T.sit i hi
 rw[hg]at hy
 obtain rfl:=Option.some.inj hy
 rcases hsit with ⟨_,hp⟩|⟨q,_⟩|⟨q,_⟩
 case inr.inl=>rw[hpk]at q;cases q
 case inr.inr=>rw[hpk]at q;cases q
 rcases hp.step (T.klow _) (T.net.apt.own _) (i==0) with hgoal|⟨g1,W1,es,kn1,ow1,n1,ρ1,_,r1,_,r3,r4,r5⟩
 ·have hrun:=hgoal W (Ext.refl _ _)
  match hsc:sc i with
  |[]=>rw[hsc]at hgoal;exact .inl ⟨rfl,hgoal⟩
  |(true,c,j)::l=>
   right
   by_cases hm:∃k,In k∧pk k=true∧rdr c=k∧∃j l,sc k=(false,c,j)::l
   ·obtain ⟨k,h1,h2,_,j',l',h4⟩:=hm
    obtain ⟨gs',W',u,kn1,ow1,n1,ρ1,n2,ρ2,a1,a2,a3⟩:=T.meet (sl:=sl) hM hF hi hpk hg hsc hrun h1 h2 h4
    exact ⟨gs',W',u,_,_,_,_,_,_,_,_,a1,a2,a3⟩
   ·by_cases hroom:snt c<rcv c+cap c
    ·obtain ⟨gs',W',u,kn1,ow1,n1,ρ1,a1,a2,a3⟩:=T.send (sl:=sl) hM hF hi hpk hg hsc hrun (fun k q=>hm ⟨k,q⟩) hroom
     exact ⟨gs',W',u,_,_,_,_,_,_,_,_,a1,a2,a3⟩
    ·obtain ⟨gs',a1,a2,a3⟩:=T.stays (sl:=sl) hF hi hpk hg hsc hrun (fun k q=>hm ⟨k,q⟩) hroom
     exact ⟨gs',W,_,_,_,_,_,_,_,_,_,a1,a2,a3⟩
  |(false,c,j)::l=>
   right
   by_cases hlt:rcv c<snt c
   ·by_cases hm:∃k,In k∧pk k=true∧wtr c=k∧∃j l,sc k=(true,c,j)::l
    ·obtain ⟨k,h1,h2,_,j',l',h4⟩:=hm
     obtain ⟨gs',W',u,kn1,ow1,n1,ρ1,n2,ρ2,a1,a2,a3⟩:=T.shift (sl:=sl) hM hF hi hpk hg hsc hrun h1 h2 h4
     exact ⟨gs',W',u,_,_,_,_,_,_,_,_,a1,a2,a3⟩
    ·obtain ⟨gs',W',u,kn1,ow1,n1,ρ1,a1,a2,a3⟩:=T.recv (sl:=sl) hM hF hi hpk hg hsc hrun hlt (fun k q=>hm ⟨k,q⟩)
     exact ⟨gs',W',u,_,_,_,_,_,_,_,_,a1,a2,a3⟩
   ·obtain ⟨gs',a1,a2,a3⟩:=T.wait (sl:=sl) hF hi hpk hg hsc hrun hlt
    exact ⟨gs',W,_,_,_,_,_,_,_,_,_,a1,a2,a3⟩
 ·obtain ⟨gs',u,a1,a2,a3⟩:=T.own (sl:=sl) hM hF hnew hi hpk hg r1 r3 r4 r5
  exact .inr ⟨gs',W1,u,_,_,_,_,_,_,_,_,a1,a2,a3⟩
end
end Go.Proofs.Ytniloklglpchfai
