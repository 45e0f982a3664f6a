/- The law RingsPlain, all in all: it runs to its end, on every tape, and gives back true. -/
import Derived.Test.YtniloklglpchfaiRgBK
import Derived.Test.YtniloklglpchfaiPkEqCl
import Derived.Test.YtniloklglpchfaiPkPlain
import Derived.Deep.Slices
namespace Go.Proofs.Ytniloklglpchfai
open Go Go.RowKit Go.Conc
theorem Ends.behind{P:Program}{Q:Value→World→Prop}:∀(N:Nat) {m m':Machine} {t t':Trace},runNT P N m t=(.next m',t')→Ends P m' t' Q→Ends P m t Q
 |0,m,m',t,t',h,e=>by
  have h:(Stepped.next m,t)=(.next m',t'):=h
  cases h
  exact e
 |N+1,m,m',t,t',h,e=>by
  cases hs:stepT P m with
  |mk s ops=>
   cases s with
   |next m1=>
    rw[runNT_succ_next hs]at h
    obtain ⟨K,last,o,w,t2,a1,a2,a3,a4⟩:=Ends.behind N h e
    exact ⟨K+1,last,o,w,t2,by rw[runNT_succ_next hs];exact a1,by rw[runN_succ_next hs];exact a2,a3,a4⟩
   |ended o w=>
    unfold runNT at h
    simp[hs]at h
theorem al_start{P:Program}{W:World}{kp:Nat→Prop}(hK:∀B,kp B→B<W.heap.size)(g:Goroutine):Al P (fun _=>False) #[g] W #[] (put (fun _=>noP) (.inl 0) kp) (fun _=>noP) z0 z0:=by
 have hkn:∀x B,put (fun _=>noP) (.inl 0) kp x B→x=.inl 0∧kp B:=fun x B q=>by
  by_cases e:x=.inl 0
  ·subst e;rw[put_at]at q;exact ⟨rfl,q⟩
  ·rw[put_off _ e]at q;exact q.elim
 refine ⟨⟨⟨fun said q=>?_,fun i B _ _ _ k a h=>?_,fun i B q=>q.elim,fun op h=>by simp at h⟩,⟨fun i j B _ _ q=>q,fun i B q=>q.elim,fun i B q=>⟨hK B (hkn i B q).2,id⟩⟩,fun B q=>q.elim,(fun c hc=>by cases hc),fun c j _ B q=>?_⟩,rfl,fun i h1 h2=>?_,fun i hi=>⟨fun B q=>?_,rfl⟩,fun B _ q=>q,fun i g h=>?_,fun a k h=>?_⟩
 ·obtain ⟨i,j,h⟩:=q
  unfold RaceAt at h
  simp[Trace.act?]at h
 ·simp[touchAt,Trace.act?]at h
 ·have:=(hkn _ _ q).1
  cases this
 ·simp at h2
  omega
 ·have:=Sum.inl.inj (hkn _ _ q).1
  simp at hi
  omega
 ·simp[Trace.g?]at h
 ·simp[Trace.act?]at h
def RpEnd (W:World) (v:Value) (w:World):Prop:=v=.bool true∧bare w=bare W∧W.heap.size≤w.heap.size∧∀B,B<W.heap.size→w.heap[B]?=W.heap[B]?
theorem rp_fin{W W1:World}{kp:Nat→Prop}{Out:Nat→Prop}{gs:Array Goroutine}{sl:Option (Nat×Nat)}{t:Trace}{kn ow:Who→Nat→Prop}{fu df:Nat→Nat}{g:Goroutine}(A:Al Try.prog Out gs W1 t kn ow fu df)(hkp:Kp W W.heap.size Out W1 ow)(hg:gs[0]?=some g)(hF:FinT W kp g W1 (kn (.inl 0)) (ow (.inl 0))):Ends Try.prog (crowd gs W1 sl) t (RpEnd W):=
 Al.finish gs.size fu gs W1 sl t kn ow df rfl A hg hF.1 fun d=>⟨_,hF.2.1 d,rfl,hkp.bare,hkp.size,hkp.blk⟩
theorem startG_run{E:Env}{Goal:Stand}(g:Goroutine)(W:World)(kn ow:Nat→Prop)(h:StartG E Goal g W kn ow):g.status=.running:=h.1
theorem rp_ends{W:World}{kp:Nat→Prop}{pv:Value}{Pb po c:Nat}{us:Nat→Value}{ps:Nat→List Int}(hg0:G0≤W.heap.size)(hK:Lies W kp)(hv:PVal kp pv Pb po c)(hp:PIn W kp Pb po c us ps):
  Ends Try.prog (crowd #[G (Frame.enter Try.prog 3 #[pv] .normal) []] W none) #[] (RpEnd W):=by
 obtain ⟨G3,hG3⟩:∃G3:Stand,G3=FinT W kp:=⟨_,rfl⟩
 obtain ⟨G2,hG2⟩:∃G2:Stand,G2=fun g W1 kn ow=>FinT W kp g W1 kn ow∨StartG (mkE Try.prog rgF rgF) G3 g W1 kn ow:=⟨_,rfl⟩
 have hrefl:∀B,kp B→StillB W B W.heap[B]?:=fun B q=>by
  obtain ⟨a,e,z,h1,h2,-⟩:=hK B q
  exact ⟨a,e,z,z,h1,h1,h2⟩
 obtain ⟨ρ,hpath⟩:=rp_first (Goal2:=G2) (pv:=pv) (cs:=[]) (nE:=168) hg0 hK fun U W2 Zb T a f hU SO hs f0 f3 f4=>by
  refine rp_looked (nE:=140) SO hU rfl hs f0 f3 f4 fun a f hs f0=>?_
  have hK2:Lies W2 kp:=fun B q=>by
   obtain ⟨a,e,z,z',-,h2,h3⟩:=SO.still B q
   obtain ⟨_,_,_,-,-,h4⟩:=hK B q
   exact ⟨a,e,z',h2,h3,h4⟩
  refine rp_parts (W0:=W) (nE:=120) hv (hp.still SO.still) SO.g0 hK2 SO.still (fun B q=>?_) (fun B q=>.inr q) (fun B q=>.inl q) (by unfold IsRv;rw[hU]) hs f0 (by omega) (fun g W1 kn ow q=>by rw[hG2];exact .inl q) fun W3 Z S a f h0 h1 h2 hF hZ hS hs f0 f6=>?_
  ·rcases q with q|rfl|⟨i,hi,rfl⟩
   ·exact hK2.lt q
   ·obtain ⟨_,-,h⟩:=SO.row;exact lt_of_some h
   ·obtain ⟨_,-,h⟩:=SO.ts i hi;exact lt_of_some h
  ·have hS3:∀B,kp B→StillB W B W3.heap[B]?:=fun B q=>(SO.still B q).trans (h2 B q)
   refine rp_quot (Goal3:=G3) hv (hp.still hS3) h0 h1 hS3 hF hZ hS hs f0 f6 (nE:=400) (fun g W1 kn ow q=>by rw[hG2];exact .inr q) fun W4 Qb cap1 us1 O1 Zb1 T1 U1 a f St hU1 hcc hcm hs f0 f6 f10 f4=>?_
   rw[hG3]
   refine rp_third St hF.1 hF.2.1 (by have:=(hF.2.2 0 (by have:=hF.1;omega)).2.1;omega) hcc hcm (quoX_bound hF) ?_ hU1 hs f0 f6 f10 f4
   rcases hv.sh with ⟨q,-⟩|⟨-,-,cap,e⟩
   ·have:=hF.1;omega
   ·exact ⟨_,_,e⟩
 have hrun2:∀g W1 kn ow,G2 g W1 kn ow→g.status=.running:=fun g W1 kn ow q=>by
  rw[hG2]at q
  exact q.elim (·.1) (·.1)
 have A0:=al_start (P:=Try.prog) (kp:=kp) (fun B q=>hK.lt q) (G (Frame.enter Try.prog 3 #[pv] .normal) [])
 have K0:Kp W W.heap.size (fun _=>False) W (fun _=>noP):=⟨rfl,fun _ _=>rfl,fun _ _ q=>q.elim,fun _ q=>q.elim,Nat.le_refl _⟩
 obtain ⟨N1,gs1,W1,sl1,t1,kn1,ow1,fu1,df1,g1,r1,-,A1,K1,e1,s1⟩:=Al.reach (E:=mkE Try.prog rgF rgF) startG_run 1 (z0,120,ρ) _ W none _ _ _ z0 _ rfl A0 K0 rfl (by rw[put_at];exact hpath)
 obtain ⟨N2,gs2,W2,sl2,t2,Out2,kn2,ow2,fu2,df2,g2,r2,A2,K2,e2,s2,n2,ρ2,p2⟩:=Al.bout (sl:=sl1) A1 K1 e1 s1
 obtain ⟨N3,gs3,W3,sl3,t3,kn3,ow3,fu3,df3,g3,r3,-,A3,K3,e3,s3⟩:=Al.reach hrun2 gs2.size (fu2,n2,ρ2) gs2 W2 sl2 t2 kn2 ow2 df2 g2 rfl A2 K2 e2 p2
 refine Ends.behind N1 r1 (Ends.behind N2 r2 (Ends.behind N3 r3 ?_))
 rw[hG2]at s3
 rcases s3 with s3|s3
 ·exact rp_fin A3 K3 e3 s3
 ·obtain ⟨N4,gs4,W4,sl4,t4,Out4,kn4,ow4,fu4,df4,g4,r4,A4,K4,e4,s4,n4,ρ4,p4⟩:=Al.bout (sl:=sl3) A3 K3 e3 s3
  obtain ⟨N5,gs5,W5,sl5,t5,kn5,ow5,fu5,df5,g5,r5,-,A5,K5,e5,s5⟩:=Al.reach (fun g W kn ow q=>by rw[hG3]at q;exact q.1) gs4.size (fu4,n4,ρ4) gs4 W4 sl4 t4 kn4 ow4 df4 g4 rfl A4 K4 e4 p4
  rw[hG3]at s5
  exact Ends.behind N4 r4 (Ends.behind N5 r5 (rp_fin A5 K5 e5 s5))
end Go.Proofs.Ytniloklglpchfai
/- The workers' numbers that came in, opened: a list of lists of ints; what is known of memory: all its rows of cells. -/
namespace Go.Proofs.Ytniloklglpchfai
open Go Go.ChangeShapes Go.WideShapes Go.ChangeAt Go.RowKit Go.Joins Go.Deep
theorem cellsInts:Try.prog.cellsOf 27=1:=by kernel_rfl
def cellsB (W:World) (B:Nat):Prop:=∃(a:Array Value) (e:TypeId) (z:Nat×Nat),W.heap[B]?=some (.cells a e z)
theorem cellsB_lies(h0:G0=0)(W:World):Lies W (cellsB W):=fun B ⟨a,e,z,h⟩=>⟨a,e,z,h,fun _ _ _=>Nat.zero_le _,by rw[h0];exact Nat.zero_le _⟩
theorem cell_cellsB{W:World}{a:Addr}{v:Value}(h:W.cell? a=some v):cellsB W a.block∧a.spot=none:=by
 obtain ⟨h1,x,e,z,h2,-⟩:=cell_spot h
 exact ⟨⟨x,e,z,h2⟩,h1⟩
theorem okWide_known{P:Program}{w:World}{r:Reach}{b0:Nat}{t e:TypeId}{a:Addr}{len cap:Nat}(ht:P.underlying t=some (.slice e))(h:Value.okWide P w r b0 t (.slice (some a) len cap)):cellsB w a.block∧a.spot=none:=by
 simp only[Value.okWide,ht,Cell.okWide,Cell.ok]at h
 obtain ⟨-,-,-,hs,row,n,hq,-⟩:=h
 refine ⟨?_,hs⟩
 unfold World.shape? at hq
 cases ho:w.heap[a.block]? with
 |none=>rw[ho]at hq;cases hq
 |some o=>
  rw[ho]at hq
  cases o with
  |cells c e z=>exact ⟨c,e,z,ho⟩
  |_=>cases hq
theorem own_known{H:Type}{enc:TypeId×Value→H}{w:World}{held:Bool}{base fuel:Nat}{v:Value}{x:DataW H×List MemPlace}(h:DataW.trod enc Try.prog w base (fun _=>true) held fuel 27 [v]=some x):KV (cellsB w) noP v∨∃a,v=.slice (some a) 0 0:=by
 rcases open_slice Try.underlying27 h with ⟨hcs,_⟩|⟨a,len,cap,m,n,D,Pl,hcs,hb,hl,hm,hmm,rfl,hx⟩
 ·obtain rfl:v=.slice none 0 0:=by simpa using hcs
  exact .inl fun x hx=>by cases hx
 ·obtain rfl:v=.slice (some a) len cap:=by simpa using hcs
  have hml:m=cap:=by simpa using hmm
  rw[cellsInt]at hx
  by_cases h0:cap=0
  ·obtain rfl:len=0:=by omega
   exact .inr ⟨a,by rw[h0]⟩
  ·obtain ⟨cs,h1,-⟩:=hx 0 (by omega)
   have hlen:cs.length=1:=(World.cells?_some h1).2.1
   have hc:=(World.cells?_some h1).2.2 0 (by omega)
   obtain ⟨c,rfl⟩:∃c,cs=[c]:=by
    match cs,hlen with
    |[c],_=>exact ⟨c,rfl⟩
   have h2:=cell_cellsB (show w.cell? a=some c by simpa [Addr.add] using hc)
   exact .inl fun x hx=>by cases hx;exact h2
set_option maxRecDepth 100000 in
theorem rw_param{H:Type}{enc:TypeId×Value→H}{w:World}{r:Reach}{b0:Nat}{v:Value}{d:DataW H}{p:List MemPlace}(hv:Value.okWide Try.prog w r b0 22 v)(h:DataW.Trod enc Try.prog w 0 (fun _=>true) true 22 v d p):
  ∃(Pb po c:Nat) (us:Nat→Value) (ps:Nat→List Int),PVal (cellsB w) v Pb po c∧PIn w (cellsB w) Pb po c us ps:=by
 obtain ⟨a0,len0,cap0,rfl⟩:=okWide_slice Try.underlying22 hv
 obtain ⟨fuel,hf⟩:=h
 rcases open_slice Try.underlying22 hf with ⟨hcs,_⟩|⟨a,len,cap,m,n,D,Pl,hcs,hb,hl,hm,hmm,-,hx⟩
 ·simp[Value.cells]at hcs
  obtain ⟨rfl,rfl,rfl⟩:=hcs
  exact ⟨0,0,0,fun _=>.nilIface,fun _=>[],⟨fun x hx=>(by cases hx),.inl ⟨rfl,_,_,rfl⟩⟩,fun i hi=>absurd hi (Nat.not_lt_zero _),fun i hi=>absurd hi (Nat.not_lt_zero _),fun hi=>absurd hi (Nat.not_lt_zero _),fun i hi=>absurd hi (Nat.not_lt_zero _)⟩
 ·simp[Value.cells]at hcs
  obtain ⟨rfl,rfl,rfl⟩:=hcs
  have hml:m=cap0:=by simpa using hmm
  rw[cellsInts]at hx
  obtain ⟨hk,hsp⟩:=okWide_known Try.underlying22 hv
  obtain ⟨Pb,po,s⟩:=a
  obtain rfl:s=none:=hsp
  have key:∀i,∃q:Value×List Int,i<len0→w.cell? ⟨Pb,po+i,none⟩=some q.1∧I_ w q.1 q.2∧(KV (cellsB w) noP q.1∨∃a,q.1=.slice (some a) 0 0):=fun i=>by
   by_cases hi:i<len0
   ·obtain ⟨cs,h1,h2⟩:=hx i (by omega)
    have hlen:cs.length=1:=(World.cells?_some h1).2.1
    have hc:=(World.cells?_some h1).2.2 0 (by omega)
    obtain ⟨c,rfl⟩:∃c,cs=[c]:=by
     match cs,hlen with
     |[c],_=>exact ⟨c,rfl⟩
    rw[add_add,Addr.add_lit,Nat.mul_one,Nat.add_zero]at hc
    obtain ⟨zs,hz⟩:=ints_open h2
    exact ⟨(c,zs),fun _=>⟨by rw[hc];rfl,hz,own_known h2⟩⟩
   ·exact ⟨(.nilIface,[]),fun q=>absurd q hi⟩
  obtain ⟨Q,hQ⟩:=Classical.axiomOfChoice key
  refine ⟨Pb,po,len0,fun i=>(Q i).1,fun i=>(Q i).2,⟨fun x hx=>(by cases hx;exact ⟨hk,rfl⟩),?_⟩,fun i hi=>(hQ i hi).1,fun i hi=>(hQ i hi).2.1,fun _=>hk,fun i hi=>(hQ i hi).2.2⟩
  rcases Nat.eq_zero_or_pos len0 with h0|h0
  ·exact .inl ⟨h0,_,_,by rw[h0]⟩
  ·exact .inr ⟨h0,by omega,_,rfl⟩
end Go.Proofs.Ytniloklglpchfai
