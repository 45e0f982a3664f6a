/- Where just what comes is wanted nothing is learned: plain facts. No program in sight. -/
import Derived.Test.YtniloklglpchfafPkTrainR
import Derived.Test.YtniloklglpchfafPkTrFact
import Derived.Test.YtniloklglpchfafPkStepLaw
import Derived.Test.YtniloklglpchfafLists
import Derived.Test.YtniloklglpchfafLBack
namespace Go.Proofs.Ytniloklglpchfaf
open Go.RowKit
def Nought (m:Mx):Prop:=∀q,A_ m q=0
theorem nought_is{m z:Mx}{R C:Nat}(g:Good m R C)(gz:Good z R C)(h:Nought m):m=zeroM z:=by
 refine mx_eq (g.r.trans gz.r.symm) (g.c.trans gz.c.symm) ?_
 show m.cells=tab z.cells.length _
 rw[←g.tabSelf,gz.l]
 exact tab_congr (fun q _=>h q)
theorem tab_nought{r c:Int}{n:Nat}{f:Nat→Int}(h:∀q,f q=0):Nought ⟨r,c,tab n f⟩:=fun q=>by
 show ((tab n f)[q]?).getD 0=0
 by_cases hq:q<n
 ·rw[tab_get hq];exact h q
 ·rw[List.getElem?_eq_none (by rw[tab_len];omega)];rfl
theorem no_nought:Nought noMx:=fun q=>by show (([]:List Int)[q]?).getD 0=0;simp
theorem ad_nought:ad 0 0=0:=by decide
theorem dot_right(us:List Int){vs:List Int}(h:∀q:Nat,(vs[q]?).getD 0=0)(Ca Cb i j:Nat):∀k,dot us vs Ca Cb i j k=0
 |0=>rfl
 |k+1=>by show ad (dot us vs Ca Cb i j k) (ml _ _)=0;rw[dot_right us h Ca Cb i j k,h,ml_zero,ad_nought]
theorem dot_left{us:List Int}(vs:List Int)(h:∀q:Nat,(us[q]?).getD 0=0)(Ca Cb i j:Nat):∀k,dot us vs Ca Cb i j k=0
 |0=>rfl
 |k+1=>by show ad (dot us vs Ca Cb i j k) (ml _ _)=0;rw[dot_left vs h Ca Cb i j k,h,ml_nought,ad_nought]
theorem mul_right(a:Mx){g:Mx}(h:Nought g):Nought (mulX a g):=by
 unfold mulX;split
 ·exact tab_nought (fun q=>dot_right _ h _ _ _ _ _)
 ·exact no_nought
theorem mul_left{g:Mx}(b:Mx)(h:Nought g):Nought (mulX g b):=by
 unfold mulX;split
 ·exact tab_nought (fun q=>dot_left _ h _ _ _ _ _)
 ·exact no_nought
theorem colS_nought{cs:List Int}(h:∀q:Nat,(cs[q]?).getD 0=0)(C q:Nat):∀k,colS cs C q k=0
 |0=>rfl
 |k+1=>by show ad (colS cs C q k) _=0;rw[colS_nought h C q k,h,ad_nought]
theorem sums_nought{g:Mx}(h:Nought g):Nought (sumsX g):=by
 unfold sumsX;split
 ·exact tab_nought (fun q=>colS_nought h _ _ _)
 ·exact no_nought
theorem times_nought{g:Mx}(h:Nought g)(x:Int):Nought (timesX g x):=by
 unfold timesX;split
 ·exact tab_nought (fun q=>by rw[show (g.cells[q]?).getD 0=0 from h q,ml_nought])
 ·exact no_nought
theorem sumP_nought(x:Mx){g:Mx}(h:Nought g):∀n,sumP x g n=0
 |0=>rfl
 |n+1=>by show ad (sumP x g n) (ml _ _)=0;rw[sumP_nought x h n,h,ml_zero,ad_nought]
theorem back_nought(l:Ly)(x:Mx){g:Mx}(h:Nought g):Nought (backX l x g)∧Nought (gradW l x g)∧Nought (gradB l x g):=by
 refine ⟨?_,?_,?_⟩
 ·unfold backX;split
  ·unfold backG;split
   ·exact mul_left _ h
   ·split
    ·exact tab_nought (fun q=>by split;exact h q;rfl)
    ·split
     ·exact times_nought h _
     ·exact tab_nought (fun q=>h q)
  ·exact no_nought
 ·unfold gradW;split
  ·split
   ·exact mul_right _ h
   ·split
    ·rw[sumP_nought x h]
     intro q
     show (([0]:List Int)[q]?).getD 0=0
     cases q with
     |zero=>rfl
     |succ q=>simp
    ·exact no_nought
  ·exact no_nought
 ·unfold gradB;split
  ·split
   ·exact sums_nought h
   ·exact no_nought
  ·exact no_nought
theorem bk_nought:∀(ls:List Ly) (xs:List Mx) (g:Mx),Nought g→∀d∈bkD ls xs g,Nought d.1∧Nought d.2
 |[],_,_,_,d,hd=>by simp[bkD]at hd
 |_::_,[],_,_,d,hd=>by simp[bkD]at hd
 |l::ls,x::xs,g,h,d,hd=>by
  obtain ⟨h1,h2,h3⟩:=back_nought l x h
  have hd:d∈bkD ls xs (backX l x g)++[(gradW l x g,gradB l x g)]:=hd
  rcases List.mem_append.1 hd with hd|hd
  ·exact bk_nought ls xs _ h1 d hd
  ·rw[List.mem_singleton.1 hd];exact ⟨h2,h3⟩
theorem nb_nought(ls:List Ly)(ms:List Mx){g:Mx}(h:Nought g):∀d∈nbD ls ms g,Nought d.1∧Nought d.2:=by
 unfold nbD;split
 ·exact bk_nought _ _ _ h
 ·intro d hd;cases hd
theorem fits_nought{ls:List Ly}{ds:List (Mx×Mx)}(h:Fits ls ds):(∀d∈ds,Nought d.1∧Nought d.2)→ds=zeroD ls:=by
 induction ls,ds,h using Fits.el with
 |nil=>intro _;rfl
 |@cons l d ls ds hd _ ih=>
  intro hn
  obtain ⟨⟨R,C,gw,g1⟩,⟨R2,C2,gb,g2⟩⟩:=hd
  obtain ⟨n1,n2⟩:=hn d (by simp)
  show d::ds=(zeroM l.w,zeroM l.b)::zeroD ls
  rw[ih (fun e he=>hn e (by simp[he])),←nought_is g1 gw n1,←nought_is g2 gb n2]
theorem add_nought{a b:Mx}(ha:Nought a)(hb:Nought b):Nought (addX a b):=by
 unfold addX;split
 ·exact tab_nought (fun q=>by rw[show (a.cells[q]?).getD 0=0 from ha q,show (b.cells[q]?).getD 0=0 from hb q,ad_nought])
 ·exact no_nought
theorem zeroD_nought(ls:List Ly):∀d∈zeroD ls,Nought d.1∧Nought d.2:=by
 intro d hd
 obtain ⟨l,_,rfl⟩:=List.mem_map.1 hd
 exact ⟨cell_nought _,cell_nought _⟩
theorem gat_nought:∀(ds es:List (Mx×Mx)),(∀d∈ds,Nought d.1∧Nought d.2)→(∀d∈es,Nought d.1∧Nought d.2)→∀d∈gatX ds es,Nought d.1∧Nought d.2
 |[],_,_,_,d,hd=>by simp[gatX]at hd
 |_::_,[],_,_,d,hd=>by simp[gatX]at hd
 |p::ps,q::qs,h1,h2,d,hd=>by
  have hd:d∈gat1X p q::gatX ps qs:=hd
  rcases List.mem_cons.1 hd with rfl|hd
  ·exact ⟨add_nought (h1 p (by simp)).1 (h2 q (by simp)).1,add_nought (h1 p (by simp)).2 (h2 q (by simp)).2⟩
  ·exact gat_nought ps qs (fun e he=>h1 e (by simp[he])) (fun e he=>h2 e (by simp[he])) d hd
theorem ga_nought{ls:List Ly}(hz:Fits ls (zeroD ls)):gaX (zeroD ls) (zeroD ls)=zeroD ls:=by
 obtain ⟨hE,hF⟩:=ga_fits hz hz
 refine fits_nought hF ?_
 unfold gaX;rw[if_pos hE]
 exact gat_nought _ _ (zeroD_nought ls) (zeroD_nought ls)
theorem by_nought{ls:List Ly}(hz:Fits ls (zeroD ls)):∀(L:List (Mx×Mx)),(∀d∈L,prtD ls d=zeroD ls)→L.foldl (fun y d=>gaX y (prtD ls d)) (zeroD ls)=zeroD ls
 |[],_=>rfl
 |d::L,h=>by
  show L.foldl (fun y d=>gaX y (prtD ls d)) (gaX (zeroD ls) (prtD ls d))=_
  rw[h d (by simp),ga_nought hz]
  exact by_nought hz L (fun e he=>h e (by simp[he]))
theorem sum_nought{ls:List Ly}:∀(L:List (Mx×Mx)),(∀d∈L,prtX ls d=0)→L.foldl (fun s d=>ad s (prtX ls d)) 0=0
 |[],_=>rfl
 |d::L,h=>by
  show L.foldl (fun s d=>ad s (prtX ls d)) (ad 0 (prtX ls d))=_
  rw[h d (by simp),ad_nought]
  exact sum_nought L (fun e he=>h e (by simp[he]))
theorem end_rows:∀(ls:List Ly) (x:Mx) (R C f t:Nat),Good x R C→runE ls x=0→f≤t→t≤R→endX ls (rowsX x (f:Int) (t:Int))=rowsX (endX ls x) (f:Int) (t:Int)
 |[],_,_,_,_,_,_,_,_,_=>rfl
 |l::ls,x,R,C,f,t,g,h,h1,h2=>by
  obtain ⟨e1,e2⟩:=runE_zero h
  obtain ⟨C',g',_⟩:=go_good g e1
  show endX ls (goX l (rowsX x (f:Int) (t:Int)))=rowsX (endX ls (goX l x)) (f:Int) (t:Int)
  rw[(rows_go g e1 h1 h2).2]
  exact end_rows ls (goX l x) R C' f t g' e2 h1 h2
theorem off_nought(a:Mx):Nought (offX a a):=by
 unfold offX;split
 ·exact tab_nought (fun q=>sb_self _)
 ·exact no_nought
theorem loss_nought(a:Mx):lossX a a=0:=by
 unfold lossX;split
 ·rw[lossS_self];decide
 ·rfl
theorem rests_facts{ls:List Ly}{x:Mx}{parts le ke:Int}(hg:ngE ls x=0)(h:oneE ls (zeroD ls) 0 (x,endX ls x) parts le ke=0):
  sumAt ls (splX (x,endX ls x) parts)=0∧oneN ls (zeroD ls) (x,endX ls x) parts le ke=ls:=by
 obtain ⟨h1,h2,h3,h4⟩:=one_parts h
 obtain ⟨s1,s2,_,_,s5⟩:=state_good h1
 obtain ⟨P,Q,C1,C2,_,_,_,_,_,g1,g2,hX⟩:=splE_zero h3
 obtain ⟨_,_,hr⟩:=(ngE_iff ls x).1 hg
 have hz:=zero_fits ls (stt_good s2 s5)
 have key:∀d∈splX (x,endX ls x) parts,d.2=endX ls d.1:=by
  intro d hd
  rw[hX]at hd
  obtain ⟨j,_,rfl⟩:=List.mem_map.1 hd
  obtain ⟨f,t,c,e1,e2,_,hft,htQ,_⟩:=beg_nat P Q j
  show rowsX (endX ls x) (begAt P Q j) (begAt P Q (j+1))=endX ls (rowsX x (begAt P Q j) (begAt P Q (j+1)))
  rw[e1,e2,end_rows ls x Q C1 f t g1 hr hft htQ]
 have hsum:sumAt ls (splX (x,endX ls x) parts)=0:=sum_nought _ (fun d hd=>by unfold prtX;rw[key d hd];exact loss_nought _)
 have hby:byAt ls (splX (x,endX ls x) parts)=zeroD ls:=by_nought hz _ (fun d hd=>by
  refine fits_nought (prt_fits (h4 d hd).2.2) ?_
  unfold prtD prtG
  rw[key d hd]
  exact nb_nought _ _ (off_nought _))
 refine ⟨hsum,?_⟩
 unfold oneN
 rw[hby]
 exact (stp_rest le ke ls (zeroD ls) (zeroD ls) (zeroD_len ls) (zeroD_len ls) (stp_of (zeroD_len ls) s5 hz)).2.1
set_option maxHeartbeats 4000000 in
set_option maxRecDepth 100000 in
theorem lys_same(v v':Value)(xs:List Ly)(w:World)(h0:Y_ w v xs)(h1:Y_ w v' xs):
  Calls Try.prog 9 #[v,v'] w fun e w'=>e=.returned (.bool true)∧Below w.heap.size w w':=by
 obtain ⟨a,cap,rfl,hlc,hcm⟩:=h0.shape
 obtain ⟨a',cap',rfl,_,_⟩:=h1.shape
 have H0:=h_ h0
 have H1:=h_ h1
 obtain ⟨N,hN⟩:=gN (xs.length)
 have HN:=h_ hN
 have hNm:N≤9223372036854775807:=by unfold maxLen at hcm;omega
 rw[hN]at H0 H1 ⊢
 clear h0 h1 hlc hcm hN
 go_enter Try.func9,Try.ntmps9
 go_wp2
 go_loopw [5] (fun x wr=>∃(i:Nat) (xi:Int),i≤N∧xi=(i:Int)∧x=.int .i64 xi∧Below w.heap.size w wr) (fun x _=>N - (intOf x).toNat)
 case atStart=>exact ⟨0,0,Nat.zero_le _,rfl,rfl,Below.refl _ _⟩
 case round=>
  obtain ⟨i,xi,hi,hxi,rfl,hbw⟩:=hrel
  have HB:=h_ hbw
  have HXI:=h_ hxi
  have hxi0:0≤xi:=by omega
  have hxi1:xi≤9223372036854775807:=by omega
  clear hbw hxi
  by_cases hlt:xi<(N:Int)
  ·have hin:i<N:=by have:=HXI.out;omega
   have hxn:xi.toNat=i:=by have:=HXI.out;omega
   obtain ⟨x,hx⟩:∃x,xs[i]?=some x:=⟨xs[i]'(by have:=HN.out;omega),List.getElem?_eq_getElem _⟩
   obtain ⟨b,off,cp,s0a,s0n,s0k,s1a,s1n,s1k,ev,k0,k1,k2,k3,k4,k5,k6,hly⟩:=H0.out.at hx
   obtain ⟨hs0,hs1⟩:=Y_.ints hly
   clear hly
   injection ev with ev1 ev2 ev3
   clear ev2 ev3
   subst ev1
   obtain ⟨b',off',cp',s0'a,s0'n,s0'k,s1'a,s1'n,s1'k,ev,y0,y1,y2,y3,y4,y5,y6,hly'⟩:=H1.out.at hx
   obtain ⟨hs0',hs1'⟩:=Y_.ints hly'
   clear hly'
   injection ev with ev1 ev2 ev3
   clear ev2 ev3
   subst ev1
   rw[←hxn]at k0 k1 k2 k3 k4 k5 k6 y0 y1 y2 y3 y4 y5 y6
   have HK:=h_ (fun W (h:Below w.heap.size w W)=>(And.intro (c_ h k0) (And.intro (c_ h k1) (And.intro (c_ h k2) (And.intro (c_ h k3) (And.intro (c_ h k4) (And.intro (c_ h k5) (And.intro (c_ h k6) (And.intro (c_ h y0) (And.intro (c_ h y1) (And.intro (c_ h y2) (And.intro (c_ h y3) (And.intro (c_ h y4) (And.intro (c_ h y5) (c_ h y6)))))))))))))))
   have HM0:=h_ (fun W (h:Below w.heap.size w W)=>matrices_any _ _ x.w x.w W ⟨_,rfl,hs0.u_ h⟩ ⟨_,rfl,hs0'.u_ h⟩)
   rw[sameM_refl]at HM0
   have HM1:=h_ (fun W (h:Below w.heap.size w W)=>matrices_any _ _ x.b x.b W ⟨_,rfl,hs1.u_ h⟩ ⟨_,rfl,hs1'.u_ h⟩)
   rw[sameM_refl]at HM1
   clear k0 k1 k2 k3 k4 k5 k6 y0 y1 y2 y3 y4 y5 y6 hs0 hs0' hs1 hs1' hx hxn
   obtain ⟨k0,k1,k2,k3,k4,k5,k6,y0,y1,y2,y3,y4,y5,y6⟩:=HK.out wr HB.out
   have kz1:=k2
   have kz2:=k3
   have yz1:=y2
   have yz2:=y3
   go_wp2
   refine region_tail 10 (by kernel_rfl) (by kernel_rfl) ?_
   simp only[List.take_succ_cons,List.take_zero,List.drop_succ_cons,List.drop_zero]
   repeat still_step
   refine wpStill_nil ?_
   go_wp2_with fail
   refine (HM0.out _ (r_ HB.out)).mono ?_
   rintro e w1 ⟨rfl,hb1⟩
   have HB1:=h_ (b_ (r_ HB.out) hb1)
   clear hb1 k0 k1 k2 k3 k4 k5 k6 y0 y1 y2 y3 y4 y5 y6 kz1 kz2 yz1 yz2
   obtain ⟨k0,k1,k2,k3,k4,k5,k6,y0,y1,y2,y3,y4,y5,y6⟩:=HK.out w1 HB1.out
   have kz1:=k5
   have kz2:=k6
   have yz1:=y5
   have yz2:=y6
   go_wp2
   refine region_tail 10 (by kernel_rfl) (by kernel_rfl) ?_
   simp only[List.take_succ_cons,List.take_zero,List.drop_succ_cons,List.drop_zero]
   repeat still_step
   refine wpStill_nil ?_
   go_wp2_with fail
   refine (HM1.out _ (r_ HB1.out)).mono ?_
   rintro e w2 ⟨rfl,hb2⟩
   have HB2:=h_ (b_ (r_ HB1.out) hb2)
   clear hb2 k0 k1 k2 k3 k4 k5 k6 y0 y1 y2 y3 y4 y5 y6 kz1 kz2 yz1 yz2
   obtain ⟨k0,k1,k2,k3,k4,k5,k6,y0,y1,y2,y3,y4,y5,y6⟩:=HK.out w2 HB2.out
   clear k1 k2 k3 k4 k5 k6 y1 y2 y3 y4 y5 y6
   go_wp2
   go_region
   all_goals go_wp2
   all_goals go_roundw
   case rel=>exact ⟨i+1,_,by omega,by have:=HXI.out;omega,rfl,r_ HB2.out⟩
   case measure=>have:=HXI.out;simp[intOf];omega
  ·go_wp2
   go_ret
   exact ⟨rfl,HB.out⟩
end Go.Proofs.Ytniloklglpchfaf
