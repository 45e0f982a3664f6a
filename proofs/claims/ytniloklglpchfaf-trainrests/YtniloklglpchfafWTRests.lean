/- The walk of the law TrainRests: where just what comes is wanted nothing is learned, if nothing was under way. -/
import Derived.Test.YtniloklglpchfafPkTrFact
import Derived.Test.YtniloklglpchfafPkTrRest
import Derived.Test.YtniloklglpchfafNetC2
import Derived.Deep.CutBlock
import Derived.Deep.CutRange
namespace Go.Proofs.Ytniloklglpchfaf
open Go.RowKit
theorem run_room:∀(ls:List Ly) (x:Mx),runE ls x=0→∀l∈ls,l.w.cells.length≤17592186043904∧l.b.cells.length≤17592186043904
 |[],_,_,_,hl=>by cases hl
 |l0::ls,x,h,l,hl=>by
  obtain ⟨e1,e2⟩:=runE_zero h
  rcases List.mem_cons.1 hl with rfl|hl
  ·obtain ⟨_,_,fw,fb,_⟩:=lgood_of (goE_zero e1).1
   obtain ⟨R,C,gw⟩:=o__ fw
   obtain ⟨R2,C2,gb⟩:=o__ fb
   have h1:=Nat.mul_le_mul gw.hR gw.hC
   have h2:=Nat.mul_le_mul gb.hR gb.hC
   rw[gw.l,gb.l]
   omega
  ·exact run_room ls (goX l0 x) e2 l hl
set_option maxHeartbeats 16000000 in
set_option maxRecDepth 100000 in
theorem trests_walk(v0 v1:Value)(ls:List Ly)(ps:List (Mx×Mx))(n:Int)(vx:Value)(x:Mx)(parts le ke:Int)(w:World)(w0:Y_ w v0 ls)(w1:D_ w v1 ps)(w2:M_ w vx x):Calls Try.prog 3 #[.agg #[v0,v1,.int .i64 n],vx,.int .i64 parts,.agg #[.int .i64 le,.int .i64 ke]] w fun e w'=>e=.returned (.bool true)∧Below w.heap.size w w':=by
 obtain ⟨a,cap,rfl,_,_⟩:=w0.shape
 obtain ⟨a1,cap1,rfl,_,_⟩:=w1.shape
 obtain ⟨sx,rfl,hs⟩:=w2
 obtain ⟨xa,xn,xk,rfl⟩:=hs.shape
 obtain ⟨N,hN⟩:=gN (ls.length)
 obtain ⟨N1,hN1⟩:=gN (ps.length)
 rw[hN]at w0 ⊢
 rw[hN1]at w1 ⊢
 have HNL:=h_ hN
 obtain ⟨V,hV⟩:=gM (((w.alloc (.cells #[.slice a N cap,.slice a1 N1 cap1,.int .i64 n] 25)).alloc (.cells #[.int .i64 x.rows,.int .i64 x.cols,.slice xa xn xk] 28)).alloc (.cells #[.int .i64 le,.int .i64 ke] 30))
 have HV:=h_ hV
 have HWV:Hid (Below w.heap.size w V):=by rw[hV];exact h_ (a_ (a_ (o_ _ _)))
 have HX0:Hid (Box V w.heap.size [.slice a N cap,.slice a1 N1 cap1,.int .i64 n]):=by rw[hV];exact h_ ((Box.new w [.slice a N cap,.slice a1 N1 cap1,.int .i64 n] 25 rfl).u_ (a_ (o_ _ _)))
 have HX1:Hid (Box V (w.heap.size+1) [.int .i64 x.rows,.int .i64 x.cols,.slice xa xn xk]):=by rw[hV];exact h_ ((Box.new _ [.int .i64 x.rows,.int .i64 x.cols,.slice xa xn xk] 28 (by simp)).u_ (o_ _ _))
 have HX2:Hid (Box V (w.heap.size+1+1) [.int .i64 le,.int .i64 ke]):=by rw[hV];exact h_ (Box.new _ [.int .i64 le,.int .i64 ke] 30 (by simp))
 have M0:=h_ (w0.u_ HWV.out)
 have MS:=h_ (hs.u_ HWV.out)
 obtain ⟨E0,hE0⟩:=gN (ngE ls x)
 have HE0:=h_ hE0
 clear w0 w1 hs hE0 hN hN1
 have C0:=h_ (Below.refl V.heap.size V)
 clear hV
 go_enter Try.func3,Try.ntmps3
 have HX:=h_ (tfact_any V)
 go_wp2_with fail
 rw[←HV.out]
 refine HX.out.mono ?_
 rintro e u1 ⟨rfl,hb⟩
 replace C0:=h_ (b_ C0.out hb)
 clear HX hb
 have C1:=h_ (Below.refl u1.heap.size u1)
 have d0:=(HX0.out.u_ C0.out) 0 _ rfl
 obtain ⟨g0,g1,g2⟩:=(HX1.out.u_ C0.out).c3
 have HX:=h_ (netgo_any _ (.agg #[.int .i64 x.rows,.int .i64 x.cols,.slice xa xn xk]) ls x _ (M0.out.u_ C0.out) ⟨_,rfl,(MS.out.u_ C0.out)⟩)
 go_wp2_with fail
 refine HX.out.mono ?_
 rintro e u2 ⟨vl,rfl,hm,hb⟩
 replace C0:=h_ (b_ C0.out hb)
 replace C1:=h_ (b_ C1.out hb)
 clear HX hb
 have C2:=h_ (Below.refl u2.heap.size u2)
 rw[HE0.out]
 have HM:=h_ hm
 obtain ⟨la,lk,rfl,hlc,hlm⟩:=hm.shape
 clear d0 g0 g1 g2 hm
 obtain ⟨L,hL⟩:=gN ((ngX ls x).length)
 have HL:=h_ hL
 rw[hL]at HM hlc ⊢
 replace hlm:L≤maxLen:=Nat.le_trans hlc hlm
 unfold maxLen at hlm
 clear hlc
 clear hL
 by_cases hE:E0=0
 case neg=>
  rw[n_ hE]
  clear hE
  go_wp2
  go_ret
  exact ⟨rfl,b_ HWV.out C0.out⟩
 case pos=>
 subst hE
 rw[e_ rfl]
 obtain ⟨h12,hfx,hrun⟩:=(ngE_iff ls x).1 HE0.out
 have HRM:=h_ (run_room ls x hrun)
 have HLE:=h_ (show ls.length≤1599289640355 by omega)
 have hLN:L=N+1:=by rw[←HL.out,←HNL.out];unfold ngX;rw[if_pos HE0.out,List.length_cons,runT_len]
 have HAT:=h_ (show (ngX ls x)[N]?=some (endX ls x) by rw[←HNL.out];unfold ngX;rw[if_pos HE0.out];exact endX_at ls x)
 have hL1:(1:Int)≤(L:Int):=by omega
 have hL2:(L:Int)≤13:=by have:=HNL.out;omega
 have hL0:((L:Int)==0)=false:=by simp;omega
 have HLN:=h_ hLN
 clear h12 hfx hrun hLN hlm
 have d0:=(HX0.out.u_ C0.out) 0 _ rfl
 have HX:=h_ (trbegin_any _ ls _ (M0.out.u_ C0.out) HLE.out HRM.out)
 go_wp2_with fail
 refine HX.out.mono ?_
 rintro e u3 ⟨y1,y2,rfl,ho1,ho2,hb⟩
 replace C0:=h_ (b_ C0.out hb)
 replace C1:=h_ (b_ C1.out hb)
 replace C2:=h_ (b_ C2.out hb)
 clear HX hb
 have C3:=h_ (Below.refl u3.heap.size u3)
 have HQ1:=h_ (show Y_ u3 y1 ls from ho1.reads)
 have HQ2:=h_ (show D_ u3 y2 (zeroD ls) from ho2.reads)
 obtain ⟨ba,bk,rfl,_,_⟩:=HQ1.out.shape
 obtain ⟨bc,bl,rfl,_,_⟩:=HQ2.out.shape
 obtain ⟨bn,ebn⟩:=gN (ls.length)
 obtain ⟨bm,ebm⟩:=gN ((zeroD ls).length)
 rw[ebn]at HQ1 ⊢
 rw[ebm]at HQ2 ⊢
 clear ho1 ho2 d0 ebn ebm
 replace C0:=h_ (a_ (o:=(.cells #[.slice ba bn bk,.slice bc bm bl,.int .i64 0] 37)) C0.out)
 replace C1:=h_ (a_ (o:=(.cells #[.slice ba bn bk,.slice bc bm bl,.int .i64 0] 37)) C1.out)
 replace C2:=h_ (a_ (o:=(.cells #[.slice ba bn bk,.slice bc bm bl,.int .i64 0] 37)) C2.out)
 replace C3:=h_ (a_ (o:=(.cells #[.slice ba bn bk,.slice bc bm bl,.int .i64 0] 37)) C3.out)
 have HX7:=h_ (show Box (u3.alloc (.cells #[.slice ba bn bk,.slice bc bm bl,.int .i64 0] 37)) u3.heap.size [.slice ba bn bk,.slice bc bm bl,.int .i64 0] from Box.new _ _ _ rfl)
 have C4:=h_ (Below.refl (u3.alloc (.cells #[.slice ba bn bk,.slice bc bm bl,.int .i64 0] 37)).heap.size (u3.alloc (.cells #[.slice ba bn bk,.slice bc bm bl,.int .i64 0] 37)))
 obtain ⟨W,hW⟩:=gM ((u3.alloc (.cells #[.slice ba bn bk,.slice bc bm bl,.int .i64 0] 37)))
 have HW:=h_ hW
 replace HX0:=h_ (HX0.out.u_ C0.out)
 rw[←hW]at HX0
 replace HX1:=h_ (HX1.out.u_ C0.out)
 rw[←hW]at HX1
 replace HX2:=h_ (HX2.out.u_ C0.out)
 rw[←hW]at HX2
 replace M0:=h_ (M0.out.u_ C0.out)
 rw[←hW]at M0
 replace MS:=h_ (MS.out.u_ C0.out)
 rw[←hW]at MS
 replace HM:=h_ (HM.out.u_ C2.out)
 rw[←hW]at HM
 replace HQ1:=h_ (HQ1.out.u_ C3.out)
 rw[←hW]at HQ1
 replace HQ2:=h_ (HQ2.out.u_ C3.out)
 rw[←hW]at HQ2
 replace HX7:=h_ (HX7.out.u_ C4.out)
 rw[←hW]at HX7
 have HWW:=h_ (b_ HWV.out C0.out)
 rw[←hW]at HWW
 clear hW C0 C1 C2 C3 C4
 obtain ⟨mb,mo,mk,za,zn,zk,ev,m0,m1,m2,hz⟩:=HM.out.at HAT.out
 obtain rfl:=(Value.slice.inj ev).1
 obtain ⟨B7,hB7⟩:=gN (u3.heap.size)
 rw[hB7]at HX7
 have HB7:=h_ hB7
 obtain ⟨er,eer⟩:=gN ((endX ls x).rows)
 obtain ⟨ec,eec⟩:=gN ((endX ls x).cols)
 have HSB:Hid (∀W',Below W.heap.size W W'→(fun W'=>W'.cell? ⟨B7,0,none⟩=some (.slice ba bn bk)∧W'.cell? ⟨B7,1,none⟩=some (.slice bc bm bl)∧W'.cell? ⟨B7,2,none⟩=some (.int .i64 0)∧W'.cell? ⟨w.heap.size+1,0,none⟩=some (.int .i64 x.rows)∧W'.cell? ⟨w.heap.size+1,1,none⟩=some (.int .i64 x.cols)∧W'.cell? ⟨w.heap.size+1,2,none⟩=some (.slice xa xn xk)∧W'.cell? ⟨w.heap.size+1+1,0,none⟩=some (.int .i64 le)∧W'.cell? ⟨w.heap.size+1+1,1,none⟩=some (.int .i64 ke)∧W'.cell? ⟨mb,mo+N*3,none⟩=some (.int .i64 er)∧W'.cell? ⟨mb,mo+N*3+1,none⟩=some (.int .i64 ec)∧W'.cell? ⟨mb,mo+N*3+2,none⟩=some (.slice za zn zk)) W'):=by
  rw[←eer,←eec]
  exact h_ (fun W' h=>⟨(HX7.out.u_ h) 0 _ rfl,(HX7.out.u_ h) 1 _ rfl,(HX7.out.u_ h) 2 _ rfl,(HX1.out.u_ h) 0 _ rfl,(HX1.out.u_ h) 1 _ rfl,(HX1.out.u_ h) 2 _ rfl,(HX2.out.u_ h) 0 _ rfl,(HX2.out.u_ h) 1 _ rfl,c_ h m0,c_ h m1,c_ h m2⟩)
 have HT1:=h_ (trone_any (.slice ba bn bk) (.slice bc bm bl) ls (zeroD ls) 0 (x,endX ls x) parts le ke xa xn xk za zn zk (W.alloc (.cells #[.slice none 0 0,.slice none 0 0,.int .i64 0] 37)).drew (HQ1.out.u_ (d_ (o_ _ _))) (HQ2.out.u_ (d_ (o_ _ _))) (MS.out.u_ (d_ (o_ _ _))) (hz.u_ (d_ (o_ _ _))))
 have HT0:=h_ (trone_any (.slice ba bn bk) (.slice bc bm bl) ls (zeroD ls) 0 (x,endX ls x) parts le ke xa xn xk za zn zk W.drew (HQ1.out.u_ (d_ (Below.refl _ _))) (HQ2.out.u_ (d_ (Below.refl _ _))) (MS.out.u_ (d_ (Below.refl _ _))) (hz.u_ (d_ (Below.refl _ _))))
 obtain ⟨E,hE⟩:=gN (oneE ls (zeroD ls) 0 (x,endX ls x) parts le ke)
 obtain ⟨X,hX⟩:=gN (stepS ⟨ls,zeroD ls,0⟩ (x,endX ls x) parts le ke)
 obtain ⟨K,hK⟩:=gN (stepK ⟨ls,zeroD ls,0⟩ (x,endX ls x) parts le ke)
 obtain ⟨XN,eXN⟩:=gN (X.net.length)
 obtain ⟨XV,eXV⟩:=gN (X.spd.length)
 obtain ⟨xs,exs⟩:=gN (X.n)
 have HXN:=h_ (And.intro eXN (And.intro eXV exs))
 have HEX:=h_ (And.intro hE (And.intro hX hK))
 rw[hE,hX,hK,eXN,eXV,exs]at HT1 HT0
 have e1:((x,endX ls x):Mx×Mx).1=x:=rfl
 have e2:((x,endX ls x):Mx×Mx).2=endX ls x:=rfl
 rw[e1,e2,eer,eec]at HT1 HT0
 obtain ⟨EV,hEV⟩:=gM (errV E)
 have HEV:=h_ hEV
 rw[←hEV]at HT1 HT0
 clear ev m0 m1 m2 hz hB7 eer eec hE hX hK eXN eXV exs e1 e2 hEV
 have hsub:IntKind.i64.wrap ((L:Int) - 1)=(L:Int) - 1:=by rw[IntKind.wrap_i64];omega
 have hidx:((L:Int) - 1).toNat=N:=by have:=HLN.out;omega
 have hidx2:L - 1=N:=by have:=HLN.out;omega
 have hb0:(0:Int)≤(L:Int) - 1:=by omega
 have hb1':(L:Int) - 1<(L:Int):=by omega
 go_upto_region 8 with fail
 rw[←HW.out,HB7.out]
 clear HW HB7
 go_cut [11,13,14] from 16 to 70 (fun ev pv kv wx=>ev=EV∧kv=.int .i64 K∧∃(Bx:Nat) (pa:Option Addr) (pk:Nat) (pb:Option Addr) (pl:Nat),pv=.pointer (some ⟨Bx,0,none⟩)∧Box wx Bx [.slice pa XN pk,.slice pb XV pl,.int .i64 xs]∧Y_ wx (.slice pa XN pk) X.net∧Below W.heap.size W wx)
 case first=>
  obtain ⟨lm0,lm1,lm2,lm3,lm4,lm5,lm6,lm7,lm8,lm9,lm10⟩:=HSB.out W (Below.refl _ _)
  go_region_held3 (fun W'=>W'.cell? ⟨B7,0,none⟩=some (.slice ba bn bk)∧W'.cell? ⟨B7,1,none⟩=some (.slice bc bm bl)∧W'.cell? ⟨B7,2,none⟩=some (.int .i64 0)∧W'.cell? ⟨w.heap.size+1,0,none⟩=some (.int .i64 x.rows)∧W'.cell? ⟨w.heap.size+1,1,none⟩=some (.int .i64 x.cols)∧W'.cell? ⟨w.heap.size+1,2,none⟩=some (.slice xa xn xk)∧W'.cell? ⟨w.heap.size+1+1,0,none⟩=some (.int .i64 le)∧W'.cell? ⟨w.heap.size+1+1,1,none⟩=some (.int .i64 ke)∧W'.cell? ⟨mb,mo+N*3,none⟩=some (.int .i64 er)∧W'.cell? ⟨mb,mo+N*3+1,none⟩=some (.int .i64 ec)∧W'.cell? ⟨mb,mo+N*3+2,none⟩=some (.slice za zn zk)) ((refine HSB.out _ ?_;repeat' (first|with_reducible exact Below.refl _ _|with_reducible exact HB2.out|with_reducible refine d_ ?_|with_reducible refine a_ ?_|with_reducible refine t_ ?_ ?_|exact Nat.le_refl _|exact HB2.out.size)))
   (first
    |(go_at_call 8;guard_target=Calls _ _ _ (World.drew (World.alloc _ _)) _;refine HT1.out.mono ?_;rintro e w2 ⟨hb2,x1,x2,rfl,ho1,ho2⟩;obtain ⟨pa,pk,rfl,_,_,_⟩:=ho1.reads;obtain ⟨pb,pl,rfl,_,_,_⟩:=ho2.reads;have HB2:=h_ (show Below W.heap.size W w2 from b_ (o_ W (.cells #[.slice none 0 0,.slice none 0 0,.int .i64 0] 37)) (b_ (d_ (Below.refl _ _)) hb2));have HBZ:=h_ (show Box w2 W.heap.size [.slice none 0 0,.slice none 0 0,.int .i64 0] from (Box.new W [.slice none 0 0,.slice none 0 0,.int .i64 0] 37 rfl).u_ (b_ (d_ (Below.refl _ _)) hb2));have HFZ:=h_ (show Free w2 W.heap.size from (Free.new W #[.slice none 0 0,.slice none 0 0,.int .i64 0] 37 rfl).u_ (b_ (d_ (Below.refl _ _)) hb2) (by simp));have t0:=HBZ.out 0 _ rfl;have t1:=HBZ.out 1 _ rfl;have t2:=HBZ.out 2 _ rfl;have f0:=HFZ.out 0;have f1:=HFZ.out 1;have f2:=HFZ.out 2;have HLT:=h_ (show W.heap.size<(W.alloc (.cells #[.slice none 0 0,.slice none 0 0,.int .i64 0] 37)).drew.heap.size by rw[show (W.alloc (.cells #[.slice none 0 0,.slice none 0 0,.int .i64 0] 37)).drew.heap.size=(W.alloc (.cells #[.slice none 0 0,.slice none 0 0,.int .i64 0] 37)).heap.size from rfl,World.size_alloc];exact Nat.lt_succ_self _);have HRES:=h_ (show ∃(Bx:Nat) (pa':Option Addr) (pk':Nat) (pb':Option Addr) (pl':Nat),(Value.pointer (some ⟨W.heap.size,0,none⟩):Value)=.pointer (some ⟨Bx,0,none⟩)∧Box (((w2.setCell ⟨W.heap.size,0,none⟩ (.slice pa XN pk)).setCell ⟨W.heap.size,1,none⟩ (.slice pb XV pl)).setCell ⟨W.heap.size,2,none⟩ (.int .i64 xs)) Bx [.slice pa' XN pk',.slice pb' XV pl',.int .i64 xs]∧Y_ (((w2.setCell ⟨W.heap.size,0,none⟩ (.slice pa XN pk)).setCell ⟨W.heap.size,1,none⟩ (.slice pb XV pl)).setCell ⟨W.heap.size,2,none⟩ (.int .i64 xs)) (.slice pa' XN pk') X.net∧Below W.heap.size W (((w2.setCell ⟨W.heap.size,0,none⟩ (.slice pa XN pk)).setCell ⟨W.heap.size,1,none⟩ (.slice pb XV pl)).setCell ⟨W.heap.size,2,none⟩ (.int .i64 xs)) from ⟨_,pa,pk,pb,pl,rfl,three_set HBZ.out _ _ _,(by show Reads _ _ X.net.length _;rw[HXN.out.1];exact (((ho1.set (Nat.zero_le _) HLT.out 0 _).set (Nat.zero_le _) HLT.out 1 _).set (Nat.zero_le _) HLT.out 2 _).reads),S_ HB2.out (Nat.le_refl _) _ _ _⟩);clear hb2 ho1 ho2)
    |(go_at_call 8;refine HT0.out.mono ?_;rintro e w2 ⟨hb2,x1,x2,rfl,ho1,ho2⟩;obtain ⟨pa,pk,rfl,_,_,_⟩:=ho1.reads;obtain ⟨pb,pl,rfl,_,_,_⟩:=ho2.reads;have HB2:=h_ (show Below W.heap.size W w2 from b_ (d_ (Below.refl _ _)) hb2);have HRES:=h_ (show ∃(Bx:Nat) (pa':Option Addr) (pk':Nat) (pb':Option Addr) (pl':Nat),(Value.pointer (some ⟨w2.heap.size,0,none⟩):Value)=.pointer (some ⟨Bx,0,none⟩)∧Box (w2.alloc (.cells #[.slice pa XN pk,.slice pb XV pl,.int .i64 xs] 37)) Bx [.slice pa' XN pk',.slice pb' XV pl',.int .i64 xs]∧Y_ (w2.alloc (.cells #[.slice pa XN pk,.slice pb XV pl,.int .i64 xs] 37)) (.slice pa' XN pk') X.net∧Below W.heap.size W (w2.alloc (.cells #[.slice pa XN pk,.slice pb XV pl,.int .i64 xs] 37)) from ⟨_,pa,pk,pb,pl,rfl,Box.new _ _ _ rfl,(by show Reads _ _ X.net.length _;rw[HXN.out.1];exact (ho1.reads).u_ (o_ _ _)),a_ HB2.out⟩);clear hb2 ho1 ho2))
  all_goals go_wp2
  all_goals go_meet
  all_goals exact ⟨rfl,rfl,HRES.out⟩
 case rest=>
 obtain ⟨rfl,rfl,Bx,pa,pk,pb,pl,rfl,hbx,hly,hbw⟩:=hcut
 obtain ⟨W5,hW5⟩:=gM (wc)
 subst hW5
 have HBX:=h_ hbx
 have HLY:=h_ hly
 have HBW:=h_ hbw
 clear hbx hly hbw HSB HT1 HT0 hsub hidx hidx2 hb0 hb1'
 rw[HEV.out]
 by_cases hE:E=0
 case neg=>
  rw[n_ hE]
  clear hE
  go_wp2
  go_ret
  exact ⟨rfl,b_ HWW.out HBW.out⟩
 case pos=>
 subst hE
 rw[e_ rfl]
 obtain ⟨g1,g2⟩:=rests_facts HE0.out HEX.out.1
 have eS:X=nextS ⟨ls,zeroD ls,0⟩ (x,endX ls x) parts le ke:=by rw[←HEX.out.2.1];unfold stepS;rw[if_pos (show nextE ⟨ls,zeroD ls,0⟩ (x,endX ls x) parts le ke=0 from HEX.out.1)]
 have eL:X.net=ls:=by rw[eS];exact g2
 have eK:K=0:=by rw[←HEX.out.2.2];unfold stepK;rw[if_pos (show nextE ⟨ls,zeroD ls,0⟩ (x,endX ls x) parts le ke=0 from HEX.out.1)];exact g1
 have es:xs=1:=by rw[←HXN.out.2.2,eS];rfl
 rw[eL]at HLY
 subst eK es
 have HS:=h_ (lys_same (.slice pa XN pk) (.slice a N cap) ls W5 HLY.out (M0.out.u_ HBW.out))
 have q0:=HBX.out 0 _ rfl
 have q2:=HBX.out 2 _ rfl
 have d0:=(HX0.out.u_ HBW.out) 0 _ rfl
 clear g1 g2 eS eL
 go_wp2_with fail
 refine HS.out.mono ?_
 rintro e w6 ⟨rfl,hb6⟩
 have HB6:=h_ (b_ HBW.out hb6)
 replace HBX:=h_ (HBX.out.u_ hb6)
 clear hb6 HS q0 q2 d0
 have q2:=HBX.out 2 _ rfl
 go_wp2
 go_ret
 exact ⟨rfl,b_ HWW.out HB6.out⟩
end Go.Proofs.Ytniloklglpchfaf
