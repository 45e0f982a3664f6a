/- How far two matrices are off, the one way and the other way round: plain facts. No program in sight. -/
import Derived.Test.YtpniemnfdleiiajGreatDoorPkLoss
import Derived.Test.YtpniemnfdleiiajGreatDoorAgC6
import Derived.Test.YtpniemnfdleiiajGreatDoorPkNetBk
namespace Go.Proofs.YtpniemnfdleiiajGreatDoor
theorem off_at{a b:Mx}{R C i:Nat}(ga:Good a R C)(h:addE a b=0)(hi:i<R*C):(offX a b).cells[i]?=some (offAt a b i):=by
 unfold offX;rw[if_pos h,ga.l];exact tab_at hi
theorem off_len{a b:Mx}{R C:Nat}(ga:Good a R C)(h:addE a b=0):(offX a b).cells.length=R*C:=by
 unfold offX;rw[if_pos h,ga.l];simp[tab]
end Go.Proofs.YtpniemnfdleiiajGreatDoor
/- What goes back of a net of which little is kept is what goes back of one of which all is kept. No program in sight. -/
namespace Go.Proofs.YtpniemnfdleiiajGreatDoor
theorem ev_of{e:Int}(h:1≤e)(h':e≤12):evB e=true:=by unfold evB;rw[decide_eq_true_iff];exact ⟨h,h'⟩
theorem ev_in{e:Int}(h:evB e=true):1≤e∧e≤12:=by unfold evB at h;exact of_decide_eq_true h
theorem ag_ok{ls:List Ly}{x y:Mx}{e:Int}(h:agE ls x y e=0):evB e=true∧ngE ls x=0∧addE (endX ls x) y=0∧agB ls x y=0:=by
 unfold agE at h
 by_cases h1:evB e=false
 ·rw[if_pos h1]at h;simp at h
 rw[if_neg h1]at h
 by_cases h2:ngE ls x=0
 ·rw[if_neg (by simp[h2])]at h
  by_cases h3:addE (endX ls x) y=0
  ·rw[if_neg (by simp[h3])]at h
   exact ⟨by simpa using h1,h2,h3,h⟩
  ·rw[if_pos h3]at h;exact absurd h h3
 ·rw[if_pos h2]at h;exact absurd h h2
theorem off_good{a b:Mx}(h:addE a b=0):q_ (offX a b)=0:=by
 obtain ⟨R,C,ga,gb⟩:=addE_good h
 have hl:=off_len ga h
 have hr:(offX a b).rows=a.rows:=by unfold offX;rw[if_pos h]
 have hc:(offX a b).cols=a.cols:=by unfold offX;rw[if_pos h]
 have hg:Good (offX a b) R C:=by
  refine ⟨hr.trans ga.r,hc.trans ga.c,ga.hR,ga.hC,hl,?_⟩
  rw[List.all_eq_true]
  intro z hz
  obtain ⟨i,hi⟩:=List.getElem?_of_mem hz
  have hlt:i<R*C:=by rw[←hl];exact (List.getElem?_eq_some_iff.1 hi).1
  rw[off_at ga h hlt]at hi
  rw[←Option.some.inj hi,ends_iff]
  unfold offAt sb
  exact cl_bd _
 exact hg.fault
theorem ag_net{ls:List Ly}{x y:Mx}{e:Int}(h:agE ls x y e=0):nbE ls (ngX ls x) (offX (endX ls x) y)=0∧nbD ls (ngX ls x) (offX (endX ls x) y)=agD ls x y e:=by
 obtain ⟨_,h2,h3,h4⟩:=ag_ok h
 have hn:ngX ls x=x::runT ls x:=by unfold ngX;rw[if_pos h2]
 have h5:=((ngE_iff ls x).1 h2).1
 have hE:nbE ls (ngX ls x) (offX (endX ls x) y)=0:=by
  rw[hn]
  unfold nbE
  rw[if_neg h5,if_neg (by simp[runT_len])]
  by_cases hl:ls=[]
  ·rw[if_pos hl];exact off_good h3
  ·rw[if_neg hl];exact h4
 refine ⟨hE,?_⟩
 unfold nbD agD
 rw[if_pos hE,if_pos h,hn]
end Go.Proofs.YtpniemnfdleiiajGreatDoor
/- What MostOf of the document's answer comes to: how many are kept at most. -/
namespace Go.Proofs.YtpniemnfdleiiajGreatDoor
open Go.RowKit
def cntR (e f:Nat):Nat→Nat
 |0=>1
 |k+1=>cntR e f k+if k % e=0∨f<k then 1 else 0
def outR (e:Nat):Nat→Nat→Nat→Nat
 |0,m,_=>m
 |i+1,m,d=>if i % e=0 then outR e i (max m (cntR e i d)) i else outR e i m d
def refM (e N:Nat):Nat:=if outR e N 0 N=0 then 1 else outR e N 0 N
theorem ref_most:∀e,e<13→∀N,N<13→0<e→refM e N=mostN e N:=by decide+kernel
theorem cntR_le(e f:Nat):∀k,cntR e f k≤k+1
 |0=>Nat.le_refl _
 |k+1=>by have:=cntR_le e f k;show cntR e f k+_≤_;split<;>omega
theorem rem_nat{x y:Int}{a b:Nat}(hx:x=(a:Int))(hy:y=(b:Int)):x % y=((a % b:Nat):Int):=by rw[hx,hy];exact (Int.natCast_emod a b).symm
set_option maxHeartbeats 8000000 in
set_option maxRecDepth 100000 in
theorem rmost_any(e N:Nat)(w:World)(he:1≤e)(he2:e≤12)(hN:N≤12):Calls Tryz.prog 9 #[.int .i64 (N:Int),.int .i64 (e:Int)] w fun x w'=>x=.returned (.int .i64 (mostN e N:Int))∧w'=w:=by
 obtain ⟨xe,hxe⟩:∃x:Int,(e:Int)=x:=⟨_,rfl⟩
 obtain ⟨xN,hxN⟩:∃x:Int,(N:Int)=x:=⟨_,rfl⟩
 rw[←ref_most e (by omega) N (by omega) (by omega),hxe,hxN]
 obtain ⟨R,hR⟩:=gN (outR e N 0 N)
 have HR:=h_ hR
 have HRM:=h_ (show refM e N=if R=0 then 1 else R by unfold refM;rw[hR])
 obtain ⟨Q,hQ⟩:=gN (refM e N)
 rw[hQ]at HRM ⊢
 have HX:=h_ (And.intro hxe hxN)
 have b0:1≤xe:=by omega
 have b1:xe≤12:=by omega
 have b2:0≤xN:=by omega
 have b3:xN≤12:=by omega
 clear hxe hxN hR hQ he he2 hN
 go_enter Tryz.func9,Tryz.ntmps9
 go_wp2
 go_loopw [5,6,7,8,9] (fun mv dv fv _ _ wr=>∃(i m d:Nat) (xi xm xd:Int),xi=(i:Int) - 1∧xm=(m:Int)∧xd=(d:Int)∧fv=.int .i64 xi∧mv=.int .i64 xm∧dv=.int .i64 xd∧i≤12∧m≤13∧d≤12∧outR e i m d=R∧wr=w) (fun _ _ fv _ _ _=>(intOf fv+1).toNat)
 case atStart=>exact ⟨N,0,N,xN - 1,0,xN,by have:=HX.out.2;omega,rfl,HX.out.2.symm,rfl,rfl,rfl,by have:=HX.out.2;omega,by omega,by have:=HX.out.2;omega,HR.out,rfl⟩
 case round=>
  obtain ⟨i,m,d,xi,xm,xd,e1,e2,e3,rfl,rfl,rfl,h1,h2,h3,h4,rfl⟩:=hrel
  have c0:-1≤xi:=by omega
  have c1:xi≤11:=by omega
  have c2:0≤xm:=by omega
  have c3:xm≤13:=by omega
  have c4:0≤xd:=by omega
  have c5:xd≤12:=by omega
  have HEQ:=h_ (And.intro e1 (And.intro e2 e3))
  have HOR:=h_ h4
  have HDL:=h_ h3
  by_cases hlt:0≤xi
  ·obtain ⟨k,rfl⟩:∃k,i=k+1:=⟨i - 1,by omega⟩
   have hrem:=rem_nat (x:=xi) (y:=xe) (a:=k) (b:=e) (by omega) HX.out.1.symm
   by_cases hm:k % e=0
   ·have n1:(xi % xe !=0)=false:=by rw[hrem,hm];rfl
    have hst:outR e k (max m (cntR e k d)) k=R:=by rw[←h4];show _=(if k % e=0 then _ else _);rw[if_pos hm]
    have HST:=h_ hst
    clear e1 e2 e3 h1 h2 h3 h4 hrem hm hst
    go_wp2
    obtain ⟨W0,hW0⟩:=gM (wr)
    subst hW0
    go_loopw [8,9] (fun nv kv w2=>∃(j n:Nat) (xj xn:Int),xj=(j:Int)∧xn=(n:Int)∧kv=.int .i64 xj∧nv=.int .i64 xn∧j≤d∧n=cntR e k j∧w2=W0) (fun _ kv _=>12 - (intOf kv).toNat)
    case atStart=>exact ⟨0,1,0,1,rfl,rfl,rfl,rfl,Nat.zero_le _,rfl,rfl⟩
    case round=>
     obtain ⟨j,n,xj,xn,f1,f2,rfl,rfl,f3,f4,rfl⟩:=hrel
     have HJ:=h_ (And.intro f1 (And.intro f2 (And.intro f3 f4)))
     have hnl:n≤13:=by rw[f4];have:=cntR_le e k j;have:=HDL.out;omega
     have g0:0≤xj:=by omega
     have g1:xj≤12:=by have:=HDL.out;omega
     have g2:0≤xn:=by omega
     have g3:xn≤13:=by omega
     by_cases hjd:xj<xd
     ·have hdl:=HDL.out
      have hrj:=rem_nat (x:=xj) (y:=xe) (a:=j) (b:=e) f1 HX.out.1.symm
      by_cases hc1:j % e=0
      ·have n2:(xj % xe==0)=true:=by rw[hrj,hc1];rfl
       have HCS:=h_ (show cntR e k (j+1)=cntR e k j+1 by show _+(if _ then _ else _)=_;rw[if_pos (.inl hc1)])
       clear f1 f2 f3 f4 hnl hrj hc1
       go_wp2
       go_roundw
       case rel=>exact ⟨j+1,n+1,xj+1,xn+1,by have:=HJ.out.1;omega,by have:=HJ.out.2.1;omega,rfl,rfl,by have:=HJ.out.1;have:=HEQ.out.2.2;omega,by rw[HCS.out,←HJ.out.2.2.2],by first|rfl|trivial⟩
       case measure=>have:=HDL.out;simp[intOf];omega
      ·have n2:(xj % xe==0)=false:=by rw[hrj];simp;omega
       by_cases hc2:xi<xj
       ·have HCS:=h_ (show cntR e k (j+1)=cntR e k j+1 by show _+(if _ then _ else _)=_;rw[if_pos (.inr (by have:=HEQ.out.1;omega))])
        clear f1 f2 f3 f4 hnl hrj hc1
        go_wp2
        go_roundw
        case rel=>exact ⟨j+1,n+1,xj+1,xn+1,by have:=HJ.out.1;omega,by have:=HJ.out.2.1;omega,rfl,rfl,by have:=HJ.out.1;have:=HEQ.out.2.2;omega,by rw[HCS.out,←HJ.out.2.2.2],by first|rfl|trivial⟩
        case measure=>have:=HDL.out;simp[intOf];omega
       ·have HCS:=h_ (show cntR e k (j+1)=cntR e k j by show _+(if _ then _ else _)=_;rw[if_neg (by rintro (h|h);exact hc1 h;have:=HEQ.out.1;omega),Nat.add_zero])
        clear f1 f2 f3 f4 hnl hrj hc1
        go_wp2
        go_roundw
        case rel=>exact ⟨j+1,n,xj+1,xn,by have:=HJ.out.1;omega,by have:=HJ.out.2.1;omega,rfl,rfl,by have:=HJ.out.1;have:=HEQ.out.2.2;omega,by rw[HCS.out,←HJ.out.2.2.2],by first|rfl|trivial⟩
        case measure=>have:=HDL.out;simp[intOf];omega
     ·have hjd2:j=d:=by have:=HEQ.out.2.2;omega
      have HND:=h_ (show n=cntR e k d by rw[f4,hjd2])
      have HN:=h_ f2
      have HK:=h_ (show xi=(k:Int) by have:=HEQ.out.1;omega)
      clear f1 f2 f3 f4 hjd2
      by_cases hgt:xm<xn
      ·go_wp2
       go_roundw
       case rel=>exact ⟨k,n,k,xi - 1,xn,xi,by rw[HK.out],HN.out,HK.out,rfl,rfl,rfl,by have:=HK.out;omega,hnl,by have:=HK.out;omega,by rw[←HST.out,←HND.out,Nat.max_eq_right (by have:=HEQ.out.2.1;have:=HN.out;omega)],by first|rfl|trivial⟩
       case measure=>simp[intOf];omega
      ·go_wp2
       go_roundw
       case rel=>exact ⟨k,m,k,xi - 1,xm,xi,by rw[HK.out],HEQ.out.2.1,HK.out,rfl,rfl,rfl,by have:=HK.out;omega,by have:=HEQ.out.2.1;omega,by have:=HK.out;omega,by rw[←HST.out,←HND.out,Nat.max_eq_left (by have:=HEQ.out.2.1;have:=HN.out;omega)],by first|rfl|trivial⟩
       case measure=>simp[intOf];omega
   ·have n1:(xi % xe !=0)=true:=by rw[hrem];simp;omega
    have HST:=h_ (show outR e k m d=R by rw[←h4];show _=(if k % e=0 then _ else _);rw[if_neg hm])
    have HK:=h_ (show xi=(k:Int) by have:=HEQ.out.1;omega)
    clear e1 e2 e3 h1 h2 h3 h4 hrem hm
    go_wp2
    go_roundw
    case rel=>exact ⟨k,m,d,xi - 1,xm,xd,by rw[HK.out],HEQ.out.2.1,HEQ.out.2.2,rfl,rfl,rfl,by have:=HK.out;omega,by have:=HEQ.out.2.1;omega,HDL.out,HST.out,by first|rfl|trivial⟩
    case measure=>simp[intOf];omega
  ·obtain rfl:i=0:=by omega
   have hmR:m=R:=h4
   by_cases hm0:xm=0
   ·have hQ:(1:Int)=(Q:Int):=by rw[HRM.out,if_pos (by omega)];rfl
    have HQ:=h_ hQ
    have n1:(xm==0)=true:=by simp[hm0]
    clear e1 e2 e3 h1 h2 h3 h4 hmR hm0 hQ
    go_wp2
    go_ret
    exact ⟨i_ HQ.out,rfl⟩
   ·have hQ:xm=(Q:Int):=by rw[HRM.out,if_neg (by omega),←hmR];exact e2
    have HQ:=h_ hQ
    have n1:(xm==0)=false:=by simpa using hm0
    clear e1 e2 e3 h1 h2 h3 h4 hmR hm0 hQ
    go_wp2
    go_ret
    exact ⟨i_ HQ.out,rfl⟩
end Go.Proofs.YtpniemnfdleiiajGreatDoor
