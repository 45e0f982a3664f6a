/- What WideOf, GoFault and BackFault of the document's answer come to. -/
import Derived.Test.YtpniemnfdleiiajGreatDoorRLFault
namespace Go.Proofs.YtpniemnfdleiiajGreatDoor
open Go.RowKit
def wideR (l:Ly) (n:Int):Int:=if takesL l n=true then g_ l n else -1
theorem wideR_1{l:Ly}{n:Int}(hk:l.k=1)(h:n=l.w.rows):l.w.cols=wideR l n:=by unfold wideR takesL g_;rw[if_pos hk,if_pos (decide_eq_true h),if_pos hk]
theorem wideR_1n{l:Ly}{n:Int}(hk:l.k=1)(h:¬n=l.w.rows):-1=wideR l n:=by unfold wideR takesL;rw[if_pos hk,if_neg (by rw[decide_eq_false h];decide)]
theorem wideR_4{l:Ly}{n:Int}(hk:l.k=4)(h:n=l.b.cols):n=wideR l n:=by
 have h1:¬l.k=1:=by omega
 unfold wideR takesL g_;rw[if_neg h1,if_pos hk,if_pos (decide_eq_true h),if_neg h1]
theorem wideR_4n{l:Ly}{n:Int}(hk:l.k=4)(h:¬n=l.b.cols):-1=wideR l n:=by
 have h1:¬l.k=1:=by omega
 unfold wideR takesL;rw[if_neg h1,if_pos hk,if_neg (by rw[decide_eq_false h];decide)]
theorem wideR_o{l:Ly}{n:Int}(h1:¬l.k=1)(h4:¬l.k=4):n=wideR l n:=by unfold wideR takesL g_;rw[if_neg h1,if_neg h4,if_pos rfl,if_neg h1]
set_option maxHeartbeats 800000 in
theorem rwide_any(v:Value)(l:Ly)(n:Int)(w:World)(hv:IsLy w v l):Calls Tryz.prog 35 #[v,.int .i64 n] w fun e w'=>e=.returned (.int .i64 (wideR l n))∧Below w.heap.size w w':=by
 obtain ⟨s,t,rfl,hs,ht⟩:=hv
 obtain ⟨xa,xn,xk,rfl⟩:=hs.shape
 obtain ⟨ya,yn,yk,rfl⟩:=ht.shape
 obtain ⟨k,e0⟩:=gN (l.k)
 obtain ⟨wr,e1⟩:=gN (l.w.rows)
 obtain ⟨wc,e2⟩:=gN (l.w.cols)
 obtain ⟨br,e3⟩:=gN (l.b.rows)
 obtain ⟨bc,e4⟩:=gN (l.b.cols)
 rw[e0,e1,e2,e3,e4]
 clear hs ht
 by_cases h1:k=1
 ·by_cases hn:n=wr
  ·have HE:=h_ (show wc=wideR l n by rw[←e2];exact wideR_1 (by omega) (by omega))
   have t1:(k==1)=true:=by simp[h1]
   have t2:(n !=wr)=false:=by simp[hn]
   clear h1 hn e0 e1 e2 e3 e4
   go_enter Tryz.func35,Tryz.ntmps35
   go_wp2
   go_ret
   exact ⟨i_ HE.out,o_ _ _⟩
  ·have HE:=h_ (wideR_1n (l:=l) (n:=n) (by omega) (by omega))
   have t1:(k==1)=true:=by simp[h1]
   have t2:(n !=wr)=true:=by simp[hn]
   clear h1 hn e0 e1 e2 e3 e4
   go_enter Tryz.func35,Tryz.ntmps35
   go_wp2
   go_ret
   exact ⟨i_ HE.out,o_ _ _⟩
 ·have t1:(k==1)=false:=by simp[h1]
  by_cases h4:k=4
  ·have t4:(k==4)=true:=by simp[h4]
   by_cases hn:n=bc
   ·have HE:=h_ (wideR_4 (l:=l) (n:=n) (by omega) (by omega))
    have t2:(n !=bc)=false:=by simp[hn]
    clear h1 h4 hn e0 e1 e2 e3 e4
    go_enter Tryz.func35,Tryz.ntmps35
    go_wp2
    go_ret
    exact ⟨i_ HE.out,o_ _ _⟩
   ·have HE:=h_ (wideR_4n (l:=l) (n:=n) (by omega) (by omega))
    have t2:(n !=bc)=true:=by simp[hn]
    clear h1 h4 hn e0 e1 e2 e3 e4
    go_enter Tryz.func35,Tryz.ntmps35
    go_wp2
    go_ret
    exact ⟨i_ HE.out,o_ _ _⟩
  ·have t4:(k==4)=false:=by simp[h4]
   have HE:=h_ (wideR_o (l:=l) (n:=n) (by omega) (by omega))
   clear h1 h4 e0 e1 e2 e3 e4
   go_enter Tryz.func35,Tryz.ntmps35
   go_wp2
   go_ret
   exact ⟨i_ HE.out,o_ _ _⟩
theorem wideR_yes{l:Ly}{n:Int}(h:takesL l n=true):wideR l n=g_ l n:=by unfold wideR;rw[if_pos h]
theorem wideR_no{l:Ly}{n:Int}(h:takesL l n=false):wideR l n=-1:=by unfold wideR;rw[if_neg (by simp[h])]
theorem gives_0{l:Ly}{x:Mx}(hl:l_ l=0)(hx:q_ x=0):0≤g_ l x.cols:=by
 obtain ⟨_,_,fw,_,_⟩:=lgood_of hl
 obtain ⟨_,Cw,gw⟩:=o__ fw
 obtain ⟨_,Cx,gx⟩:=o__ hx
 have:=gw.c
 have:=gx.c
 unfold g_;split<;>omega
set_option maxHeartbeats 1600000 in
theorem rgofault_any(v vx:Value)(l:Ly)(x:Mx)(w:World)(hv:IsLy w v l)(hx:M_ w vx x):Calls Tryz.prog 18 #[v,vx] w fun e w'=>e=.returned (.int .i64 (goE l x))∧Below w.heap.size w w':=by
 obtain ⟨s,t,rfl,hs,ht⟩:=hv
 obtain ⟨xa,xn,xk,rfl⟩:=hs.shape
 obtain ⟨ya,yn,yk,rfl⟩:=ht.shape
 obtain ⟨k,e0⟩:=gN (l.k)
 obtain ⟨wr,e1⟩:=gN (l.w.rows)
 obtain ⟨wc,e2⟩:=gN (l.w.cols)
 obtain ⟨br,e3⟩:=gN (l.b.rows)
 obtain ⟨bc,e4⟩:=gN (l.b.cols)
 obtain ⟨sx,rfl,hsx⟩:=hx
 obtain ⟨za,zn,zk,rfl⟩:=hsx.shape
 obtain ⟨r,e5⟩:=gN (x.rows)
 obtain ⟨c,e6⟩:=gN (x.cols)
 have HLF:=h_ (fun W (h:Below w.heap.size w W)=>rlfault_any _ l W ⟨_,_,rfl,hs.u_ h,ht.u_ h⟩)
 have HXF:=h_ (fun W (h:Below w.heap.size w W)=>fault_any _ x W ⟨_,rfl,hsx.u_ h⟩)
 have HWD:=h_ (fun W (h:Below w.heap.size w W)=>rwide_any _ l x.cols W ⟨_,_,rfl,hs.u_ h,ht.u_ h⟩)
 rw[e0,e1,e2,e3,e4]at HLF HWD
 rw[e5,e6]at HXF
 have HEC:=h_ e6
 rw[e6]at HWD
 rw[e0,e1,e2,e3,e4,e5,e6]
 obtain ⟨V,hV⟩:=gM ((w.alloc (.cells #[.int .i64 k,.int .i64 wr,.int .i64 wc,.slice xa xn xk,.int .i64 br,.int .i64 bc,.slice ya yn yk] 60)).alloc (.cells #[.int .i64 r,.int .i64 c,.slice za zn zk] 25))
 have HV:=h_ hV
 have HBW:Hid (Below w.heap.size w V):=by rw[hV];exact h_ (b_ (o_ _ _) (o_ _ _))
 have HBL:Hid (Box V w.heap.size [.int .i64 k,.int .i64 wr,.int .i64 wc,.slice xa xn xk,.int .i64 br,.int .i64 bc,.slice ya yn yk]):=by rw[hV];exact h_ ((Box.new w [.int .i64 k,.int .i64 wr,.int .i64 wc,.slice xa xn xk,.int .i64 br,.int .i64 bc,.slice ya yn yk] 60 rfl).u_ (o_ _ _))
 have HBX:Hid (Box V (w.heap.size+1) [.int .i64 r,.int .i64 c,.slice za zn zk]):=by rw[hV];exact h_ (Box.new _ [.int .i64 r,.int .i64 c,.slice za zn zk] 25 (by simp))
 clear hs ht hsx e0 e1 e2 e3 e4 e5 e6 hV
 go_enter Tryz.func18,Tryz.ntmps18
 go_wp2_with fail
 rw[←HV.out]
 refine (HLF.out _ HBW.out).mono ?_
 rintro e w1 ⟨rfl,hb1⟩
 have HB1:=h_ hb1
 clear hb1
 by_cases hl:l_ l=0
 ·rw[hl]
  have HL:=h_ hl
  clear hl
  obtain ⟨d0,d1,d2⟩:=(HBX.out.u_ HB1.out).c3
  go_wp2_with fail
  refine (HXF.out _ (b_ HBW.out HB1.out)).mono ?_
  rintro e w2 ⟨rfl,hb2⟩
  have HB2:=h_ (b_ HB1.out hb2)
  clear hb2 d0 d1 d2
  by_cases hx:q_ x=0
  ·rw[hx]
   have HX:=h_ hx
   clear hx
   obtain ⟨d0,d1,d2,d3,d4,d5,d6⟩:=(HBL.out.u_ HB2.out).c7
   obtain ⟨y0,y1,y2⟩:=(HBX.out.u_ HB2.out).c3
   go_wp2_with fail
   refine (HWD.out _ (b_ HBW.out HB2.out)).mono ?_
   rintro e w3 ⟨rfl,hb3⟩
   have HB3:=h_ (b_ HB2.out hb3)
   clear hb3 d0 d1 d2 d3 d4 d5 d6 y0 y1 y2
   cases htk:takesL l c with
   |true=>
    have hn:=gives_0 HL.out HX.out
    rw[HEC.out]at hn
    rw[wideR_yes htk]
    obtain ⟨n,hn'⟩:=gN (g_ l c)
    rw[hn']at hn ⊢
    have HE:=h_ (show 0=goE l x from (goE_of HL.out HX.out (by rw[HEC.out];exact htk)).symm)
    clear htk hn'
    go_wp2
    go_ret
    exact ⟨i_ HE.out,b_ HBW.out HB3.out⟩
   |false=>
    rw[wideR_no htk]
    have HE:=h_ (show 2=goE l x by unfold goE;rw[if_neg (by simp[HL.out]),if_neg (by simp[HX.out]),if_pos (by rw[HEC.out];exact htk)])
    clear htk
    go_wp2
    go_ret
    exact ⟨i_ HE.out,b_ HBW.out HB3.out⟩
  ·obtain ⟨j,hj⟩:=gN (q_ x)
   have hj0:(j==0)=false:=by rw[←hj];simp[hx]
   have hj1:(j !=0)=true:=by rw[←hj];simp[hx]
   have HE:=h_ (show j=goE l x by rw[goE_x HL.out hx,hj])
   rw[hj]
   clear hx hj
   go_wp2
   go_ret
   exact ⟨i_ HE.out,b_ HBW.out HB2.out⟩
 ·obtain ⟨j,hj⟩:=gN (l_ l)
  have hj0:(j==0)=false:=by rw[←hj];simp[hl]
  have hj1:(j !=0)=true:=by rw[←hj];simp[hl]
  have HE:=h_ (show j=goE l x by rw[goE_l hl,hj])
  rw[hj]
  clear hl hj
  go_wp2
  go_ret
  exact ⟨i_ HE.out,b_ HBW.out HB1.out⟩
set_option maxHeartbeats 4000000 in
theorem rbackfault_any(v vx vg:Value)(l:Ly)(x g:Mx)(w:World)(hv:IsLy w v l)(hx:M_ w vx x)(hg:M_ w vg g):Calls Tryz.prog 24 #[v,vx,vg] w fun e w'=>e=.returned (.int .i64 (backE l x g))∧Below w.heap.size w w':=by
 obtain ⟨s,t,rfl,hs,ht⟩:=hv
 obtain ⟨xa,xn,xk,rfl⟩:=hs.shape
 obtain ⟨ya,yn,yk,rfl⟩:=ht.shape
 obtain ⟨k,e0⟩:=gN (l.k)
 obtain ⟨wr,e1⟩:=gN (l.w.rows)
 obtain ⟨wc,e2⟩:=gN (l.w.cols)
 obtain ⟨br,e3⟩:=gN (l.b.rows)
 obtain ⟨bc,e4⟩:=gN (l.b.cols)
 obtain ⟨sx,rfl,hsx⟩:=hx
 obtain ⟨za,zn,zk,rfl⟩:=hsx.shape
 obtain ⟨r,e5⟩:=gN (x.rows)
 obtain ⟨c,e6⟩:=gN (x.cols)
 obtain ⟨sg,rfl,hsg⟩:=hg
 obtain ⟨ga,gn,gk,rfl⟩:=hsg.shape
 obtain ⟨r',e7⟩:=gN (g.rows)
 obtain ⟨c',e8⟩:=gN (g.cols)
 have HLF:=h_ (fun W (h:Below w.heap.size w W)=>rgofault_any _ _ l x W ⟨_,_,rfl,hs.u_ h,ht.u_ h⟩ ⟨_,rfl,hsx.u_ h⟩)
 have HXF:=h_ (fun W (h:Below w.heap.size w W)=>fault_any _ g W ⟨_,rfl,hsg.u_ h⟩)
 have HWD:=h_ (fun W (h:Below w.heap.size w W)=>rwide_any _ l x.cols W ⟨_,_,rfl,hs.u_ h,ht.u_ h⟩)
 rw[e0,e1,e2,e3,e4,e5,e6]at HLF
 rw[e0,e1,e2,e3,e4,e6]at HWD
 rw[e7,e8]at HXF
 have HEC:=h_ (And.intro e0 (And.intro e5 (And.intro e6 (And.intro e7 e8))))
 rw[e0,e1,e2,e3,e4,e5,e6,e7,e8]
 obtain ⟨V,hV⟩:=gM (((w.alloc (.cells #[.int .i64 k,.int .i64 wr,.int .i64 wc,.slice xa xn xk,.int .i64 br,.int .i64 bc,.slice ya yn yk] 60)).alloc (.cells #[.int .i64 r,.int .i64 c,.slice za zn zk] 25)).alloc (.cells #[.int .i64 r',.int .i64 c',.slice ga gn gk] 25))
 have HV:=h_ hV
 have HBW:Hid (Below w.heap.size w V):=by rw[hV];exact h_ (b_ (b_ (o_ _ _) (o_ _ _)) (o_ _ _))
 have HBL:Hid (Box V w.heap.size [.int .i64 k,.int .i64 wr,.int .i64 wc,.slice xa xn xk,.int .i64 br,.int .i64 bc,.slice ya yn yk]):=by rw[hV];exact h_ (((Box.new w [.int .i64 k,.int .i64 wr,.int .i64 wc,.slice xa xn xk,.int .i64 br,.int .i64 bc,.slice ya yn yk] 60 rfl).u_ (o_ _ _)).u_ (o_ _ _))
 have HBX:Hid (Box V (w.heap.size+1) [.int .i64 r,.int .i64 c,.slice za zn zk]):=by rw[hV];exact h_ ((Box.new _ [.int .i64 r,.int .i64 c,.slice za zn zk] 25 (by simp)).u_ (o_ _ _))
 have HBG:Hid (Box V (w.heap.size+1+1) [.int .i64 r',.int .i64 c',.slice ga gn gk]):=by rw[hV];exact h_ (Box.new _ [.int .i64 r',.int .i64 c',.slice ga gn gk] 25 (by simp))
 clear hs ht hsx hsg e0 e1 e2 e3 e4 e5 e6 e7 e8 hV
 go_enter Tryz.func24,Tryz.ntmps24
 go_wp2_with fail
 rw[←HV.out]
 refine (HLF.out _ HBW.out).mono ?_
 rintro e w1 ⟨rfl,hb1⟩
 have HB1:=h_ hb1
 clear hb1
 by_cases hl:goE l x=0
 ·rw[hl]
  have HL:=h_ hl
  clear hl
  obtain ⟨d0,d1,d2⟩:=(HBG.out.u_ HB1.out).c3
  go_wp2_with fail
  refine (HXF.out _ (b_ HBW.out HB1.out)).mono ?_
  rintro e w2 ⟨rfl,hb2⟩
  have HB2:=h_ (b_ HB1.out hb2)
  clear hb2 d0 d1 d2
  by_cases hx:q_ g=0
  ·rw[hx]
   have HX:=h_ hx
   clear hx
   obtain ⟨d0,d1,d2,d3,d4,d5,d6⟩:=(HBL.out.u_ HB2.out).c7
   obtain ⟨y0,y1,y2⟩:=(HBX.out.u_ HB2.out).c3
   go_wp2_with fail
   refine (HWD.out _ (b_ HBW.out HB2.out)).mono ?_
   rintro e w3 ⟨rfl,hb3⟩
   have HB3:=h_ (b_ HB2.out hb3)
   clear hb3 d0 d1 d2 d3 d4 d5 d6 y0 y1 y2
   have htk:=(goE_zero HL.out).2.2
   rw[HEC.out.2.2.1]at htk
   rw[wideR_yes htk]
   obtain ⟨n,hn⟩:=gN (g_ l c)
   have HN:=h_ (show g_ l x.cols=n by rw[HEC.out.2.2.1];exact hn)
   rw[hn]
   clear htk hn
   obtain ⟨d0,d1,d2,d3,d4,d5,d6⟩:=(HBL.out.u_ HB3.out).c7
   obtain ⟨y0,y1,y2⟩:=(HBX.out.u_ HB3.out).c3
   obtain ⟨z0,z1,z2⟩:=(HBG.out.u_ HB3.out).c3
   by_cases h1:r'=r
   ·have t1:(r' !=r)=false:=by simp[h1]
    by_cases h2:c'=n
    ·have t2:(c' !=n)=false:=by simp[h2]
     have HSH:=h_ (show g.rows=x.rows∧g.cols=g_ l x.cols by rw[HN.out];obtain ⟨_,a2,_,a4,a5⟩:=HEC.out;rw[a2,a4,a5];exact ⟨h1,h2⟩)
     clear h1 h2
     by_cases hk:k=1
     ·have t3:(k==1)=true:=by simp[hk]
      by_cases hr:12<r
      ·have HE:=h_ (backE_f HL.out HX.out HSH.out ⟨by rw[HEC.out.1];exact hk,by rw[HEC.out.2.1];exact hr⟩).symm
       clear hk
       go_wp2
       go_ret
       exact ⟨i_ HE.out,b_ HBW.out HB3.out⟩
      ·have HE:=h_ (backE_of HL.out HX.out HSH.out.1 HSH.out.2 (fun h=>hr (by rw[←HEC.out.2.1];exact h.2))).symm
       clear hk
       go_wp2
       go_ret
       exact ⟨i_ HE.out,b_ HBW.out HB3.out⟩
     ·have t3:(k==1)=false:=by simp[hk]
      have HE:=h_ (backE_of HL.out HX.out HSH.out.1 HSH.out.2 (fun h=>hk (by rw[←HEC.out.1];exact h.1))).symm
      clear hk
      go_wp2
      go_ret
      exact ⟨i_ HE.out,b_ HBW.out HB3.out⟩
    ·have t2:(c' !=n)=true:=by simp[h2]
     have HE:=h_ (backE_s HL.out HX.out (g:=g) (fun h=>h2 (by obtain ⟨_,a2,_,a4,a5⟩:=HEC.out;rw[←HN.out,←a5];exact h.2))).symm
     clear h1 h2
     go_wp2
     go_ret
     exact ⟨i_ HE.out,b_ HBW.out HB3.out⟩
   ·have t1:(r' !=r)=true:=by simp[h1]
    have HE:=h_ (backE_s HL.out HX.out (g:=g) (fun h=>h1 (by obtain ⟨_,a2,_,a4,a5⟩:=HEC.out;rw[←a2,←a4];exact h.1))).symm
    clear h1
    go_wp2
    go_ret
    exact ⟨i_ HE.out,b_ HBW.out HB3.out⟩
  ·obtain ⟨j,hj⟩:=gN (q_ g)
   have hj0:(j==0)=false:=by rw[←hj];simp[hx]
   have hj1:(j !=0)=true:=by rw[←hj];simp[hx]
   have HE:=h_ (show j=backE l x g by rw[backE_g HL.out hx,hj])
   rw[hj]
   clear hx hj
   go_wp2
   go_ret
   exact ⟨i_ HE.out,b_ HBW.out HB2.out⟩
 ·obtain ⟨j,hj⟩:=gN (goE l x)
  have hj0:(j==0)=false:=by rw[←hj];simp[hl]
  have hj1:(j !=0)=true:=by rw[←hj];simp[hl]
  have HE:=h_ (show j=backE l x g by rw[backE_go hl,hj])
  rw[hj]
  clear hl hj
  go_wp2
  go_ret
  exact ⟨i_ HE.out,b_ HBW.out HB1.out⟩
end Go.Proofs.YtpniemnfdleiiajGreatDoor
