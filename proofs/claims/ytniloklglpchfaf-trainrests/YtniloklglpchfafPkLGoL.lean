/- Go and Back of package layer, for each of the four kinds. -/
import Derived.Test.YtniloklglpchfafLGoK
namespace Go.Proofs.Ytniloklglpchfaf
open Go.RowKit
theorem lgo_linear(l:Ly){xa:Option Addr}{xn xk:Nat}{ya:Option Addr}{yn yk:Nat}(x:Mx)(vx:Value)(w:World)(hk:l.k=1)(hs:I_ w (.slice xa xn xk) l.w.cells)(ht:I_ w (.slice ya yn yk) l.b.cells)(hx:M_ w vx x):
  Calls Try.prog 15 #[.agg #[.int .i64 1,.int .i64 l.w.rows,.int .i64 l.w.cols,.slice xa xn xk,.int .i64 l.b.rows,.int .i64 l.b.cols,.slice ya yn yk],vx] w (MxErr w (goX l x) (goE l x)):=
 lgo_kind 1 136 100 l x vx w hx (fun W v h hv=>ready_linear l x v W hk (hs.u_ h) (ht.u_ h) hv) (enters_of Try.func100 (by kernel_rfl) rfl) (fun W v h h0 hv=>forth_at_linear l x v W hk h0 (hs.u_ h) (ht.u_ h) hv) (fun _ _ _ _ _=>by kernel_rfl)
theorem lback_linear(l:Ly){xa:Option Addr}{xn xk:Nat}{ya:Option Addr}{yn yk:Nat}(x g:Mx)(vx vg:Value)(w:World)(hk:l.k=1)(hs:I_ w (.slice xa xn xk) l.w.cells)(ht:I_ w (.slice ya yn yk) l.b.cells)(hx:M_ w vx x)(hg:M_ w vg g):
  Calls Try.prog 75 #[.agg #[.int .i64 1,.int .i64 l.w.rows,.int .i64 l.w.cols,.slice xa xn xk,.int .i64 l.b.rows,.int .i64 l.b.cols,.slice ya yn yk],vx,vg] w (BackErr w (backX l x g) (gradW l x g) (gradB l x g) (backE l x g)):=
 lback_kind 1 136 98 l x g vx vg w hx hg (fun W v h hv=>ready_linear l x v W hk (hs.u_ h) (ht.u_ h) hv) (enters_of Try.func98 (by kernel_rfl) rfl) (fun W v u h h0 h1 h2 hv hu=>back_at_linear l x g v u W hk h0 h1 h2 (hs.u_ h) hv hu) (fun _ _ _ _ _=>by kernel_rfl)
theorem lgo_relu(l:Ly){xa:Option Addr}{xn xk:Nat}{ya:Option Addr}{yn yk:Nat}(x:Mx)(vx:Value)(w:World)(hk:l.k=2)(hs:I_ w (.slice xa xn xk) l.w.cells)(ht:I_ w (.slice ya yn yk) l.b.cells)(hx:M_ w vx x):
  Calls Try.prog 15 #[.agg #[.int .i64 2,.int .i64 l.w.rows,.int .i64 l.w.cols,.slice xa xn xk,.int .i64 l.b.rows,.int .i64 l.b.cols,.slice ya yn yk],vx] w (MxErr w (goX l x) (goE l x)):=
 lgo_kind 2 139 118 l x vx w hx (fun W v h hv=>ready_relu l x v W hk (hs.u_ h) (ht.u_ h) hv) (enters_of Try.func118 (by kernel_rfl) rfl) (fun W v h h0 hv=>forth_at_relu l x v W hk h0 (hs.u_ h) (ht.u_ h) hv) (fun _ _ _ _ _=>by kernel_rfl)
theorem lback_relu(l:Ly){xa:Option Addr}{xn xk:Nat}{ya:Option Addr}{yn yk:Nat}(x g:Mx)(vx vg:Value)(w:World)(hk:l.k=2)(hs:I_ w (.slice xa xn xk) l.w.cells)(ht:I_ w (.slice ya yn yk) l.b.cells)(hx:M_ w vx x)(hg:M_ w vg g):
  Calls Try.prog 75 #[.agg #[.int .i64 2,.int .i64 l.w.rows,.int .i64 l.w.cols,.slice xa xn xk,.int .i64 l.b.rows,.int .i64 l.b.cols,.slice ya yn yk],vx,vg] w (BackErr w (backX l x g) (gradW l x g) (gradB l x g) (backE l x g)):=
 lback_kind 2 139 116 l x g vx vg w hx hg (fun W v h hv=>ready_relu l x v W hk (hs.u_ h) (ht.u_ h) hv) (enters_of Try.func116 (by kernel_rfl) rfl) (fun W v u h h0 h1 h2 hv hu=>back_at_relu l x g v u W hk h0 h1 h2 (hs.u_ h) hv hu) (fun _ _ _ _ _=>by kernel_rfl)
theorem lgo_scale(l:Ly){xa:Option Addr}{xn xk:Nat}{ya:Option Addr}{yn yk:Nat}(x:Mx)(vx:Value)(w:World)(hk:l.k=3)(hs:I_ w (.slice xa xn xk) l.w.cells)(ht:I_ w (.slice ya yn yk) l.b.cells)(hx:M_ w vx x):
  Calls Try.prog 15 #[.agg #[.int .i64 3,.int .i64 l.w.rows,.int .i64 l.w.cols,.slice xa xn xk,.int .i64 l.b.rows,.int .i64 l.b.cols,.slice ya yn yk],vx] w (MxErr w (goX l x) (goE l x)):=
 lgo_kind 3 140 123 l x vx w hx (fun W v h hv=>ready_scale l x v W hk (hs.u_ h) (ht.u_ h) hv) (enters_of Try.func123 (by kernel_rfl) rfl) (fun W v h h0 hv=>forth_at_scale l x v W hk h0 (hs.u_ h) (ht.u_ h) hv) (fun _ _ _ _ _=>by kernel_rfl)
theorem lback_scale(l:Ly){xa:Option Addr}{xn xk:Nat}{ya:Option Addr}{yn yk:Nat}(x g:Mx)(vx vg:Value)(w:World)(hk:l.k=3)(hs:I_ w (.slice xa xn xk) l.w.cells)(ht:I_ w (.slice ya yn yk) l.b.cells)(hx:M_ w vx x)(hg:M_ w vg g):
  Calls Try.prog 75 #[.agg #[.int .i64 3,.int .i64 l.w.rows,.int .i64 l.w.cols,.slice xa xn xk,.int .i64 l.b.rows,.int .i64 l.b.cols,.slice ya yn yk],vx,vg] w (BackErr w (backX l x g) (gradW l x g) (gradB l x g) (backE l x g)):=
 lback_kind 3 140 121 l x g vx vg w hx hg (fun W v h hv=>ready_scale l x v W hk (hs.u_ h) (ht.u_ h) hv) (enters_of Try.func121 (by kernel_rfl) rfl) (fun W v u h h0 h1 h2 hv hu=>back_at_scale l x g v u W hk h0 h1 h2 (hs.u_ h) hv hu) (fun _ _ _ _ _=>by kernel_rfl)
theorem lgo_shift(l:Ly){xa:Option Addr}{xn xk:Nat}{ya:Option Addr}{yn yk:Nat}(x:Mx)(vx:Value)(w:World)(hk:l.k=4)(hs:I_ w (.slice xa xn xk) l.w.cells)(ht:I_ w (.slice ya yn yk) l.b.cells)(hx:M_ w vx x):
  Calls Try.prog 15 #[.agg #[.int .i64 4,.int .i64 l.w.rows,.int .i64 l.w.cols,.slice xa xn xk,.int .i64 l.b.rows,.int .i64 l.b.cols,.slice ya yn yk],vx] w (MxErr w (goX l x) (goE l x)):=
 lgo_kind 4 141 128 l x vx w hx (fun W v h hv=>ready_shift l x v W hk (hs.u_ h) (ht.u_ h) hv) (enters_of Try.func128 (by kernel_rfl) rfl) (fun W v h h0 hv=>forth_at_shift l x v W hk h0 (hs.u_ h) (ht.u_ h) hv) (fun _ _ _ _ _=>by kernel_rfl)
theorem lback_shift(l:Ly){xa:Option Addr}{xn xk:Nat}{ya:Option Addr}{yn yk:Nat}(x g:Mx)(vx vg:Value)(w:World)(hk:l.k=4)(hs:I_ w (.slice xa xn xk) l.w.cells)(ht:I_ w (.slice ya yn yk) l.b.cells)(hx:M_ w vx x)(hg:M_ w vg g):
  Calls Try.prog 75 #[.agg #[.int .i64 4,.int .i64 l.w.rows,.int .i64 l.w.cols,.slice xa xn xk,.int .i64 l.b.rows,.int .i64 l.b.cols,.slice ya yn yk],vx,vg] w (BackErr w (backX l x g) (gradW l x g) (gradB l x g) (backE l x g)):=
 lback_kind 4 141 126 l x g vx vg w hx hg (fun W v h hv=>ready_shift l x v W hk (hs.u_ h) (ht.u_ h) hv) (enters_of Try.func126 (by kernel_rfl) rfl) (fun W v u h h0 h1 h2 hv hu=>back_at_shift l x g v u W hk h0 h1 h2 (hs.u_ h) hv hu) (fun _ _ _ _ _=>by kernel_rfl)
set_option maxHeartbeats 800000 in
theorem lgo_none(k:Int)(wr wc br bc:Int)(xa:Option Addr)(xn xk:Nat)(ya:Option Addr)(yn yk:Nat)(x:Mx)(vx:Value)(w:World)(hk:k<1∨4<k)(hx:M_ w vx x):
  Calls Try.prog 15 #[.agg #[.int .i64 k,.int .i64 wr,.int .i64 wc,.slice xa xn xk,.int .i64 br,.int .i64 bc,.slice ya yn yk],vx] w (MxErr w noMx 1):=by
 obtain ⟨sx,rfl,hsx⟩:=hx
 obtain ⟨za,zn,zk,rfl⟩:=hsx.shape
 obtain ⟨r,e5⟩:=gN (x.rows)
 obtain ⟨c,e6⟩:=gN (x.cols)
 have HR:=h_ (fun W (h:Below w.heap.size w W)=>ready_none k wr wc br bc xa xn xk ya yn yk _ x W hk ⟨_,rfl,hsx.u_ h⟩)
 rw[e5,e6]at HR
 rw[e5,e6]
 obtain ⟨V,hV⟩:=gM ((((w.alloc (.cells #[.int .i64 k,.int .i64 wr,.int .i64 wc,.slice xa xn xk,.int .i64 br,.int .i64 bc,.slice ya yn yk] 52)).alloc (.cells #[.int .i64 r,.int .i64 c,.slice za zn zk] 28)).alloc (.cells #[.int .i64 0,.int .i64 0,.slice none 0 0] 28)))
 have HV:=h_ hV
 have HBW:Hid (Below w.heap.size w V):=by rw[hV];exact h_ (b_ (b_ (o_ _ _) (o_ _ _)) (o_ _ _))
 have HQ:Hid (Box V (w.heap.size+1+1) [.int .i64 0,.int .i64 0,.slice none 0 0]):=by rw[hV];exact h_ (Box.new _ [.int .i64 0,.int .i64 0,.slice none 0 0] 28 (by simp))
 have HFR:Hid (Free V (w.heap.size+1+1)):=by rw[hV];exact h_ (Free.new _ _ 28 (by simp))
 have HL:=h_ HQ.out.lt
 clear hsx e5 e6 hk hV
 go_enter Try.func15,Try.ntmps15
 go_wp2_with fail
 rw[←HV.out]
 refine (HR.out _ HBW.out).mono ?_
 rintro e w1 ⟨rfl,hb1⟩
 rw[n_ (show (1:Int)≠0 by decide)]
 have HB1:=h_ hb1
 clear hb1 HR
 obtain ⟨p0,p1,p2⟩:=(HQ.out.u_ HB1.out).c3
 obtain ⟨f0,f1,f2⟩:=(HFR.out.u_ HB1.out HL.out).f3
 go_wp2
 exact bodyPost_ret (v:=.tuple #[.agg #[.int .i64 0,.int .i64 0,.slice none 0 0],.iface 65 (.int .i64 1)]) (by simp[results,Try.results15,go_sem,p0,p1,p2]) rfl ⟨_,rfl,isMx_no _,S_ (b_ HBW.out HB1.out) (B:=w.heap.size+1+1) (by omega) _ _ _,y_ _ _ _⟩
set_option maxHeartbeats 800000 in
theorem lback_none(k:Int)(wr wc br bc:Int)(xa:Option Addr)(xn xk:Nat)(ya:Option Addr)(yn yk:Nat)(x g:Mx)(vx vg:Value)(w:World)(hk:k<1∨4<k)(hx:M_ w vx x)(hg:M_ w vg g):
  Calls Try.prog 75 #[.agg #[.int .i64 k,.int .i64 wr,.int .i64 wc,.slice xa xn xk,.int .i64 br,.int .i64 bc,.slice ya yn yk],vx,vg] w (BackErr w noMx noMx noMx 1):=by
 obtain ⟨sx,rfl,hsx⟩:=hx
 obtain ⟨za,zn,zk,rfl⟩:=hsx.shape
 obtain ⟨r,e5⟩:=gN (x.rows)
 obtain ⟨c,e6⟩:=gN (x.cols)
 obtain ⟨sg,rfl,hsg⟩:=hg
 obtain ⟨ga,gn,gk,rfl⟩:=hsg.shape
 obtain ⟨r',e7⟩:=gN (g.rows)
 obtain ⟨c',e8⟩:=gN (g.cols)
 have HR:=h_ (fun W (h:Below w.heap.size w W)=>ready_none k wr wc br bc xa xn xk ya yn yk _ x W hk ⟨_,rfl,hsx.u_ h⟩)
 rw[e5,e6]at HR
 rw[e5,e6,e7,e8]
 obtain ⟨V,hV⟩:=gM ((((((w.alloc (.cells #[.int .i64 k,.int .i64 wr,.int .i64 wc,.slice xa xn xk,.int .i64 br,.int .i64 bc,.slice ya yn yk] 52)).alloc (.cells #[.int .i64 r,.int .i64 c,.slice za zn zk] 28)).alloc (.cells #[.int .i64 r',.int .i64 c',.slice ga gn gk] 28)).alloc (.cells #[.int .i64 0,.int .i64 0,.slice none 0 0] 28)).alloc (.cells #[.int .i64 0,.int .i64 0,.slice none 0 0,.int .i64 0,.int .i64 0,.slice none 0 0] 79)))
 have HV:=h_ hV
 have HBW:Hid (Below w.heap.size w V):=by rw[hV];exact h_ (b_ (b_ (b_ (b_ (o_ _ _) (o_ _ _)) (o_ _ _)) (o_ _ _)) (o_ _ _))
 have HQ:Hid (Box V (w.heap.size+1+1+1) [.int .i64 0,.int .i64 0,.slice none 0 0]):=by rw[hV];exact h_ ((Box.new _ [.int .i64 0,.int .i64 0,.slice none 0 0] 28 (by simp)).u_ (o_ _ _))
 have HFR:Hid (Free V (w.heap.size+1+1+1)):=by rw[hV];exact h_ ((Free.new _ _ 28 (by simp)).u_ (o_ _ _) (by simp))
 have HP:Hid (Box V (w.heap.size+1+1+1+1) [.int .i64 0,.int .i64 0,.slice none 0 0,.int .i64 0,.int .i64 0,.slice none 0 0]):=by rw[hV];exact h_ (Box.new _ [.int .i64 0,.int .i64 0,.slice none 0 0,.int .i64 0,.int .i64 0,.slice none 0 0] 79 (by simp))
 have HFP:Hid (Free V (w.heap.size+1+1+1+1)):=by rw[hV];exact h_ (Free.new _ _ 79 (by simp))
 have HL:=h_ HQ.out.lt
 have HM2:=h_ HP.out.lt
 have HE:=h_ (show (1:Int)≠0 by decide)
 clear hsx hsg e5 e6 e7 e8 hk hV
 go_enter Try.func75,Try.ntmps75
 go_wp2_with fail
 rw[←HV.out]
 refine (HR.out _ HBW.out).mono ?_
 rintro e w1 ⟨rfl,hb1⟩
 rw[n_ (show (1:Int)≠0 by decide)]
 have HB1:=h_ hb1
 clear hb1 HR
 obtain ⟨p0,p1,p2⟩:=(HQ.out.u_ HB1.out).c3
 obtain ⟨f0,f1,f2⟩:=(HFR.out.u_ HB1.out HL.out).f3
 obtain ⟨q0,q1,q2,q3,q4,q5⟩:=(HP.out.u_ HB1.out).c6
 obtain ⟨h0,h1,h2,h3,h4,h5⟩:=(HFP.out.u_ HB1.out HM2.out).f6
 go_wp2
 exact bodyPost_ret (v:=.tuple #[.agg #[.int .i64 0,.int .i64 0,.slice none 0 0],.agg #[.int .i64 0,.int .i64 0,.slice none 0 0,.int .i64 0,.int .i64 0,.slice none 0 0],.iface 65 (.int .i64 1)]) (by simp[results,Try.results75,go_sem,p0,p1,p2,q0,q1,q2,q3,q4,q5]) rfl
  ⟨_,_,by rw[n_ HE.out],isMx_no _,isTwo_no _,below9 (b_ HBW.out HB1.out) (B:=w.heap.size+1+1+1) (C:=w.heap.size+1+1+1+1) (by omega) (by omega) _ _ _ _ _ _ _ _ _,y_ _ _ _,fresh2_no _ _ _ _ _⟩
theorem lgo_any(v:Value)(l:Ly)(x:Mx)(vx:Value)(w:World)(hv:IsLy w v l)(hx:M_ w vx x):Calls Try.prog 15 #[v,vx] w (MxErr w (goX l x) (goE l x)):=by
 obtain ⟨s,t,rfl,hs,ht⟩:=hv
 obtain ⟨xa,xn,xk,rfl⟩:=hs.shape
 obtain ⟨ya,yn,yk,rfl⟩:=ht.shape
 by_cases h1:l.k=1
 ·rw[h1];exact lgo_linear l x vx w h1 hs ht hx
 ·by_cases h2:l.k=2
  ·rw[h2];exact lgo_relu l x vx w h2 hs ht hx
  ·by_cases h3:l.k=3
   ·rw[h3];exact lgo_scale l x vx w h3 hs ht hx
   ·by_cases h4:l.k=4
    ·rw[h4];exact lgo_shift l x vx w h4 hs ht hx
    ·have hk:l.k<1∨4<l.k:=by omega
     have hE:goE l x=1:=by unfold goE l_;rw[if_pos hk,if_pos (by decide)]
     rw[goX_no (by rw[hE];decide),hE]
     exact lgo_none l.k _ _ _ _ xa xn xk ya yn yk x vx w hk hx
theorem lback_any(v:Value)(l:Ly)(x g:Mx)(vx vg:Value)(w:World)(hv:IsLy w v l)(hx:M_ w vx x)(hg:M_ w vg g):Calls Try.prog 75 #[v,vx,vg] w (BackErr w (backX l x g) (gradW l x g) (gradB l x g) (backE l x g)):=by
 obtain ⟨s,t,rfl,hs,ht⟩:=hv
 obtain ⟨xa,xn,xk,rfl⟩:=hs.shape
 obtain ⟨ya,yn,yk,rfl⟩:=ht.shape
 by_cases h1:l.k=1
 ·rw[h1];exact lback_linear l x g vx vg w h1 hs ht hx hg
 ·by_cases h2:l.k=2
  ·rw[h2];exact lback_relu l x g vx vg w h2 hs ht hx hg
  ·by_cases h3:l.k=3
   ·rw[h3];exact lback_scale l x g vx vg w h3 hs ht hx hg
   ·by_cases h4:l.k=4
    ·rw[h4];exact lback_shift l x g vx vg w h4 hs ht hx hg
    ·have hk:l.k<1∨4<l.k:=by omega
     have hG:goE l x=1:=by unfold goE l_;rw[if_pos hk,if_pos (by decide)]
     have hE:backE l x g=1:=by rw[backE_go (by rw[hG];decide),hG]
     obtain ⟨n1,n2,n3⟩:=backX_no (show backE l x g≠0 by rw[hE];decide)
     rw[n1,n2,n3,hE]
     exact lback_none l.k _ _ _ _ xa xn xk ya yn yk x g vx vg w hk hx hg
end Go.Proofs.Ytniloklglpchfaf
