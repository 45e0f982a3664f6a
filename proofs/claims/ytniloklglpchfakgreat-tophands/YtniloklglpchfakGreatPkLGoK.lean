/- What Check, Wide, Go and Back of package layer come to, for every layer and every matrix. -/
import Derived.Test.YtniloklglpchfakGreatPkLScale
namespace Go.Proofs.YtniloklglpchfakGreat
open Go.RowKit
set_option maxHeartbeats 1600000 in
set_option maxRecDepth 100000 in
theorem lgo_kind (k : Int) (Ty Fn : Nat) (l : Ly) {xa : Option Addr} {xn xk : Nat} {ya : Option Addr} {yn yk : Nat} (x : Mx) (vx : Value) (w : World) (hx : M_ w vx x) (hR : ∀ (W : World) (v : Value), Below w.heap.size w W → M_ W v x → Calls Tryz.prog 63 #[.agg #[.int .i64 k, .int .i64 l.w.rows, .int .i64 l.w.cols, .slice xa xn xk, .int .i64 l.b.rows, .int .i64 l.b.cols, .slice ya yn yk], v] W fun e w' => e = .returned (.tuple #[kindR (goE l x) Ty (.agg #[.int .i64 l.w.rows, .int .i64 l.w.cols, .slice xa xn xk, .int .i64 l.b.rows, .int .i64 l.b.cols, .slice ya yn yk]), .int .i64 (goW l x), errV (goE l x)]) ∧ Below W.heap.size W w') (eg : ∀ args w, (callFunc Fn args).run Tryz.prog w = .ok (.enter Fn args) w) (hF : ∀ (W : World) (v : Value), Below w.heap.size w W → goE l x = 0 → M_ W v x → Calls Tryz.prog Fn #[.agg #[.int .i64 l.w.rows, .int .i64 l.w.cols, .slice xa xn xk, .int .i64 l.b.rows, .int .i64 l.b.cols, .slice ya yn yk], v] W (MxErr W (goX l x) (goE l x))) (hm0 : ∀ (a b c d : Int) (W : World), (method 339 Ty (.agg #[.int .i64 a, .int .i64 b, .slice xa xn xk, .int .i64 c, .int .i64 d, .slice ya yn yk]) "galley/layer.forth").run Tryz.prog W = .ok (Fn, .agg #[.int .i64 a, .int .i64 b, .slice xa xn xk, .int .i64 c, .int .i64 d, .slice ya yn yk]) W) :
  Calls Tryz.prog 34 #[.agg #[.int .i64 k,.int .i64 l.w.rows,.int .i64 l.w.cols,.slice xa xn xk,.int .i64 l.b.rows,.int .i64 l.b.cols,.slice ya yn yk],vx] w (MxErr w (goX l x) (goE l x)):=by
 obtain ⟨sx,rfl,hsx⟩:=hx
 obtain ⟨za,zn,zk,rfl⟩:=hsx.shape
 obtain ⟨r,e5⟩:=gN (x.rows)
 obtain ⟨c,e6⟩:=gN (x.cols)
 obtain ⟨wr,e1⟩:=gN (l.w.rows)
 obtain ⟨wc,e2⟩:=gN (l.w.cols)
 obtain ⟨br,e3⟩:=gN (l.b.rows)
 obtain ⟨bc,e4⟩:=gN (l.b.cols)
 have HR:=h_ (fun W (h:Below w.heap.size w W)=>hR W _ h ⟨_,rfl,hsx.u_ h⟩)
 have HFO:=h_ (fun W (h:Below w.heap.size w W) (h0:goE l x=0)=>hF W _ h h0 ⟨_,rfl,hsx.u_ h⟩)
 rw[e1,e2,e3,e4,e5,e6]at HR HFO
 rw[e1,e2,e3,e4,e5,e6]
 obtain ⟨q,hq⟩:=gN (goX l x)
 obtain ⟨E,hE0⟩:=gN (goE l x)
 obtain ⟨cw,hcw⟩:=gN (goW l x)
 have HQE:=h_ (And.intro hq hE0)
 rw[hE0,hcw]at HR
 rw[hq,hE0]at HFO ⊢
 clear hq hE0 hcw
 have hm:=hm0 wr wc br bc
 obtain ⟨V,hV⟩:=gM ((((w.alloc (.cells #[.int .i64 k,.int .i64 wr,.int .i64 wc,.slice xa xn xk,.int .i64 br,.int .i64 bc,.slice ya yn yk] 83)).alloc (.cells #[.int .i64 r,.int .i64 c,.slice za zn zk] 28)).alloc (.cells #[.int .i64 0,.int .i64 0,.slice none 0 0] 28)))
 have HV:=h_ hV
 have HBW:Hid (Below w.heap.size w V):=by rw[hV];exact h_ (b_ (b_ (o_ _ _) (o_ _ _)) (o_ _ _))
 have HBX:Hid (Box V (w.heap.size+1) [.int .i64 r,.int .i64 c,.slice za zn zk]):=by rw[hV];exact h_ ((Box.new _ [.int .i64 r,.int .i64 c,.slice za zn zk] 28 (by simp)).u_ (o_ _ _))
 have HQ:Hid (Box V (w.heap.size+1+1) [.int .i64 0,.int .i64 0,.slice none 0 0]):=by rw[hV];exact h_ (Box.new _ [.int .i64 0,.int .i64 0,.slice none 0 0] 28 (by simp))
 have HFR:Hid (Free V (w.heap.size+1+1)):=by rw[hV];exact h_ (Free.new _ _ 28 (by simp))
 have HL:=h_ HQ.out.lt
 clear hsx e1 e2 e3 e4 e5 e6 hV
 go_enter Tryz.func34,Tryz.ntmps34
 go_wp2_with fail
 rw[←HV.out]
 refine (HR.out _ HBW.out).mono ?_
 rintro e w1 ⟨rfl,hb1⟩
 have HB1:=h_ hb1
 clear hb1 HR
 by_cases hE:E=0
 ·subst hE
  rw[←kindR_yes rfl,e_ rfl]
  have HF:=h_ (fun W (h:Below w.heap.size w W)=>HFO.out W h rfl)
  clear HFO
  obtain ⟨d0,d1,d2⟩:=(HBX.out.u_ HB1.out).c3
  go_wp2_with (go_at_fn Fn;refine (HF.out _ (b_ HBW.out HB1.out)).mono ?_)
  rintro e w2 ⟨v',rfl,hm',hb2,hf⟩
  obtain ⟨s',rfl,hs'⟩:=hm'
  obtain ⟨qa,qn,qk,rfl⟩:=hs'.shape
  rw[e_ rfl]
  have HN:=h_ (show M_ w2 (.agg #[.int .i64 q.rows,.int .i64 q.cols,.slice qa qn qk]) q from ⟨_,rfl,hs'⟩)
  have HFV:=h_ (f_ hf HB1.out.size)
  have HB2:=h_ (b_ HB1.out hb2)
  clear hs' hb2 hf HF d0 d1 d2
  obtain ⟨p0,p1,p2⟩:=(HQ.out.u_ HB2.out).c3
  obtain ⟨f0,f1,f2⟩:=(HFR.out.u_ HB2.out HL.out).f3
  go_wp2
  obtain ⟨c1,c2,c3⟩:=errEnd HN.out HFV.out HBW.out (B:=w.heap.size+1+1) (by omega) HL.out HB2.out (.int .i64 q.rows) (.int .i64 q.cols) (.slice qa qn qk)
  exact bodyPost_ret (v:=.tuple #[.agg #[.int .i64 q.rows,.int .i64 q.cols,.slice qa qn qk],.nilIface]) (by simp[results,Tryz.results34,go_sem,p0,p1,p2]) rfl ⟨_,rfl,c1,c2,c3⟩
 ·rw[←K_ hE,n_ hE]
  have HE:=h_ hE
  obtain rfl:q=noMx:=by rw[←HQE.out.1];exact goX_no (by rw[HQE.out.2];exact hE)
  clear hE HFO
  obtain ⟨p0,p1,p2⟩:=(HQ.out.u_ HB1.out).c3
  obtain ⟨f0,f1,f2⟩:=(HFR.out.u_ HB1.out HL.out).f3
  go_wp2
  exact bodyPost_ret (v:=.tuple #[.agg #[.int .i64 0,.int .i64 0,.slice none 0 0],.iface 94 (.int .i64 E)]) (by simp[results,Tryz.results34,go_sem,p0,p1,p2]) rfl ⟨_,by rw[n_ HE.out],isMx_no _,S_ (b_ HBW.out HB1.out) (B:=w.heap.size+1+1) (by omega) _ _ _,y_ _ _ _⟩
set_option maxHeartbeats 4000000 in
set_option maxRecDepth 100000 in
theorem lback_kind (k : Int) (Ty Fn : Nat) (l : Ly) {xa : Option Addr} {xn xk : Nat} {ya : Option Addr} {yn yk : Nat} (x g : Mx) (vx vg : Value) (w : World) (hx : M_ w vx x) (hg : M_ w vg g) (hR : ∀ (W : World) (v : Value), Below w.heap.size w W → M_ W v x → Calls Tryz.prog 63 #[.agg #[.int .i64 k, .int .i64 l.w.rows, .int .i64 l.w.cols, .slice xa xn xk, .int .i64 l.b.rows, .int .i64 l.b.cols, .slice ya yn yk], v] W fun e w' => e = .returned (.tuple #[kindR (goE l x) Ty (.agg #[.int .i64 l.w.rows, .int .i64 l.w.cols, .slice xa xn xk, .int .i64 l.b.rows, .int .i64 l.b.cols, .slice ya yn yk]), .int .i64 (goW l x), errV (goE l x)]) ∧ Below W.heap.size W w') (eg : ∀ args w, (callFunc Fn args).run Tryz.prog w = .ok (.enter Fn args) w) (hF : ∀ (W : World) (v u : Value), Below w.heap.size w W → goE l x = 0 → q_ g = 0 → (g.rows = x.rows ∧ g.cols = g_ l x.cols) → M_ W v x → M_ W u g → Calls Tryz.prog Fn #[.agg #[.int .i64 l.w.rows, .int .i64 l.w.cols, .slice xa xn xk, .int .i64 l.b.rows, .int .i64 l.b.cols, .slice ya yn yk], v, u] W (BackErr W (backX l x g) (gradW l x g) (gradB l x g) (backE l x g))) (hm0 : ∀ (a b c d : Int) (W : World), (method 339 Ty (.agg #[.int .i64 a, .int .i64 b, .slice xa xn xk, .int .i64 c, .int .i64 d, .slice ya yn yk]) "galley/layer.back").run Tryz.prog W = .ok (Fn, .agg #[.int .i64 a, .int .i64 b, .slice xa xn xk, .int .i64 c, .int .i64 d, .slice ya yn yk]) W) :
  Calls Tryz.prog 44 #[.agg #[.int .i64 k,.int .i64 l.w.rows,.int .i64 l.w.cols,.slice xa xn xk,.int .i64 l.b.rows,.int .i64 l.b.cols,.slice ya yn yk],vx,vg] w (BackErr w (backX l x g) (gradW l x g) (gradB l x g) (backE l x g)):=by
 obtain ⟨sx,rfl,hsx⟩:=hx
 obtain ⟨za,zn,zk,rfl⟩:=hsx.shape
 obtain ⟨r,e5⟩:=gN (x.rows)
 obtain ⟨c,e6⟩:=gN (x.cols)
 obtain ⟨sg,rfl,hsg⟩:=hg
 obtain ⟨ga,gn,gk,rfl⟩:=hsg.shape
 obtain ⟨r',e7⟩:=gN (g.rows)
 obtain ⟨c',e8⟩:=gN (g.cols)
 obtain ⟨wr,e1⟩:=gN (l.w.rows)
 obtain ⟨wc,e2⟩:=gN (l.w.cols)
 obtain ⟨br,e3⟩:=gN (l.b.rows)
 obtain ⟨bc,e4⟩:=gN (l.b.cols)
 have HR:=h_ (fun W (h:Below w.heap.size w W)=>hR W _ h ⟨_,rfl,hsx.u_ h⟩)
 have HC:=h_ (fun W (h:Below w.heap.size w W)=>C_ _ g W ⟨_,rfl,hsg.u_ h⟩)
 have HSH:=h_ (fun W (a b:Int) (h:Below w.heap.size w W)=>shape_any _ g a b W ⟨_,rfl,hsg.u_ h⟩)
 have HFO:=h_ (fun W (h:Below w.heap.size w W) (h0:goE l x=0) (h1:q_ g=0) (h2:g.rows=x.rows∧g.cols=g_ l x.cols)=>hF W _ _ h h0 h1 h2 ⟨_,rfl,hsx.u_ h⟩ ⟨_,rfl,hsg.u_ h⟩)
 have HEQ:=h_ (And.intro e5 (And.intro e6 (And.intro e7 e8)))
 rw[e1,e2,e3,e4,e5,e6]at HR
 rw[e7,e8]at HC HSH
 rw[e1,e2,e3,e4,e5,e6,e7,e8]at HFO
 rw[e1,e2,e3,e4,e5,e6,e7,e8]
 obtain ⟨q,hq⟩:=gN (backX l x g)
 obtain ⟨da,hda⟩:=gN (gradW l x g)
 obtain ⟨db,hdb⟩:=gN (gradB l x g)
 obtain ⟨j,hj⟩:=gN (backE l x g)
 obtain ⟨E,hE0⟩:=gN (goE l x)
 obtain ⟨cw,hcw⟩:=gN (goW l x)
 obtain ⟨fg,hfg0⟩:=gN (q_ g)
 have HQE:=h_ (And.intro hq (And.intro hda (And.intro hdb (And.intro hj (And.intro hE0 (And.intro hcw hfg0))))))
 rw[hE0,hcw]at HR
 rw[hfg0]at HC
 rw[hq,hda,hdb,hj,hE0,hfg0]at HFO
 rw[hq,hda,hdb,hj]
 have HNO:=h_ (fun (h:j≠0)=>(show q=noMx∧da=noMx∧db=noMx by rw[←hq,←hda,←hdb];exact backX_no (by rw[hj];exact h)))
 clear hq hda hdb hj hE0 hcw hfg0
 have hm:=hm0 wr wc br bc
 obtain ⟨V,hV⟩:=gM ((((((w.alloc (.cells #[.int .i64 k,.int .i64 wr,.int .i64 wc,.slice xa xn xk,.int .i64 br,.int .i64 bc,.slice ya yn yk] 83)).alloc (.cells #[.int .i64 r,.int .i64 c,.slice za zn zk] 28)).alloc (.cells #[.int .i64 r',.int .i64 c',.slice ga gn gk] 28)).alloc (.cells #[.int .i64 0,.int .i64 0,.slice none 0 0] 28)).alloc (.cells #[.int .i64 0,.int .i64 0,.slice none 0 0,.int .i64 0,.int .i64 0,.slice none 0 0] 109)))
 have HV:=h_ hV
 have HBW:Hid (Below w.heap.size w V):=by rw[hV];exact h_ (b_ (b_ (b_ (b_ (o_ _ _) (o_ _ _)) (o_ _ _)) (o_ _ _)) (o_ _ _))
 have HBX:Hid (Box V (w.heap.size+1) [.int .i64 r,.int .i64 c,.slice za zn zk]):=by rw[hV];exact h_ ((((Box.new _ [.int .i64 r,.int .i64 c,.slice za zn zk] 28 (by simp)).u_ (o_ _ _)).u_ (o_ _ _)).u_ (o_ _ _))
 have HBG:Hid (Box V (w.heap.size+1+1) [.int .i64 r',.int .i64 c',.slice ga gn gk]):=by rw[hV];exact h_ (((Box.new _ [.int .i64 r',.int .i64 c',.slice ga gn gk] 28 (by simp)).u_ (o_ _ _)).u_ (o_ _ _))
 have HQ:Hid (Box V (w.heap.size+1+1+1) [.int .i64 0,.int .i64 0,.slice none 0 0]):=by rw[hV];exact h_ ((Box.new _ [.int .i64 0,.int .i64 0,.slice none 0 0] 28 (by simp)).u_ (o_ _ _))
 have HFR:Hid (Free V (w.heap.size+1+1+1)):=by rw[hV];exact h_ ((Free.new _ _ 28 (by simp)).u_ (o_ _ _) (by simp))
 have HP:Hid (Box V (w.heap.size+1+1+1+1) [.int .i64 0,.int .i64 0,.slice none 0 0,.int .i64 0,.int .i64 0,.slice none 0 0]):=by rw[hV];exact h_ (Box.new _ [.int .i64 0,.int .i64 0,.slice none 0 0,.int .i64 0,.int .i64 0,.slice none 0 0] 109 (by simp))
 have HFP:Hid (Free V (w.heap.size+1+1+1+1)):=by rw[hV];exact h_ (Free.new _ _ 109 (by simp))
 have HL:=h_ HQ.out.lt
 have HM2:=h_ HP.out.lt
 clear hsx hsg e1 e2 e3 e4 e5 e6 e7 e8 hV
 go_enter Tryz.func44,Tryz.ntmps44
 go_wp2_with fail
 rw[←HV.out]
 refine (HR.out _ HBW.out).mono ?_
 rintro e w1 ⟨rfl,hb1⟩
 have HB1:=h_ hb1
 clear hb1 HR
 by_cases hE:E=0
 ·subst hE
  rw[←kindR_yes rfl,e_ rfl]
  have HCW:=h_ (show g_ l x.cols=cw by rw[←HQE.out.2.2.2.2.2.1];unfold goW;rw[if_pos HQE.out.2.2.2.2.1])
  obtain ⟨d0,d1,d2⟩:=(HBG.out.u_ HB1.out).c3
  go_wp2_with fail
  refine (HC.out _ (b_ HBW.out HB1.out)).mono ?_
  rintro e w2 ⟨rfl,hb2⟩
  have HB2:=h_ (b_ HB1.out hb2)
  clear hb2 HC d0 d1 d2
  by_cases hfg:fg=0
  ·subst hfg
   rw[e_ rfl]
   obtain ⟨d0,d1,d2⟩:=(HBG.out.u_ HB2.out).c3
   obtain ⟨y0,y1,y2⟩:=(HBX.out.u_ HB2.out).c3
   go_wp2_with fail
   refine (HSH.out _ _ _ (b_ HBW.out HB2.out)).mono ?_
   rintro e w3 ⟨rfl,hb3⟩
   have HB3:=h_ (b_ HB2.out hb3)
   clear hb3 HSH d0 d1 d2 y0 y1 y2
   by_cases hsh:r'=r∧c'=cw
   ·rw[shapeB_yes hsh]
    have HF:=h_ (fun W (h:Below w.heap.size w W)=>HFO.out W h (by first|rfl|trivial) (by first|rfl|trivial) ⟨hsh.1,by rw[←HEQ.out.2.1,HCW.out];exact hsh.2⟩)
    clear hsh HFO
    obtain ⟨d0,d1,d2⟩:=(HBG.out.u_ HB3.out).c3
    obtain ⟨y0,y1,y2⟩:=(HBX.out.u_ HB3.out).c3
    go_wp2_with (go_at_fn Fn;refine (HF.out _ (b_ HBW.out HB3.out)).mono ?_)
    rintro e w4 ⟨v',dv,rfl,hm',hd',hb4,hf4,hg4⟩
    obtain ⟨s',rfl,hs'⟩:=hm'
    obtain ⟨qa,qn,qk,rfl⟩:=hs'.shape
    obtain ⟨s1,s2,rfl,hs1,hs2⟩:=hd'
    obtain ⟨ua,un,uk,rfl⟩:=hs1.shape
    obtain ⟨va,vn,vk,rfl⟩:=hs2.shape
    have hfr:=hg4 _ _ _ _ _ _ _ _ _ _ rfl
    have HN:=h_ hs'
    have HU:=h_ hs1
    have HW:=h_ hs2
    have HNF:=h_ (f_ hf4 HB3.out.size)
    have HUF:=h_ (f_ hfr.1 HB3.out.size)
    have HWF:=h_ (f_ hfr.2 HB3.out.size)
    have HB4:=h_ (b_ HB3.out hb4)
    clear hs' hs1 hs2 hb4 hf4 hg4 hfr HF d0 d1 d2 y0 y1 y2
    obtain ⟨p0,p1,p2⟩:=(HQ.out.u_ HB4.out).c3
    obtain ⟨f0,f1,f2⟩:=(HFR.out.u_ HB4.out HL.out).f3
    obtain ⟨q0,q1,q2,q3,q4,q5⟩:=(HP.out.u_ HB4.out).c6
    obtain ⟨h0,h1,h2,h3,h4,h5⟩:=(HFP.out.u_ HB4.out HM2.out).f6
    go_wp2
    have HA:=above9 (B:=w.heap.size+1+1+1) (C:=w.heap.size+1+1+1+1) HL.out HM2.out w4 (.int .i64 q.rows) (.int .i64 q.cols) (.slice qa qn qk) (.int .i64 da.rows) (.int .i64 da.cols) (.slice ua un uk) (.int .i64 db.rows) (.int .i64 db.cols) (.slice va vn vk)
    exact bodyPost_ret (v:=.tuple #[.agg #[.int .i64 q.rows,.int .i64 q.cols,.slice qa qn qk],.agg #[.int .i64 da.rows,.int .i64 da.cols,.slice ua un uk,.int .i64 db.rows,.int .i64 db.cols,.slice va vn vk],errV j]) (by simp[results,Tryz.results44,go_sem,p0,p1,p2,q0,q1,q2,q3,q4,q5]) rfl
     ⟨_,_,rfl,⟨_,rfl,HN.out.above HNF.out HA⟩,two_of (HU.out.above HUF.out HA) (HW.out.above HWF.out HA),below9 (b_ HBW.out HB4.out) (B:=w.heap.size+1+1+1) (C:=w.heap.size+1+1+1+1) (by omega) (by omega) _ _ _ _ _ _ _ _ _,f_ HNF.out HBW.out.size,fresh2_of (f_ HUF.out HBW.out.size) (f_ HWF.out HBW.out.size)⟩
   ·rw[shapeB_no hsh]
    obtain rfl:j=2:=by rw[←HQE.out.2.2.2.1];exact backE_s HQE.out.2.2.2.2.1 HQE.out.2.2.2.2.2.2 (by have h1:=HEQ.out;rw[h1.1,h1.2.2.1,h1.2.2.2,HCW.out];exact hsh)
    have HE:=h_ (show (2:Int)≠0 by decide)
    obtain ⟨rfl,rfl,rfl⟩:=HNO.out HE.out
    clear hsh HFO
    obtain ⟨p0,p1,p2⟩:=(HQ.out.u_ HB3.out).c3
    obtain ⟨f0,f1,f2⟩:=(HFR.out.u_ HB3.out HL.out).f3
    obtain ⟨q0,q1,q2,q3,q4,q5⟩:=(HP.out.u_ HB3.out).c6
    obtain ⟨h0,h1,h2,h3,h4,h5⟩:=(HFP.out.u_ HB3.out HM2.out).f6
    go_wp2
    exact bodyPost_ret (v:=.tuple #[.agg #[.int .i64 0,.int .i64 0,.slice none 0 0],.agg #[.int .i64 0,.int .i64 0,.slice none 0 0,.int .i64 0,.int .i64 0,.slice none 0 0],.iface 94 (.int .i64 2)]) (by simp[results,Tryz.results44,go_sem,p0,p1,p2,q0,q1,q2,q3,q4,q5]) rfl
     ⟨_,_,by rw[n_ HE.out],isMx_no _,isTwo_no _,below9 (b_ HBW.out HB3.out) (B:=w.heap.size+1+1+1) (C:=w.heap.size+1+1+1+1) (by omega) (by omega) _ _ _ _ _ _ _ _ _,y_ _ _ _,fresh2_no _ _ _ _ _⟩
  ·rw[n_ hfg]
   obtain rfl:j=fg:=by rw[←HQE.out.2.2.2.1,←HQE.out.2.2.2.2.2.2];exact backE_g HQE.out.2.2.2.2.1 (by rw[HQE.out.2.2.2.2.2.2];exact hfg)
   have HE:=h_ hfg
   obtain ⟨rfl,rfl,rfl⟩:=HNO.out hfg
   clear hfg HFO
   obtain ⟨p0,p1,p2⟩:=(HQ.out.u_ HB2.out).c3
   obtain ⟨f0,f1,f2⟩:=(HFR.out.u_ HB2.out HL.out).f3
   obtain ⟨q0,q1,q2,q3,q4,q5⟩:=(HP.out.u_ HB2.out).c6
   obtain ⟨h0,h1,h2,h3,h4,h5⟩:=(HFP.out.u_ HB2.out HM2.out).f6
   go_wp2
   exact bodyPost_ret (v:=.tuple #[.agg #[.int .i64 0,.int .i64 0,.slice none 0 0],.agg #[.int .i64 0,.int .i64 0,.slice none 0 0,.int .i64 0,.int .i64 0,.slice none 0 0],.iface 94 (.int .i64 j)]) (by simp[results,Tryz.results44,go_sem,p0,p1,p2,q0,q1,q2,q3,q4,q5]) rfl
    ⟨_,_,by rw[n_ HE.out],isMx_no _,isTwo_no _,below9 (b_ HBW.out HB2.out) (B:=w.heap.size+1+1+1) (C:=w.heap.size+1+1+1+1) (by omega) (by omega) _ _ _ _ _ _ _ _ _,y_ _ _ _,fresh2_no _ _ _ _ _⟩
 ·rw[←K_ hE,n_ hE]
  obtain rfl:j=E:=by rw[←HQE.out.2.2.2.1,←HQE.out.2.2.2.2.1];exact backE_go (by rw[HQE.out.2.2.2.2.1];exact hE)
  have HE:=h_ hE
  obtain ⟨rfl,rfl,rfl⟩:=HNO.out hE
  clear hE HFO
  obtain ⟨p0,p1,p2⟩:=(HQ.out.u_ HB1.out).c3
  obtain ⟨f0,f1,f2⟩:=(HFR.out.u_ HB1.out HL.out).f3
  obtain ⟨q0,q1,q2,q3,q4,q5⟩:=(HP.out.u_ HB1.out).c6
  obtain ⟨h0,h1,h2,h3,h4,h5⟩:=(HFP.out.u_ HB1.out HM2.out).f6
  go_wp2
  exact bodyPost_ret (v:=.tuple #[.agg #[.int .i64 0,.int .i64 0,.slice none 0 0],.agg #[.int .i64 0,.int .i64 0,.slice none 0 0,.int .i64 0,.int .i64 0,.slice none 0 0],.iface 94 (.int .i64 j)]) (by simp[results,Tryz.results44,go_sem,p0,p1,p2,q0,q1,q2,q3,q4,q5]) rfl
   ⟨_,_,by rw[n_ HE.out],isMx_no _,isTwo_no _,below9 (b_ HBW.out HB1.out) (B:=w.heap.size+1+1+1) (C:=w.heap.size+1+1+1+1) (by omega) (by omega) _ _ _ _ _ _ _ _ _,y_ _ _ _,fresh2_no _ _ _ _ _⟩
theorem lgo_linear(l:Ly){xa:Option Addr}{xn xk:Nat}{ya:Option Addr}{yn yk:Nat}(x:Mx)(vx:Value)(w:World)(hk:l.k=1)(hs:I_ w (.slice xa xn xk) l.w.cells)(ht:I_ w (.slice ya yn yk) l.b.cells)(hx:M_ w vx x):
  Calls Tryz.prog 34 #[.agg #[.int .i64 1,.int .i64 l.w.rows,.int .i64 l.w.cols,.slice xa xn xk,.int .i64 l.b.rows,.int .i64 l.b.cols,.slice ya yn yk],vx] w (MxErr w (goX l x) (goE l x)):=
 lgo_kind 1 202 148 l x vx w hx (fun W v h hv=>ready_linear l x v W hk (hs.u_ h) (ht.u_ h) hv) (enters_of Tryz.func148 (by kernel_rfl) rfl) (fun W v h h0 hv=>forth_at_linear l x v W hk h0 (hs.u_ h) (ht.u_ h) hv) (fun _ _ _ _ _=>by kernel_rfl)
theorem lback_linear(l:Ly){xa:Option Addr}{xn xk:Nat}{ya:Option Addr}{yn yk:Nat}(x g:Mx)(vx vg:Value)(w:World)(hk:l.k=1)(hs:I_ w (.slice xa xn xk) l.w.cells)(ht:I_ w (.slice ya yn yk) l.b.cells)(hx:M_ w vx x)(hg:M_ w vg g):
  Calls Tryz.prog 44 #[.agg #[.int .i64 1,.int .i64 l.w.rows,.int .i64 l.w.cols,.slice xa xn xk,.int .i64 l.b.rows,.int .i64 l.b.cols,.slice ya yn yk],vx,vg] w (BackErr w (backX l x g) (gradW l x g) (gradB l x g) (backE l x g)):=
 lback_kind 1 202 146 l x g vx vg w hx hg (fun W v h hv=>ready_linear l x v W hk (hs.u_ h) (ht.u_ h) hv) (enters_of Tryz.func146 (by kernel_rfl) rfl) (fun W v u h h0 h1 h2 hv hu=>back_at_linear l x g v u W hk h0 h1 h2 (hs.u_ h) hv hu) (fun _ _ _ _ _=>by kernel_rfl)
theorem lgo_relu(l:Ly){xa:Option Addr}{xn xk:Nat}{ya:Option Addr}{yn yk:Nat}(x:Mx)(vx:Value)(w:World)(hk:l.k=2)(hs:I_ w (.slice xa xn xk) l.w.cells)(ht:I_ w (.slice ya yn yk) l.b.cells)(hx:M_ w vx x):
  Calls Tryz.prog 34 #[.agg #[.int .i64 2,.int .i64 l.w.rows,.int .i64 l.w.cols,.slice xa xn xk,.int .i64 l.b.rows,.int .i64 l.b.cols,.slice ya yn yk],vx] w (MxErr w (goX l x) (goE l x)):=
 lgo_kind 2 205 166 l x vx w hx (fun W v h hv=>ready_relu l x v W hk (hs.u_ h) (ht.u_ h) hv) (enters_of Tryz.func166 (by kernel_rfl) rfl) (fun W v h h0 hv=>forth_at_relu l x v W hk h0 (hs.u_ h) (ht.u_ h) hv) (fun _ _ _ _ _=>by kernel_rfl)
theorem lback_relu(l:Ly){xa:Option Addr}{xn xk:Nat}{ya:Option Addr}{yn yk:Nat}(x g:Mx)(vx vg:Value)(w:World)(hk:l.k=2)(hs:I_ w (.slice xa xn xk) l.w.cells)(ht:I_ w (.slice ya yn yk) l.b.cells)(hx:M_ w vx x)(hg:M_ w vg g):
  Calls Tryz.prog 44 #[.agg #[.int .i64 2,.int .i64 l.w.rows,.int .i64 l.w.cols,.slice xa xn xk,.int .i64 l.b.rows,.int .i64 l.b.cols,.slice ya yn yk],vx,vg] w (BackErr w (backX l x g) (gradW l x g) (gradB l x g) (backE l x g)):=
 lback_kind 2 205 164 l x g vx vg w hx hg (fun W v h hv=>ready_relu l x v W hk (hs.u_ h) (ht.u_ h) hv) (enters_of Tryz.func164 (by kernel_rfl) rfl) (fun W v u h h0 h1 h2 hv hu=>back_at_relu l x g v u W hk h0 h1 h2 (hs.u_ h) hv hu) (fun _ _ _ _ _=>by kernel_rfl)
theorem lgo_scale(l:Ly){xa:Option Addr}{xn xk:Nat}{ya:Option Addr}{yn yk:Nat}(x:Mx)(vx:Value)(w:World)(hk:l.k=3)(hs:I_ w (.slice xa xn xk) l.w.cells)(ht:I_ w (.slice ya yn yk) l.b.cells)(hx:M_ w vx x):
  Calls Tryz.prog 34 #[.agg #[.int .i64 3,.int .i64 l.w.rows,.int .i64 l.w.cols,.slice xa xn xk,.int .i64 l.b.rows,.int .i64 l.b.cols,.slice ya yn yk],vx] w (MxErr w (goX l x) (goE l x)):=
 lgo_kind 3 206 171 l x vx w hx (fun W v h hv=>ready_scale l x v W hk (hs.u_ h) (ht.u_ h) hv) (enters_of Tryz.func171 (by kernel_rfl) rfl) (fun W v h h0 hv=>forth_at_scale l x v W hk h0 (hs.u_ h) (ht.u_ h) hv) (fun _ _ _ _ _=>by kernel_rfl)
theorem lback_scale(l:Ly){xa:Option Addr}{xn xk:Nat}{ya:Option Addr}{yn yk:Nat}(x g:Mx)(vx vg:Value)(w:World)(hk:l.k=3)(hs:I_ w (.slice xa xn xk) l.w.cells)(ht:I_ w (.slice ya yn yk) l.b.cells)(hx:M_ w vx x)(hg:M_ w vg g):
  Calls Tryz.prog 44 #[.agg #[.int .i64 3,.int .i64 l.w.rows,.int .i64 l.w.cols,.slice xa xn xk,.int .i64 l.b.rows,.int .i64 l.b.cols,.slice ya yn yk],vx,vg] w (BackErr w (backX l x g) (gradW l x g) (gradB l x g) (backE l x g)):=
 lback_kind 3 206 169 l x g vx vg w hx hg (fun W v h hv=>ready_scale l x v W hk (hs.u_ h) (ht.u_ h) hv) (enters_of Tryz.func169 (by kernel_rfl) rfl) (fun W v u h h0 h1 h2 hv hu=>back_at_scale l x g v u W hk h0 h1 h2 (hs.u_ h) hv hu) (fun _ _ _ _ _=>by kernel_rfl)
theorem lgo_shift(l:Ly){xa:Option Addr}{xn xk:Nat}{ya:Option Addr}{yn yk:Nat}(x:Mx)(vx:Value)(w:World)(hk:l.k=4)(hs:I_ w (.slice xa xn xk) l.w.cells)(ht:I_ w (.slice ya yn yk) l.b.cells)(hx:M_ w vx x):
  Calls Tryz.prog 34 #[.agg #[.int .i64 4,.int .i64 l.w.rows,.int .i64 l.w.cols,.slice xa xn xk,.int .i64 l.b.rows,.int .i64 l.b.cols,.slice ya yn yk],vx] w (MxErr w (goX l x) (goE l x)):=
 lgo_kind 4 207 176 l x vx w hx (fun W v h hv=>ready_shift l x v W hk (hs.u_ h) (ht.u_ h) hv) (enters_of Tryz.func176 (by kernel_rfl) rfl) (fun W v h h0 hv=>forth_at_shift l x v W hk h0 (hs.u_ h) (ht.u_ h) hv) (fun _ _ _ _ _=>by kernel_rfl)
theorem lback_shift(l:Ly){xa:Option Addr}{xn xk:Nat}{ya:Option Addr}{yn yk:Nat}(x g:Mx)(vx vg:Value)(w:World)(hk:l.k=4)(hs:I_ w (.slice xa xn xk) l.w.cells)(ht:I_ w (.slice ya yn yk) l.b.cells)(hx:M_ w vx x)(hg:M_ w vg g):
  Calls Tryz.prog 44 #[.agg #[.int .i64 4,.int .i64 l.w.rows,.int .i64 l.w.cols,.slice xa xn xk,.int .i64 l.b.rows,.int .i64 l.b.cols,.slice ya yn yk],vx,vg] w (BackErr w (backX l x g) (gradW l x g) (gradB l x g) (backE l x g)):=
 lback_kind 4 207 174 l x g vx vg w hx hg (fun W v h hv=>ready_shift l x v W hk (hs.u_ h) (ht.u_ h) hv) (enters_of Tryz.func174 (by kernel_rfl) rfl) (fun W v u h h0 h1 h2 hv hu=>back_at_shift l x g v u W hk h0 h1 h2 (hs.u_ h) hv hu) (fun _ _ _ _ _=>by kernel_rfl)
set_option maxHeartbeats 800000 in
theorem lgo_none(k:Int)(wr wc br bc:Int)(xa:Option Addr)(xn xk:Nat)(ya:Option Addr)(yn yk:Nat)(x:Mx)(vx:Value)(w:World)(hk:k<1∨4<k)(hx:M_ w vx x):
  Calls Tryz.prog 34 #[.agg #[.int .i64 k,.int .i64 wr,.int .i64 wc,.slice xa xn xk,.int .i64 br,.int .i64 bc,.slice ya yn yk],vx] w (MxErr w noMx 1):=by
 obtain ⟨sx,rfl,hsx⟩:=hx
 obtain ⟨za,zn,zk,rfl⟩:=hsx.shape
 obtain ⟨r,e5⟩:=gN (x.rows)
 obtain ⟨c,e6⟩:=gN (x.cols)
 have HR:=h_ (fun W (h:Below w.heap.size w W)=>ready_none k wr wc br bc xa xn xk ya yn yk _ x W hk ⟨_,rfl,hsx.u_ h⟩)
 rw[e5,e6]at HR
 rw[e5,e6]
 obtain ⟨V,hV⟩:=gM ((((w.alloc (.cells #[.int .i64 k,.int .i64 wr,.int .i64 wc,.slice xa xn xk,.int .i64 br,.int .i64 bc,.slice ya yn yk] 83)).alloc (.cells #[.int .i64 r,.int .i64 c,.slice za zn zk] 28)).alloc (.cells #[.int .i64 0,.int .i64 0,.slice none 0 0] 28)))
 have HV:=h_ hV
 have HBW:Hid (Below w.heap.size w V):=by rw[hV];exact h_ (b_ (b_ (o_ _ _) (o_ _ _)) (o_ _ _))
 have HQ:Hid (Box V (w.heap.size+1+1) [.int .i64 0,.int .i64 0,.slice none 0 0]):=by rw[hV];exact h_ (Box.new _ [.int .i64 0,.int .i64 0,.slice none 0 0] 28 (by simp))
 have HFR:Hid (Free V (w.heap.size+1+1)):=by rw[hV];exact h_ (Free.new _ _ 28 (by simp))
 have HL:=h_ HQ.out.lt
 clear hsx e5 e6 hk hV
 go_enter Tryz.func34,Tryz.ntmps34
 go_wp2_with fail
 rw[←HV.out]
 refine (HR.out _ HBW.out).mono ?_
 rintro e w1 ⟨rfl,hb1⟩
 rw[n_ (show (1:Int)≠0 by decide)]
 have HB1:=h_ hb1
 clear hb1 HR
 obtain ⟨p0,p1,p2⟩:=(HQ.out.u_ HB1.out).c3
 obtain ⟨f0,f1,f2⟩:=(HFR.out.u_ HB1.out HL.out).f3
 go_wp2
 exact bodyPost_ret (v:=.tuple #[.agg #[.int .i64 0,.int .i64 0,.slice none 0 0],.iface 94 (.int .i64 1)]) (by simp[results,Tryz.results34,go_sem,p0,p1,p2]) rfl ⟨_,rfl,isMx_no _,S_ (b_ HBW.out HB1.out) (B:=w.heap.size+1+1) (by omega) _ _ _,y_ _ _ _⟩
set_option maxHeartbeats 800000 in
theorem lback_none(k:Int)(wr wc br bc:Int)(xa:Option Addr)(xn xk:Nat)(ya:Option Addr)(yn yk:Nat)(x g:Mx)(vx vg:Value)(w:World)(hk:k<1∨4<k)(hx:M_ w vx x)(hg:M_ w vg g):
  Calls Tryz.prog 44 #[.agg #[.int .i64 k,.int .i64 wr,.int .i64 wc,.slice xa xn xk,.int .i64 br,.int .i64 bc,.slice ya yn yk],vx,vg] w (BackErr w noMx noMx noMx 1):=by
 obtain ⟨sx,rfl,hsx⟩:=hx
 obtain ⟨za,zn,zk,rfl⟩:=hsx.shape
 obtain ⟨r,e5⟩:=gN (x.rows)
 obtain ⟨c,e6⟩:=gN (x.cols)
 obtain ⟨sg,rfl,hsg⟩:=hg
 obtain ⟨ga,gn,gk,rfl⟩:=hsg.shape
 obtain ⟨r',e7⟩:=gN (g.rows)
 obtain ⟨c',e8⟩:=gN (g.cols)
 have HR:=h_ (fun W (h:Below w.heap.size w W)=>ready_none k wr wc br bc xa xn xk ya yn yk _ x W hk ⟨_,rfl,hsx.u_ h⟩)
 rw[e5,e6]at HR
 rw[e5,e6,e7,e8]
 obtain ⟨V,hV⟩:=gM ((((((w.alloc (.cells #[.int .i64 k,.int .i64 wr,.int .i64 wc,.slice xa xn xk,.int .i64 br,.int .i64 bc,.slice ya yn yk] 83)).alloc (.cells #[.int .i64 r,.int .i64 c,.slice za zn zk] 28)).alloc (.cells #[.int .i64 r',.int .i64 c',.slice ga gn gk] 28)).alloc (.cells #[.int .i64 0,.int .i64 0,.slice none 0 0] 28)).alloc (.cells #[.int .i64 0,.int .i64 0,.slice none 0 0,.int .i64 0,.int .i64 0,.slice none 0 0] 109)))
 have HV:=h_ hV
 have HBW:Hid (Below w.heap.size w V):=by rw[hV];exact h_ (b_ (b_ (b_ (b_ (o_ _ _) (o_ _ _)) (o_ _ _)) (o_ _ _)) (o_ _ _))
 have HQ:Hid (Box V (w.heap.size+1+1+1) [.int .i64 0,.int .i64 0,.slice none 0 0]):=by rw[hV];exact h_ ((Box.new _ [.int .i64 0,.int .i64 0,.slice none 0 0] 28 (by simp)).u_ (o_ _ _))
 have HFR:Hid (Free V (w.heap.size+1+1+1)):=by rw[hV];exact h_ ((Free.new _ _ 28 (by simp)).u_ (o_ _ _) (by simp))
 have HP:Hid (Box V (w.heap.size+1+1+1+1) [.int .i64 0,.int .i64 0,.slice none 0 0,.int .i64 0,.int .i64 0,.slice none 0 0]):=by rw[hV];exact h_ (Box.new _ [.int .i64 0,.int .i64 0,.slice none 0 0,.int .i64 0,.int .i64 0,.slice none 0 0] 109 (by simp))
 have HFP:Hid (Free V (w.heap.size+1+1+1+1)):=by rw[hV];exact h_ (Free.new _ _ 109 (by simp))
 have HL:=h_ HQ.out.lt
 have HM2:=h_ HP.out.lt
 have HE:=h_ (show (1:Int)≠0 by decide)
 clear hsx hsg e5 e6 e7 e8 hk hV
 go_enter Tryz.func44,Tryz.ntmps44
 go_wp2_with fail
 rw[←HV.out]
 refine (HR.out _ HBW.out).mono ?_
 rintro e w1 ⟨rfl,hb1⟩
 rw[n_ (show (1:Int)≠0 by decide)]
 have HB1:=h_ hb1
 clear hb1 HR
 obtain ⟨p0,p1,p2⟩:=(HQ.out.u_ HB1.out).c3
 obtain ⟨f0,f1,f2⟩:=(HFR.out.u_ HB1.out HL.out).f3
 obtain ⟨q0,q1,q2,q3,q4,q5⟩:=(HP.out.u_ HB1.out).c6
 obtain ⟨h0,h1,h2,h3,h4,h5⟩:=(HFP.out.u_ HB1.out HM2.out).f6
 go_wp2
 exact bodyPost_ret (v:=.tuple #[.agg #[.int .i64 0,.int .i64 0,.slice none 0 0],.agg #[.int .i64 0,.int .i64 0,.slice none 0 0,.int .i64 0,.int .i64 0,.slice none 0 0],.iface 94 (.int .i64 1)]) (by simp[results,Tryz.results44,go_sem,p0,p1,p2,q0,q1,q2,q3,q4,q5]) rfl
  ⟨_,_,by rw[n_ HE.out],isMx_no _,isTwo_no _,below9 (b_ HBW.out HB1.out) (B:=w.heap.size+1+1+1) (C:=w.heap.size+1+1+1+1) (by omega) (by omega) _ _ _ _ _ _ _ _ _,y_ _ _ _,fresh2_no _ _ _ _ _⟩
theorem lgo_any(v:Value)(l:Ly)(x:Mx)(vx:Value)(w:World)(hv:IsLy w v l)(hx:M_ w vx x):Calls Tryz.prog 34 #[v,vx] w (MxErr w (goX l x) (goE l x)):=by
 obtain ⟨s,t,rfl,hs,ht⟩:=hv
 obtain ⟨xa,xn,xk,rfl⟩:=hs.shape
 obtain ⟨ya,yn,yk,rfl⟩:=ht.shape
 by_cases h1:l.k=1
 ·rw[h1];exact lgo_linear l x vx w h1 hs ht hx
 ·by_cases h2:l.k=2
  ·rw[h2];exact lgo_relu l x vx w h2 hs ht hx
  ·by_cases h3:l.k=3
   ·rw[h3];exact lgo_scale l x vx w h3 hs ht hx
   ·by_cases h4:l.k=4
    ·rw[h4];exact lgo_shift l x vx w h4 hs ht hx
    ·have hk:l.k<1∨4<l.k:=by omega
     have hE:goE l x=1:=by unfold goE l_;rw[if_pos hk,if_pos (by decide)]
     rw[goX_no (by rw[hE];decide),hE]
     exact lgo_none l.k _ _ _ _ xa xn xk ya yn yk x vx w hk hx
theorem lback_any(v:Value)(l:Ly)(x g:Mx)(vx vg:Value)(w:World)(hv:IsLy w v l)(hx:M_ w vx x)(hg:M_ w vg g):Calls Tryz.prog 44 #[v,vx,vg] w (BackErr w (backX l x g) (gradW l x g) (gradB l x g) (backE l x g)):=by
 obtain ⟨s,t,rfl,hs,ht⟩:=hv
 obtain ⟨xa,xn,xk,rfl⟩:=hs.shape
 obtain ⟨ya,yn,yk,rfl⟩:=ht.shape
 by_cases h1:l.k=1
 ·rw[h1];exact lback_linear l x g vx vg w h1 hs ht hx hg
 ·by_cases h2:l.k=2
  ·rw[h2];exact lback_relu l x g vx vg w h2 hs ht hx hg
  ·by_cases h3:l.k=3
   ·rw[h3];exact lback_scale l x g vx vg w h3 hs ht hx hg
   ·by_cases h4:l.k=4
    ·rw[h4];exact lback_shift l x g vx vg w h4 hs ht hx hg
    ·have hk:l.k<1∨4<l.k:=by omega
     have hG:goE l x=1:=by unfold goE l_;rw[if_pos hk,if_pos (by decide)]
     have hE:backE l x g=1:=by rw[backE_go (by rw[hG];decide),hG]
     obtain ⟨n1,n2,n3⟩:=backX_no (show backE l x g≠0 by rw[hE];decide)
     rw[n1,n2,n3,hE]
     exact lback_none l.k _ _ _ _ xa xn xk ya yn yk x g vx vg w hk hx hg
end Go.Proofs.YtniloklglpchfakGreat
