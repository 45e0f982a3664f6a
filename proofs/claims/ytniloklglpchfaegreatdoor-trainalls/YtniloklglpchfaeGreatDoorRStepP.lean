/- What stepPart of the document's answer comes to: the new speed of a part of a net, and what is left of the part. -/
import Derived.Test.YtniloklglpchfaeGreatDoorPkStep
import Derived.Test.YtniloklglpchfaeGreatDoorPkRRows
import Derived.Test.YtniloklglpchfaeGreatDoorPkReg
import Derived.Test.YtniloklglpchfaeGreatDoorPkLBox
namespace Go.Proofs.YtniloklglpchfaeGreatDoor
open Go.RowKit
theorem ints_kept{w u:World}{s:Value}{zs:List Int}(h:I_ w s zs)(hk:∀(p:Addr) x,w.cell? p=some x->u.cell? p=some x):I_ u s zs:=h.stay (fun p x _ hx=>hk p x hx)
set_option maxHeartbeats 8000000 in
set_option maxRecDepth 100000 in
theorem rsteppart_any(a v d:Mx)(R C:Nat)(le ke:Int)(aa:Option Addr)(an ak:Nat)(va:Option Addr)(vn vk:Nat)(da:Option Addr)(dn dk:Nat)(w:World)(ga:Good a R C)(gv:Good v R C)(gd:Good d R C)(ha:I_ w (.slice aa an ak) a.cells)(hv:I_ w (.slice va vn vk) v.cells)(hd:I_ w (.slice da dn dk) d.cells):
  Calls Tryz.prog 63 #[.agg #[.int .i64 a.rows,.int .i64 a.cols,.slice aa an ak],.agg #[.int .i64 v.rows,.int .i64 v.cols,.slice va vn vk],.agg #[.int .i64 d.rows,.int .i64 d.cols,.slice da dn dk],.agg #[.int .i64 le,.int .i64 ke]] w fun e w'=>∃s t,e=.returned (.tuple #[.agg #[.int .i64 a.rows,.int .i64 a.cols,s],.agg #[.int .i64 (spdX v d ke).rows,.int .i64 (spdX v d ke).cols,t]])/\
   I_ w' s (newX a (spdX v d ke) le).cells/\I_ w' t (spdX v d ke).cells/\Below w.heap.size w w'/\F_ w.heap.size (.agg #[.int .i64 a.rows,.int .i64 a.cols,s])/\F_ w.heap.size (.agg #[.int .i64 (spdX v d ke).rows,.int .i64 (spdX v d ke).cols,t]):=by
 have gk:Good (timesX v ke) R C:=gv.times ke
 have gs:Good (spdX v d ke) R C:=gk.add gd
 have gl:Good (timesX (spdX v d ke) le) R C:=gs.times le
 obtain ⟨V,hV⟩:=gM (((((((w.alloc (.cells #[.int .i64 a.rows,.int .i64 a.cols,.slice aa an ak] 28)).alloc (.cells #[.int .i64 v.rows,.int .i64 v.cols,.slice va vn vk] 28)).alloc (.cells #[.int .i64 d.rows,.int .i64 d.cols,.slice da dn dk] 28)).alloc (.cells #[.int .i64 le,.int .i64 ke] 32)).alloc (.cells #[.int .i64 0,.int .i64 0,.slice none 0 0] 28)).alloc (.cells #[.int .i64 0,.int .i64 0,.slice none 0 0] 28)))
 have HV:=h_ hV
 have HWV:Hid (Below w.heap.size w V):=by rw[hV];exact h_ (a_ (a_ (a_ (a_ (a_ (a_ (Below.refl _ _)))))))
 have HVS:Hid (V.heap.size=w.heap.size+6):=by rw[hV];exact h_ (by simp)
 have H0:Hid (Box V (w.heap.size) [.int .i64 a.rows,.int .i64 a.cols,.slice aa an ak]):=by rw[hV];exact h_ ((Box.new _ [.int .i64 a.rows,.int .i64 a.cols,.slice aa an ak] 28 (by simp)).u_ (a_ (a_ (a_ (a_ (a_ (Below.refl _ _)))))))
 have H1:Hid (Box V (w.heap.size+1) [.int .i64 v.rows,.int .i64 v.cols,.slice va vn vk]):=by rw[hV];exact h_ ((Box.new _ [.int .i64 v.rows,.int .i64 v.cols,.slice va vn vk] 28 (by simp)).u_ (a_ (a_ (a_ (a_ (Below.refl _ _))))))
 have H2:Hid (Box V (w.heap.size+1+1) [.int .i64 d.rows,.int .i64 d.cols,.slice da dn dk]):=by rw[hV];exact h_ ((Box.new _ [.int .i64 d.rows,.int .i64 d.cols,.slice da dn dk] 28 (by simp)).u_ (a_ (a_ (a_ (Below.refl _ _)))))
 have H3:Hid (Box V (w.heap.size+1+1+1) [.int .i64 le,.int .i64 ke]):=by rw[hV];exact h_ ((Box.new _ [.int .i64 le,.int .i64 ke] 32 (by simp)).u_ (a_ (a_ (Below.refl _ _))))
 have H4:Hid (Box V (w.heap.size+1+1+1+1) [.int .i64 0,.int .i64 0,.slice none 0 0]):=by rw[hV];exact h_ ((Box.new _ [.int .i64 0,.int .i64 0,.slice none 0 0] 28 (by simp)).u_ (a_ (Below.refl _ _)))
 have H5:Hid (Box V (w.heap.size+1+1+1+1+1) [.int .i64 0,.int .i64 0,.slice none 0 0]):=by rw[hV];exact h_ ((Box.new _ [.int .i64 0,.int .i64 0,.slice none 0 0] 28 (by simp)).u_ (Below.refl _ _))
 have F4:Hid (Free V (w.heap.size+1+1+1+1)):=by rw[hV];exact h_ ((Free.new _ #[.int .i64 0,.int .i64 0,.slice none 0 0] 28 (by simp)).u_ (a_ (Below.refl _ _)) (by simp))
 have F5:Hid (Free V (w.heap.size+1+1+1+1+1)):=by rw[hV];exact h_ ((Free.new _ #[.int .i64 0,.int .i64 0,.slice none 0 0] 28 (by simp)).u_ (Below.refl _ _) (by simp))
 have HC1:=h_ (ref_times ke V (va:=.agg #[.int .i64 v.rows,.int .i64 v.cols,.slice va vn vk]) (a:=v) ⟨_,rfl,hv.u_ HWV.out⟩ gv.fault)
 have HC2:=h_ (fun W (vk:Value) (h:Below w.heap.size w W) (hk:M_ W vk (timesX v ke))=>ref_add W (va:=vk) (vb:=.agg #[.int .i64 d.rows,.int .i64 d.cols,.slice da dn dk]) (a:=timesX v ke) (b:=d) hk ⟨_,rfl,hd.u_ h⟩ (gk.addE gd))
 have HC3:=h_ (fun W (vs:Value) (hs:M_ W vs (spdX v d ke))=>ref_times le W (va:=vs) (a:=spdX v d ke) hs gs.fault)
 obtain ⟨n,en⟩:=gN (R*C)
 have hRC:=Nat.mul_le_mul ga.hR ga.hC
 have HB:=h_ (fun W=>blank_any a.rows a.cols n W (by rw[ga.r,ga.c,<-en];simp) (by omega))
 have hn:n<=288:=by omega
 obtain ⟨kx,ekx⟩:=gN (timesX v ke)
 have HAD:Hid (spdX v d ke=addX kx d):=h_ (by unfold spdX;rw[ekx])
 obtain ⟨sp,esp⟩:=gN (spdX v d ke)
 obtain ⟨lx,elx⟩:=gN (timesX sp le)
 rw[ekx]at HC1
 rw[ekx,<-HAD.out,esp]at HC2
 rw[esp,elx]at HC3
 rw[esp]at gl ⊢
 rw[elx]at gl
 have HLEN:=h_ (show a.cells.length=n/\lx.cells.length=n from ⟨ga.l.trans en,gl.l.trans en⟩)
 have han:an=n:=by
  obtain ⟨_,_,e1,_⟩:=ha
  injection e1 with _ e1 _
  exact e1.trans HLEN.out.1
 subst han
 have HNX:Hid ((newX a sp le).cells=tab an (fun q=>sb ((a.cells[q]?).getD 0) ((lx.cells[q]?).getD 0))):=h_ (by unfold newX A_;rw[HLEN.out.1,elx])
 have HIA:=h_ ha
 obtain ⟨r,er⟩:=gN (a.rows)
 obtain ⟨c,ec⟩:=gN (a.cols)
 rw[er,ec]at HB ⊢
 rw[er,ec]at HV H0
 obtain ⟨d0,d1,d2⟩:=H1.out.c3
 have d3:=H3.out 1 _ rfl
 clear hV ha hv hd ga gv gd gk gs gl en hRC ekx esp elx er ec HAD
 rw[HV.out]at d0 d1 d2 d3
 go_enter Tryz.func63,Tryz.ntmps63
 go_wp2_with fail
 rw[<-HV.out]
 refine HC1.out.mono ?_
 rintro e w1 ⟨pa,pn,pk,rfl,hm1,hb1,hf1⟩
 have HB1:=h_ (show Below V.heap.size V (w1.alloc (.cells #[.int .i64 kx.rows,.int .i64 kx.cols,.slice pa pn pk] 28)) from a_ hb1)
 have HC:=h_ (HC2.out (w1.alloc (.cells #[.int .i64 kx.rows,.int .i64 kx.cols,.slice pa pn pk] 28)) (.agg #[.int .i64 kx.rows,.int .i64 kx.cols,.slice pa pn pk]) (b_ HWV.out HB1.out) (hm1.u_ (o_ _ _)))
 have k0:=box_new w1 #[.int .i64 kx.rows,.int .i64 kx.cols,.slice pa pn pk] 28 (j:=0) rfl rfl
 have k1:=box_new w1 #[.int .i64 kx.rows,.int .i64 kx.cols,.slice pa pn pk] 28 (j:=1) rfl rfl
 have k2:=box_new w1 #[.int .i64 kx.rows,.int .i64 kx.cols,.slice pa pn pk] 28 (j:=2) rfl rfl
 obtain ⟨e0,e1,e2⟩:=(H2.out.u_ HB1.out).c3
 clear hm1 hb1 hf1 HC1 HC2 d0 d1 d2 d3
 go_wp2_with fail
 refine HC.out.mono ?_
 rintro e w2 ⟨qa,qn,qk,rfl,hm2,hb2,hf2⟩
 have HB2:=h_ (show Below V.heap.size V (w2.alloc (.cells #[.int .i64 sp.rows,.int .i64 sp.cols,.slice qa qn qk] 28)) from a_ (b_ HB1.out hb2))
 have HX:=h_ (HC3.out (w2.alloc (.cells #[.int .i64 sp.rows,.int .i64 sp.cols,.slice qa qn qk] 28)) (.agg #[.int .i64 sp.rows,.int .i64 sp.cols,.slice qa qn qk]) (hm2.u_ (o_ _ _)))
 have HM2:=h_ hm2.ints
 have HF2:=h_ (f_ hf2 HB1.out.size)
 have HBQ:=h_ (Box.new w2 [.int .i64 sp.rows,.int .i64 sp.cols,.slice qa qn qk] 28 rfl)
 have HSZ2:=h_ (show V.heap.size<=w2.heap.size from Nat.le_trans HB1.out.size hb2.size)
 obtain ⟨k0,k1,k2⟩:=HBQ.out.c3
 have e0:=(H3.out.u_ HB2.out) 0 _ rfl
 clear hm2 hb2 hf2 HC HC3
 go_wp2_with fail
 refine HX.out.mono ?_
 rintro e w3 ⟨la,ln,lk,rfl,hm3,hb3,hf3⟩
 have HB23:=h_ (show Below (w2.alloc (.cells #[.int .i64 sp.rows,.int .i64 sp.cols,.slice qa qn qk] 28)).heap.size (w2.alloc (.cells #[.int .i64 sp.rows,.int .i64 sp.cols,.slice qa qn qk] 28)) (w3.alloc (.cells #[.int .i64 lx.rows,.int .i64 lx.cols,.slice la ln lk] 28)) from a_ hb3)
 have HB3:=h_ (b_ HB2.out HB23.out)
 have HIL:=h_ (hm3.ints.u_ (o_ w3 (.cells #[.int .i64 lx.rows,.int .i64 lx.cols,.slice la ln lk] 28)))
 have hln:ln=an:=by
  obtain ⟨_,_,e1,_⟩:=hm3.ints
  injection e1 with _ e1 _
  exact e1.trans HLEN.out.2
 have HLN:=h_ hln
 have HL2:=h_ ((Box.new w3 [.int .i64 lx.rows,.int .i64 lx.cols,.slice la ln lk] 28 rfl) 2 _ rfl)
 obtain ⟨e0,e1⟩:=(H0.out.u_ HB3.out).c2
 clear hm3 hb3 hf3 HX k0 k1 k2 hln
 go_wp2_with fail
 refine (HB.out _).mono ?_
 rintro e w4 ⟨g,rfl,hg,hrow,hb4⟩
 have hglt:g<w4.heap.size:=hrow.lt
 have HG:=h_ hg
 have HB4:=h_ hb4
 have HR:=h_ (hrow.alloc (.cells #[.int .i64 r,.int .i64 c,.slice (some ⟨g,0,none⟩) an an] 28))
 have HA3:=h_ (HIA.out.u_ (b_ HWV.out HB3.out))
 have A2:=h_ ((H0.out.u_ HB3.out) 2 _ rfl)
 have HQ3:=h_ (HBQ.out.u_ HB23.out)
 have Z4:=h_ (H4.out.u_ HB3.out)
 have Z5:=h_ (H5.out.u_ HB3.out)
 have Y4:=h_ (F4.out.u_ HB3.out H4.out.lt)
 have Y5:=h_ (F5.out.u_ HB3.out H5.out.lt)
 have HM3:=h_ ((HM2.out.u_ (o_ _ _)).u_ HB23.out)
 have HSZ:=h_ (show w.heap.size+6<=(w3.alloc (.cells #[.int .i64 lx.rows,.int .i64 lx.cols,.slice la ln lk] 28)).heap.size/\w.heap.size+6<=w2.heap.size/\w2.heap.size<(w3.alloc (.cells #[.int .i64 lx.rows,.int .i64 lx.cols,.slice la ln lk] 28)).heap.size from ⟨by rw[<-HVS.out];exact HB3.out.size,by rw[<-HVS.out];exact HSZ2.out,Nat.lt_of_lt_of_le (by simp) HB23.out.size⟩)
 clear hg hrow hb4 HB e0 e1
 go_wp2
 go_loopw [14] (fun q wr=>∃(i:Nat) (xi:Int),i<=an/\xi=(i:Int)/\q=.int .i64 xi/\RowAt 3 wr g (tab an (fillF (fun q=>sb ((a.cells[q]?).getD 0) ((lx.cells[q]?).getD 0)) i))/\(w4.alloc (.cells #[.int .i64 r,.int .i64 c,.slice (some ⟨g,0,none⟩) an an] 28)).grownBy wr (some g)) (fun q _=>an - (intOf q).toNat)
 case atStart=>exact ⟨0,0,Nat.zero_le _,rfl,rfl,by rw[<-fillF_zero];exact HR.out,World.grownBy.refl _ _⟩
 case round=>
  obtain ⟨i,xi,hi,hxi,rfl,hro,hgr⟩:=hrel
  have p2:=X_ hglt hgr (j:=2) rfl
  have HRO:=h_ hro
  have HGR:=h_ hgr
  have HXI:=h_ hxi
  have hxi0:0<=xi:=by omega
  have hxi1:xi<=288:=by omega
  have j2:=k_ HB4.out HG.out HGR.out A2.out
  clear hro hgr hxi
  by_cases hlt:xi<(an:Int)
  ·have hin:i<an:=by have:=HXI.out;omega
   have hxn:xi.toNat=i:=by have:=HXI.out;omega
   obtain ⟨x,hx⟩:∃x,a.cells[i]?=some x:=⟨a.cells[i]'(by have:=HLEN.out.1;omega),List.getElem?_eq_getElem _⟩
   obtain ⟨y,hy⟩:∃y,lx.cells[i]?=some y:=⟨lx.cells[i]'(by have:=HLEN.out.2;omega),List.getElem?_eq_getElem _⟩
   obtain ⟨ao,acap,ha1,_,_,h4a⟩:=HA3.out
   obtain ⟨b0,off,ra,hcla⟩:=h4a.resolve_left (fun e=>by rw[e]at hx;simp at hx)
   replace ha1:=(Value.slice.inj ha1).1
   rw[ra]at ha1
   subst ha1
   obtain ⟨lo,lcap,hl1,_,_,h4l⟩:=HIL.out
   obtain ⟨b1,off1,rl,hcll⟩:=h4l.resolve_left (fun e=>by rw[e]at hy;simp at hy)
   replace hl1:=(Value.slice.inj hl1).1
   rw[rl]at hl1
   subst hl1
   have cx:wr.cell? ⟨b0,off+xi.toNat,none⟩=some (.int .i64 x):=by rw[hxn];exact k_ HB4.out HG.out HGR.out (hcla _ _ hx)
   have cy:wr.cell? ⟨b1,off1+xi.toNat,none⟩=some (.int .i64 y):=by rw[hxn];exact k_ HB4.out HG.out HGR.out (hcll _ _ hy)
   have j3:=k_ HB4.out HG.out HGR.out HL2.out
   have hl3:xi<(ln:Int):=by have:=HLN.out;omega
   obtain ⟨u,dx⟩:∃u,wr.cell? ⟨g,xi.toNat,none⟩=some (.int .i64 u):=⟨_,by rw[hxn];exact HRO.out.cell (tab_at hin)⟩
   have fx:wr.frozen? ⟨g,xi.toNat,none⟩=false:=HRO.out.frozen _
   have HXN:=h_ hxn
   have hw:fillF_ok (fun q=>sb ((a.cells[q]?).getD 0) ((lx.cells[q]?).getD 0)) i (sb x y):=by unfold fillF_ok;simp only[hx,hy];rfl
   have HW:=h_ hw
   clear hcla h4a hx hcll h4l hy hxn hw ra rl
   go_wp2
   refine region_tail 15 (by kernel_rfl) (by kernel_rfl) ?_
   simp only[List.take_succ_cons,List.take_zero,List.drop_succ_cons,List.drop_zero]
   repeat still_step
   still_call (rsub_any _ _ _)
   repeat still_step
   refine wpStill_nil ?_
   go_wp2
   exact ⟨⟨i+1,_,by omega,by have:=HXI.out;omega,rfl,by
    rw[HXN.out,<-fillF_step _ i an _ HW.out]
    exact HRO.out.set i _,grown_drew (w_ HGR.out _ _)⟩,by have:=HXI.out;simp[intOf];omega⟩
  ·have hin:i=an:=by have:=HXI.out;omega
   have z40:=k_ HB4.out HG.out HGR.out (Z4.out 0 _ rfl)
   have y40:=z_ HB4.out HG.out HGR.out (p:=⟨w.heap.size+1+1+1+1,0,none⟩) (by have:=HSZ.out;simp at this ⊢;omega) (Y4.out 0)
   have z41:=k_ HB4.out HG.out HGR.out (Z4.out 1 _ rfl)
   have y41:=z_ HB4.out HG.out HGR.out (p:=⟨w.heap.size+1+1+1+1,1,none⟩) (by have:=HSZ.out;simp at this ⊢;omega) (Y4.out 1)
   have z42:=k_ HB4.out HG.out HGR.out (Z4.out 2 _ rfl)
   have y42:=z_ HB4.out HG.out HGR.out (p:=⟨w.heap.size+1+1+1+1,2,none⟩) (by have:=HSZ.out;simp at this ⊢;omega) (Y4.out 2)
   have z50:=k_ HB4.out HG.out HGR.out (Z5.out 0 _ rfl)
   have y50:=z_ HB4.out HG.out HGR.out (p:=⟨w.heap.size+1+1+1+1+1,0,none⟩) (by have:=HSZ.out;simp at this ⊢;omega) (Y5.out 0)
   have z51:=k_ HB4.out HG.out HGR.out (Z5.out 1 _ rfl)
   have y51:=z_ HB4.out HG.out HGR.out (p:=⟨w.heap.size+1+1+1+1+1,1,none⟩) (by have:=HSZ.out;simp at this ⊢;omega) (Y5.out 1)
   have z52:=k_ HB4.out HG.out HGR.out (Z5.out 2 _ rfl)
   have y52:=z_ HB4.out HG.out HGR.out (p:=⟨w.heap.size+1+1+1+1+1,2,none⟩) (by have:=HSZ.out;simp at this ⊢;omega) (Y5.out 2)
   have p0:=X_ hglt HGR.out (j:=0) rfl
   have p1:=X_ hglt HGR.out (j:=1) rfl
   have q0:=k_ HB4.out HG.out HGR.out (HQ3.out 0 _ rfl)
   have q1:=k_ HB4.out HG.out HGR.out (HQ3.out 1 _ rfl)
   have q2:=k_ HB4.out HG.out HGR.out (HQ3.out 2 _ rfl)
   have hg4:w4.heap.size≠w.heap.size+1+1+1+1/\w4.heap.size≠w.heap.size+1+1+1+1+1/\w2.heap.size≠w.heap.size+1+1+1+1/\w2.heap.size≠w.heap.size+1+1+1+1+1/\g≠w.heap.size+1+1+1+1/\g≠w.heap.size+1+1+1+1+1:=by
    have h1:=HSZ.out
    have h2:=HG.out
    have h3:=HB4.out.size
    refine ⟨?_,?_,?_,?_,?_,?_⟩<;>omega
   have HG4:=h_ hg4
   have HSB:=h_ (show ∀W',Keep (fun q=>q=w4.heap.size\/q=w2.heap.size) wr W'->(fun W'=>W'.cell? ⟨w4.heap.size,0,none⟩=some (.int .i64 r)/\W'.cell? ⟨w4.heap.size,1,none⟩=some (.int .i64 c)/\W'.cell? ⟨w4.heap.size,2,none⟩=some (.slice (some ⟨g,0,none⟩) an an)/\W'.cell? ⟨w2.heap.size,0,none⟩=some (.int .i64 sp.rows)/\W'.cell? ⟨w2.heap.size,1,none⟩=some (.int .i64 sp.cols)/\W'.cell? ⟨w2.heap.size,2,none⟩=some (.slice qa qn qk)) W' from fun W' h=>⟨h _ _ (.inl rfl) p0,h _ _ (.inl rfl) p1,h _ _ (.inl rfl) p2,h _ _ (.inr rfl) q0,h _ _ (.inr rfl) q1,h _ _ (.inr rfl) q2⟩)
   have HRE:=h_ (show RowAt 3 ((((((wr.setCell ⟨w.heap.size+1+1+1+1,0,none⟩ (.int .i64 r)).setCell ⟨w.heap.size+1+1+1+1,1,none⟩ (.int .i64 c)).setCell ⟨w.heap.size+1+1+1+1,2,none⟩ (.slice (some ⟨g,0,none⟩) an an)).setCell ⟨w.heap.size+1+1+1+1+1,0,none⟩ (.int .i64 sp.rows)).setCell ⟨w.heap.size+1+1+1+1+1,1,none⟩ (.int .i64 sp.cols)).setCell ⟨w.heap.size+1+1+1+1+1,2,none⟩ (.slice qa qn qk)).drew g (tab an (fun q=>sb ((a.cells[q]?).getD 0) ((lx.cells[q]?).getD 0))) by
    have h:=HRO.out
    rw[hin,fillF_end]at h
    exact ((((((h.other _ _ hg4.2.2.2.2.1).other _ _ hg4.2.2.2.2.1).other _ _ hg4.2.2.2.2.1).other _ _ hg4.2.2.2.2.2).other _ _ hg4.2.2.2.2.2).other _ _ hg4.2.2.2.2.2).drew)
   have HQE:=h_ (show I_ ((((((wr.setCell ⟨w.heap.size+1+1+1+1,0,none⟩ (.int .i64 r)).setCell ⟨w.heap.size+1+1+1+1,1,none⟩ (.int .i64 c)).setCell ⟨w.heap.size+1+1+1+1,2,none⟩ (.slice (some ⟨g,0,none⟩) an an)).setCell ⟨w.heap.size+1+1+1+1+1,0,none⟩ (.int .i64 sp.rows)).setCell ⟨w.heap.size+1+1+1+1+1,1,none⟩ (.int .i64 sp.cols)).setCell ⟨w.heap.size+1+1+1+1+1,2,none⟩ (.slice qa qn qk)).drew (.slice qa qn qk) sp.cells from (I_.aboveF (ints_kept HM3.out (fun p x hx=>k_ HB4.out HG.out HGR.out hx)) HF2.out (abv_drew (v_ (v_ (v_ (v_ (v_ (v_ (Above.refl _ _) (by have:=HVS.out;omega)) (by have:=HVS.out;omega)) (by have:=HVS.out;omega)) (by have:=HVS.out;omega)) (by have:=HVS.out;omega)) (by have:=HVS.out;omega)))))
   have HBE:=h_ (show Below w.heap.size w ((((((wr.setCell ⟨w.heap.size+1+1+1+1,0,none⟩ (.int .i64 r)).setCell ⟨w.heap.size+1+1+1+1,1,none⟩ (.int .i64 c)).setCell ⟨w.heap.size+1+1+1+1,2,none⟩ (.slice (some ⟨g,0,none⟩) an an)).setCell ⟨w.heap.size+1+1+1+1+1,0,none⟩ (.int .i64 sp.rows)).setCell ⟨w.heap.size+1+1+1+1+1,1,none⟩ (.int .i64 sp.cols)).setCell ⟨w.heap.size+1+1+1+1+1,2,none⟩ (.slice qa qn qk)).drew from d_ (t_ (t_ (t_ (t_ (t_ (t_ (keep_below (b_ HWV.out HB3.out) HB4.out HG.out HGR.out) (by omega)) (by omega)) (by omega)) (by omega)) (by omega)) (by omega)))
   clear hin hg4
   go_wp2
   go_region_held3 (fun W'=>W'.cell? ⟨w4.heap.size,0,none⟩=some (.int .i64 r)/\W'.cell? ⟨w4.heap.size,1,none⟩=some (.int .i64 c)/\W'.cell? ⟨w4.heap.size,2,none⟩=some (.slice (some ⟨g,0,none⟩) an an)/\W'.cell? ⟨w2.heap.size,0,none⟩=some (.int .i64 sp.rows)/\W'.cell? ⟨w2.heap.size,1,none⟩=some (.int .i64 sp.cols)/\W'.cell? ⟨w2.heap.size,2,none⟩=some (.slice qa qn qk)) ((refine HSB.out _ ?_;repeat' (first|with_reducible exact Keep.refl _ _|with_reducible refine keep_drew ?_|with_reducible refine keep_set ?_ (by have:=HG4.out;omega)))) (fail)
   go_wp2
   exact bodyPost_ret (v:=.tuple #[.agg #[.int .i64 r,.int .i64 c,.slice (some ⟨g,0,none⟩) an an],.agg #[.int .i64 sp.rows,.int .i64 sp.cols,.slice qa qn qk]]) (by simp[results,Tryz.results63,go_sem,z40,z41,z42,z50,z51,z52]) rfl ⟨_,_,rfl,by rw[HNX.out];exact HRE.out.isTab (by unfold maxLen;omega),HQE.out,HBE.out,fresh_at (by have:=HSZ.out;have:=HG.out;omega) _ _ _,f_ HF2.out HWV.out.size⟩
end Go.Proofs.YtniloklglpchfaeGreatDoor
