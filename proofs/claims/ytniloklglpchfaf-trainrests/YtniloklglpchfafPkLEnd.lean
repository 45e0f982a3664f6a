/- Closing facts: what lies in new memory is there behind writes into older boxes. No program in sight. -/
import Derived.Test.YtniloklglpchfafLForth
namespace Go.Proofs.Ytniloklglpchfaf
open Go.RowKit
def Above (n:Nat) (w w':World):Prop:=∀(p:Addr) x,n≤p.block→w.cell? p=some x→w'.cell? p=some x
theorem Above.refl(n:Nat)(w:World):Above n w w:=fun _ _ _ h=>h
theorem Above.set{n:Nat}{w u:World}(h:Above n w u){B:Nat}(hB:B<n)(q:Nat)(x:Value):Above n w (u.setCell ⟨B,q,none⟩ x):=fun p y hp hy=>cell_other (h p y hp hy) (by omega) q x
theorem I_.above{n:Nat}{w u:World}{s r c:Value}{zs:List Int}(h:I_ w s zs)(hf:F_ n (.agg #[r,c,s]))(ha:Above n w u):I_ u s zs:=by
 obtain ⟨a,cap,rfl,h2,h3,h4⟩:=h
 refine ⟨a,cap,rfl,h2,h3,?_⟩
 rcases h4 with h0|⟨b',off,rfl,hc⟩
 ·exact .inl h0
 ·rcases hf _ _ _ _ _ rfl with hz|hz
  ·exact .inl (List.eq_nil_of_length_eq_zero hz)
  ·exact .inr ⟨b',off,rfl,fun i x hx=>ha _ _ hz (hc i x hx)⟩
theorem M_.above{n:Nat}{w u:World}{v:Value}{m:Mx}(h:M_ w v m)(hf:F_ n v)(ha:Above n w u):M_ u v m:=by
 obtain ⟨s,rfl,hs⟩:=h;exact ⟨s,rfl,hs.above hf ha⟩
theorem fresh2_of{B:Nat}{r c s r' c' t:Value}(h1:F_ B (.agg #[r,c,s]))(h2:F_ B (.agg #[r',c',t])):Fresh2 B (.agg #[r,c,s,r',c',t]):=by
 intro a b x n k a' b' x' n' k' e
 simp at e
 obtain ⟨rfl,rfl,rfl,rfl,rfl,rfl⟩:=e
 exact ⟨h1,h2⟩
theorem two_of{w:World}{a b:Mx}{s t:Value}(hs:I_ w s a.cells)(ht:I_ w t b.cells):IsTwo w (.agg #[.int .i64 a.rows,.int .i64 a.cols,s,.int .i64 b.rows,.int .i64 b.cols,t]) a b:=⟨s,t,rfl,hs,ht⟩
theorem above3{n B:Nat}(hB:B<n)(u:World)(x0 x1 x2:Value):Above n u (((u.setCell ⟨B,0,none⟩ x0).setCell ⟨B,1,none⟩ x1).setCell ⟨B,2,none⟩ x2):=(((Above.refl n u).set hB 0 x0).set hB 1 x1).set hB 2 x2
theorem above6{n B:Nat}(hB:B<n){u0 u:World}(h:Above n u0 u)(y0 y1 y2 y3 y4 y5:Value):Above n u0 ((((((u.setCell ⟨B,0,none⟩ y0).setCell ⟨B,1,none⟩ y1).setCell ⟨B,2,none⟩ y2).setCell ⟨B,3,none⟩ y3).setCell ⟨B,4,none⟩ y4).setCell ⟨B,5,none⟩ y5):=(((((h.set hB 0 y0).set hB 1 y1).set hB 2 y2).set hB 3 y3).set hB 4 y4).set hB 5 y5
theorem below6{V u:World}{B:Nat}(h:Below V.heap.size V u)(hB:V.heap.size≤B)(y0 y1 y2 y3 y4 y5:Value):Below V.heap.size V ((((((u.setCell ⟨B,0,none⟩ y0).setCell ⟨B,1,none⟩ y1).setCell ⟨B,2,none⟩ y2).setCell ⟨B,3,none⟩ y3).setCell ⟨B,4,none⟩ y4).setCell ⟨B,5,none⟩ y5):=(((((h.setCell hB _).setCell hB _).setCell hB _).setCell hB _).setCell hB _).setCell hB _
theorem isTwo_no(w:World):IsTwo w (.agg #[.int .i64 0,.int .i64 0,.slice none 0 0,.int .i64 0,.int .i64 0,.slice none 0 0]) noMx noMx:=⟨_,_,rfl,I_.nil w,I_.nil w⟩
theorem fresh2_no(B:Nat)(r c r' c':Value):Fresh2 B (.agg #[r,c,.slice none 0 0,r',c',.slice none 0 0]):=fresh2_of (y_ _ _ _) (y_ _ _ _)
theorem MxErr.fresh_any{w:World}{m:Mx}{j:Int}{e:Ending}{w':World}(h:MxErr w m j e w'):∀v x,e=.returned (.tuple #[v,x])→F_ w.heap.size v:=by
 intro v x he
 rw[he]at h
 exact h.fresh
set_option maxHeartbeats 800000 in
theorem multurned_any(va vb:Value)(a b:Mx)(w:World)(Ra Rb Cb:Nat)(ga0:Good a Ra Cb)(gb0:Good b Rb Cb)(hR:Rb≤12)(h0:M_ w va a)(h1:M_ w vb b):
  Calls Try.prog 103 #[va,vb] w (MxErr w (mulX a (turnX b)) 0):=by
 obtain ⟨s0,rfl,hs0⟩:=h0
 obtain ⟨s1,rfl,hs1⟩:=h1
 obtain ⟨za,zn,zk,rfl⟩:=hs0.shape
 obtain ⟨ga,gn,gk,rfl⟩:=hs1.shape
 obtain ⟨r,e1⟩:=gN (a.rows)
 obtain ⟨c,e2⟩:=gN (a.cols)
 obtain ⟨r',e3⟩:=gN (b.rows)
 obtain ⟨c',e4⟩:=gN (b.cols)
 have HT:=h_ (fun W (h:Below w.heap.size w W)=>mturn_any _ b W ⟨_,rfl,hs1.u_ h⟩)
 have HE:=h_ (gb0.turn0 hR)
 have gt:=gb0.turn hR
 obtain ⟨t,ht⟩:=gN (turnX b)
 rw[ht]at HT gt ⊢
 have HM:=h_ (fun W v (hv:M_ W v t) (h:Below w.heap.size w W)=>mmul_any _ v a t W ⟨_,rfl,hs0.u_ h⟩ hv)
 have HE2:=h_ (ga0.mul0 gt)
 obtain ⟨p,hp⟩:=gN (mulX a t)
 rw[hp]at HM ⊢
 rw[e3,e4]at HT
 rw[e1,e2]at HM
 rw[e1,e2,e3,e4]
 obtain ⟨V,hV⟩:=gM ((((w.alloc (.cells #[.int .i64 r,.int .i64 c,.slice za zn zk] 28)).alloc (.cells #[.int .i64 r',.int .i64 c',.slice ga gn gk] 28)).alloc (.cells #[.int .i64 0,.int .i64 0,.slice none 0 0] 28)))
 have HV:=h_ hV
 have HBW:Hid (Below w.heap.size w V):=by rw[hV];exact h_ (b_ (b_ (o_ _ _) (o_ _ _)) (o_ _ _))
 have HBA:Hid (Box V w.heap.size [.int .i64 r,.int .i64 c,.slice za zn zk]):=by rw[hV];exact h_ (((Box.new w [.int .i64 r,.int .i64 c,.slice za zn zk] 28 rfl).u_ (o_ _ _)).u_ (o_ _ _))
 have HBB:Hid (Box V (w.heap.size+1) [.int .i64 r',.int .i64 c',.slice ga gn gk]):=by rw[hV];exact h_ ((Box.new _ [.int .i64 r',.int .i64 c',.slice ga gn gk] 28 (by simp)).u_ (o_ _ _))
 have HQ:Hid (Box V (w.heap.size+1+1) [.int .i64 0,.int .i64 0,.slice none 0 0]):=by rw[hV];exact h_ (Box.new _ [.int .i64 0,.int .i64 0,.slice none 0 0] 28 (by simp))
 have HFR:Hid (Free V (w.heap.size+1+1)):=by rw[hV];exact h_ (Free.new _ _ 28 (by simp))
 have HL:=h_ HQ.out.lt
 clear hV
 clear hs0 hs1 e1 e2 e3 e4 ht hp gt ga0 gb0
 go_enter Try.func103,Try.ntmps103
 go_wp2_with fail
 rw[←HV.out]
 refine (HT.out _ HBW.out).mono ?_
 intro e w1 h
 obtain ⟨ta,tn,tk,rfl,htm,hb1⟩:=h.good HE.out
 have HD:=h_ (b_ hb1 (o_ w1 (.cells #[.int .i64 t.rows,.int .i64 t.cols,.slice ta tn tk] 28)))
 have HTM:=h_ (htm.u_ (o_ w1 (.cells #[.int .i64 t.rows,.int .i64 t.cols,.slice ta tn tk] 28)))
 clear h htm hb1 HT
 obtain ⟨d0,d1,d2⟩:=(HBA.out.u_ HD.out).c3
 go_wp2_with fail
 refine (HM.out _ _ HTM.out (b_ HBW.out HD.out)).mono ?_
 intro e w2 h
 have HF:=h_ h.fresh_any
 obtain ⟨qa,qn,qk,rfl,hqm,hb2⟩:=h.good HE2.out
 have HN:=h_ hqm
 have HB2:=h_ (b_ HD.out hb2)
 have HFV:=h_ (f_ (HF.out _ _ rfl) HD.out.size)
 clear h hqm hb2 HM HF d0 d1 d2
 obtain ⟨p0,p1,p2⟩:=(HQ.out.u_ HB2.out).c3
 obtain ⟨f0,f1,f2⟩:=(HFR.out.u_ HB2.out HL.out).f3
 go_wp2
 obtain ⟨c1,c2,c3⟩:=errEnd HN.out HFV.out HBW.out (B:=w.heap.size+1+1) (by omega) HL.out HB2.out (.int .i64 p.rows) (.int .i64 p.cols) (.slice qa qn qk)
 exact bodyPost_ret (v:=.tuple #[.agg #[.int .i64 p.rows,.int .i64 p.cols,.slice qa qn qk],.nilIface]) (by simp[results,Try.results103,go_sem,p0,p1,p2]) rfl ⟨_,rfl,c1,c2,c3⟩
def GradErr (w:World) (a b:Mx) (k:Int) (e:Ending) (w':World):Prop:=∃d,e=.returned (.tuple #[d,errV k])∧IsTwo w' d a b∧Below w.heap.size w w'∧Fresh2 w.heap.size d
set_option maxHeartbeats 1600000 in
theorem grad_far(va vb:Value)(a b:Mx)(w:World)(R C:Nat)(ga0:Good a R C)(hR:12<R)(h0:M_ w va a)(h1:M_ w vb b):
  Calls Try.prog 104 #[va,vb] w (GradErr w noMx noMx 1):=by
 obtain ⟨s0,rfl,hs0⟩:=h0
 obtain ⟨s1,rfl,hs1⟩:=h1
 obtain ⟨za,zn,zk,rfl⟩:=hs0.shape
 obtain ⟨ga,gn,gk,rfl⟩:=hs1.shape
 obtain ⟨r,e1⟩:=gN (a.rows)
 obtain ⟨c,e2⟩:=gN (a.cols)
 obtain ⟨r',e3⟩:=gN (b.rows)
 obtain ⟨c',e4⟩:=gN (b.cols)
 have HT:=h_ (fun W (h:Below w.heap.size w W)=>mturn_any _ a W ⟨_,rfl,hs0.u_ h⟩)
 have h1:=ga0.turn1 hR
 rw[h1,turnX_no (by rw[h1];decide),e1,e2]at HT
 rw[e1,e2,e3,e4]
 obtain ⟨V,hV⟩:=gM ((((w.alloc (.cells #[.int .i64 r,.int .i64 c,.slice za zn zk] 28)).alloc (.cells #[.int .i64 r',.int .i64 c',.slice ga gn gk] 28)).alloc (.cells #[.int .i64 0,.int .i64 0,.slice none 0 0,.int .i64 0,.int .i64 0,.slice none 0 0] 79)))
 have HV:=h_ hV
 have HBW:Hid (Below w.heap.size w V):=by rw[hV];exact h_ (b_ (b_ (o_ _ _) (o_ _ _)) (o_ _ _))
 have HBA:Hid (Box V w.heap.size [.int .i64 r,.int .i64 c,.slice za zn zk]):=by rw[hV];exact h_ (((Box.new w [.int .i64 r,.int .i64 c,.slice za zn zk] 28 rfl).u_ (o_ _ _)).u_ (o_ _ _))
 have HBB:Hid (Box V (w.heap.size+1) [.int .i64 r',.int .i64 c',.slice ga gn gk]):=by rw[hV];exact h_ ((Box.new _ [.int .i64 r',.int .i64 c',.slice ga gn gk] 28 (by simp)).u_ (o_ _ _))
 have HQ:Hid (Box V (w.heap.size+1+1) [.int .i64 0,.int .i64 0,.slice none 0 0,.int .i64 0,.int .i64 0,.slice none 0 0]):=by rw[hV];exact h_ (Box.new _ [.int .i64 0,.int .i64 0,.slice none 0 0,.int .i64 0,.int .i64 0,.slice none 0 0] 79 (by simp))
 have HFR:Hid (Free V (w.heap.size+1+1)):=by rw[hV];exact h_ (Free.new _ _ 79 (by simp))
 have HL:=h_ HQ.out.lt
 clear hV
 clear hs0 hs1 e1 e2 e3 e4 ga0 h1 HBA HBB
 go_enter Try.func104,Try.ntmps104
 go_wp2_with fail
 rw[←HV.out]
 refine (HT.out _ HBW.out).mono ?_
 intro e w1 h
 obtain ⟨ta,tn,tk,rfl,htm,hb1⟩:=h.bad (by decide) rfl
 have HD:=h_ (b_ hb1 (o_ w1 (.cells #[.int .i64 0,.int .i64 0,.slice ta tn tk] 28)))
 clear h htm hb1 HT
 obtain ⟨p0,p1,p2,p3,p4,p5⟩:=(HQ.out.u_ HD.out).c6
 obtain ⟨f0,f1,f2,f3,f4,f5⟩:=(HFR.out.u_ HD.out HL.out).f6
 go_wp2
 exact bodyPost_ret (v:=.tuple #[.agg #[.int .i64 0,.int .i64 0,.slice none 0 0,.int .i64 0,.int .i64 0,.slice none 0 0],.iface 65 (.int .i64 1)]) (by simp[results,Try.results104,go_sem,p0,p1,p2,p3,p4,p5]) rfl ⟨_,rfl,isTwo_no _,below6 (b_ HBW.out HD.out) (B:=w.heap.size+1+1) (by omega) _ _ _ _ _ _,fresh2_no _ _ _ _ _⟩
set_option maxHeartbeats 1600000 in
theorem grad_any(va vb:Value)(a b:Mx)(w:World)(R C Cb:Nat)(ga0:Good a R C)(gb0:Good b R Cb)(hR:R≤12)(h0:M_ w va a)(h1:M_ w vb b):
  Calls Try.prog 104 #[va,vb] w (GradErr w (mulX (turnX a) b) (sumsX b) 0):=by
 obtain ⟨s0,rfl,hs0⟩:=h0
 obtain ⟨s1,rfl,hs1⟩:=h1
 obtain ⟨za,zn,zk,rfl⟩:=hs0.shape
 obtain ⟨ga,gn,gk,rfl⟩:=hs1.shape
 obtain ⟨r,e1⟩:=gN (a.rows)
 obtain ⟨c,e2⟩:=gN (a.cols)
 obtain ⟨r',e3⟩:=gN (b.rows)
 obtain ⟨c',e4⟩:=gN (b.cols)
 have HT:=h_ (fun W (h:Below w.heap.size w W)=>mturn_any _ a W ⟨_,rfl,hs0.u_ h⟩)
 have HE:=h_ (ga0.turn0 hR)
 have gt:=ga0.turn hR
 obtain ⟨t,ht⟩:=gN (turnX a)
 rw[ht]at HT gt ⊢
 have HM:=h_ (fun W v (hv:M_ W v t) (h:Below w.heap.size w W)=>mmul_any v _ t b W hv ⟨_,rfl,hs1.u_ h⟩)
 have HE2:=h_ (gt.mul0 gb0)
 obtain ⟨p,hp⟩:=gN (mulX t b)
 rw[hp]at HM ⊢
 have HS:=h_ (fun W (h:Below w.heap.size w W)=>msums_any _ b W ⟨_,rfl,hs1.u_ h⟩)
 have HE3:=h_ (show timesE b=0 by unfold timesE;rw[if_neg (by simp[gb0.fault])])
 obtain ⟨q,hq⟩:=gN (sumsX b)
 rw[hq]at HS ⊢
 rw[e1,e2]at HT
 rw[e3,e4]at HM HS
 rw[e1,e2,e3,e4]
 obtain ⟨V,hV⟩:=gM ((((w.alloc (.cells #[.int .i64 r,.int .i64 c,.slice za zn zk] 28)).alloc (.cells #[.int .i64 r',.int .i64 c',.slice ga gn gk] 28)).alloc (.cells #[.int .i64 0,.int .i64 0,.slice none 0 0,.int .i64 0,.int .i64 0,.slice none 0 0] 79)))
 have HV:=h_ hV
 have HBW:Hid (Below w.heap.size w V):=by rw[hV];exact h_ (b_ (b_ (o_ _ _) (o_ _ _)) (o_ _ _))
 have HBA:Hid (Box V w.heap.size [.int .i64 r,.int .i64 c,.slice za zn zk]):=by rw[hV];exact h_ (((Box.new w [.int .i64 r,.int .i64 c,.slice za zn zk] 28 rfl).u_ (o_ _ _)).u_ (o_ _ _))
 have HBB:Hid (Box V (w.heap.size+1) [.int .i64 r',.int .i64 c',.slice ga gn gk]):=by rw[hV];exact h_ ((Box.new _ [.int .i64 r',.int .i64 c',.slice ga gn gk] 28 (by simp)).u_ (o_ _ _))
 have HQ:Hid (Box V (w.heap.size+1+1) [.int .i64 0,.int .i64 0,.slice none 0 0,.int .i64 0,.int .i64 0,.slice none 0 0]):=by rw[hV];exact h_ (Box.new _ [.int .i64 0,.int .i64 0,.slice none 0 0,.int .i64 0,.int .i64 0,.slice none 0 0] 79 (by simp))
 have HFR:Hid (Free V (w.heap.size+1+1)):=by rw[hV];exact h_ (Free.new _ _ 79 (by simp))
 have HL:=h_ HQ.out.lt
 clear hV
 clear hs0 hs1 e1 e2 e3 e4 ht hp hq gt ga0 gb0 HBA
 go_enter Try.func104,Try.ntmps104
 go_wp2_with fail
 rw[←HV.out]
 refine (HT.out _ HBW.out).mono ?_
 intro e w1 h
 obtain ⟨ta,tn,tk,rfl,htm,hb1⟩:=h.good HE.out
 have HD:=h_ (b_ hb1 (o_ w1 (.cells #[.int .i64 t.rows,.int .i64 t.cols,.slice ta tn tk] 28)))
 have HTM:=h_ (htm.u_ (o_ w1 (.cells #[.int .i64 t.rows,.int .i64 t.cols,.slice ta tn tk] 28)))
 clear h htm hb1 HT
 obtain ⟨d0,d1,d2⟩:=(HBB.out.u_ HD.out).c3
 go_wp2_with fail
 refine (HM.out _ _ HTM.out (b_ HBW.out HD.out)).mono ?_
 intro e w2 h
 have HF:=h_ h.fresh_any
 obtain ⟨pa,pn,pk,rfl,hpm,hb2⟩:=h.good HE2.out
 have HPF:=h_ (f_ (HF.out _ _ rfl) HD.out.size)
 have HD2:=h_ (b_ (b_ HD.out hb2) (o_ w2 (.cells #[.int .i64 p.rows,.int .i64 p.cols,.slice pa pn pk] 28)))
 have HPM:=h_ (hpm.u_ (o_ w2 (.cells #[.int .i64 p.rows,.int .i64 p.cols,.slice pa pn pk] 28)))
 have HPB:=h_ (Box.new w2 [.int .i64 p.rows,.int .i64 p.cols,.slice pa pn pk] 28 rfl)
 clear h hpm hb2 HM HF d0 d1 d2 HTM
 obtain ⟨d0,d1,d2⟩:=(HBB.out.u_ HD2.out).c3
 go_wp2_with fail
 refine (HS.out _ (b_ HBW.out HD2.out)).mono ?_
 intro e w3 h
 have HF:=h_ h.fresh_any
 obtain ⟨qa,qn,qk,rfl,hqm,hb3⟩:=h.good HE3.out
 have HQF:=h_ (f_ (HF.out _ _ rfl) HD2.out.size)
 have D3:=b_ hb3 (o_ w3 (.cells #[.int .i64 q.rows,.int .i64 q.cols,.slice qa qn qk] 28))
 have HD3:=h_ (b_ HD2.out D3)
 have HQM:=h_ (hqm.u_ (o_ w3 (.cells #[.int .i64 q.rows,.int .i64 q.cols,.slice qa qn qk] 28)))
 have HPM3:=h_ (HPM.out.u_ D3)
 have HPB3:=h_ (HPB.out.u_ D3)
 clear h hqm hb3 HS HF d0 d1 d2 D3 HPM HPB
 obtain ⟨d0,d1,d2⟩:=HPB3.out.c3
 obtain ⟨p0,p1,p2,p3,p4,p5⟩:=(HQ.out.u_ HD3.out).c6
 obtain ⟨f0,f1,f2,f3,f4,f5⟩:=(HFR.out.u_ HD3.out HL.out).f6
 go_wp2
 have HA:=above6 (B:=w.heap.size+1+1) HL.out (Above.refl _ (w3.alloc (.cells #[.int .i64 q.rows,.int .i64 q.cols,.slice qa qn qk] 28))) (.int .i64 p.rows) (.int .i64 p.cols) (.slice pa pn pk) (.int .i64 q.rows) (.int .i64 q.cols) (.slice qa qn qk)
 exact bodyPost_ret (v:=.tuple #[.agg #[.int .i64 p.rows,.int .i64 p.cols,.slice pa pn pk,.int .i64 q.rows,.int .i64 q.cols,.slice qa qn qk],.nilIface]) (by simp[results,Try.results104,go_sem,p0,p1,p2,p3,p4,p5]) rfl
  ⟨_,rfl,two_of (HPM3.out.ints.above HPF.out HA) (HQM.out.ints.above HQF.out HA),below6 (b_ HBW.out HD3.out) (B:=w.heap.size+1+1) (by omega) _ _ _ _ _ _,fresh2_of (f_ HPF.out HBW.out.size) (f_ HQF.out HBW.out.size)⟩
end Go.Proofs.Ytniloklglpchfaf
