/- What tail of package wire's reader comes to, and Decode. -/
import Derived.Test.YtniloklglpchfakGreatPkWrMs
import Derived.Deep.RegionHeld3
import Derived.ChangeKeysEq
namespace Go.Proofs.YtniloklglpchfakGreat
open Go.RowKit
theorem wy_drew{B:Nat}{w W:World}(h:Below B w W):Below B w W.drew:=h.drew
theorem wy_go{w W W':World}(h:Below w.heap.size w W)(k:Below W.heap.size W W'):Below w.heap.size w W':=bel_on h k
theorem eq_two(s0 s1 b0 b1:Int)(W:World):(Op.equalIn 10000 156 (.agg #[.int .u8 s0,.int .u8 s1]) (.agg #[.int .u8 b0,.int .u8 b1])).run Tryz.prog W=.ok (decide (s0=b0∧s1=b1)) W:=by
 obtain ⟨i,hi,hz0,hz1,hz2⟩:=info_parts infoByte
 have hu:Tryz.prog.underlying 5=some (.int .u8):=by kernel_rfl
 rw[run_equalIn_array (P:=Tryz.prog) (w:=W) 9999 (t:=156) (e:=5) (n:=2) _ _ (by kernel_rfl) hi,show Tryz.prog.cellsOf 5=1 by kernel_rfl]
 simp[List.range_succ,Op.eqItems,go_sem]
 by_cases h0:s0=b0<;>by_cases h1:s1=b1<;>simp[*]
theorem pair_of{l:List Int}(h:l.length=2):∃a b,l=[a,b]:=by
 match l,h with
 |[a,b],_=>exact ⟨a,b,rfl⟩
theorem wsums_at{v:Value}{l:List Int}{w0:World}{s0 s1:Int}(hv:IsBys w0 v l)(hs:sumsG 0 0 l=[s0,s1])(W:World)(hb:Below w0.heap.size w0 W):Calls Tryz.prog 67 #[v] W fun e w'=>e=.returned (.agg #[.int .u8 s0,.int .u8 s1])∧Below W.heap.size W w':=by
 refine (wsums_any v l W (hv.u_ hb)).mono ?_
 rintro e w' ⟨t0,t1,rfl,h1,_,_,_,_,h2⟩
 rw[hs]at h1
 injection h1 with e0 h1
 injection h1 with e1
 subst e0 e1
 exact ⟨rfl,h2⟩
def TailEnd (w w':World) (B:Nat) (v:Value) (l:List Int) (a:Nat) (e:Ending):Prop:=w.grownBy w' (some B)∧((e=.returned (.bool false)∧∀k mi m,rdEnd l k mi m (l.drop a)=none)∨(e=.returned (.bool true)∧a+2≤l.length∧WBk w' B #[v,.int .i64 ((a+2:Nat):Int)] 159∧∀k mi m,msgF k mi m=0→rdEnd l k mi m (l.drop a)=some ((k,mi,m),a+2)))
theorem rdEnd_none{l:List Int}{k mi:Int}{m:Mx}{a:Nat}{b0 b1:Int}(h0:l[a]?=some b0)(h1:l[a+1]?=some b1)(hs:sumsG 0 0 (l.take a)≠[b0,b1]):rdEnd l k mi m (l.drop a)=none:=by
 by_cases h:msgF k mi m=0
 ·rw[rdEnd_at h h0 h1,if_neg hs]
 ·exact rdEnd_bad h
set_option maxHeartbeats 16000000 in
set_option maxRecDepth 100000 in
theorem wtail_any(v:Value)(l:List Int)(B a:Nat)(xa:Int)(w0 w:World)(hv:IsBys w0 v l)(h0:Below w0.heap.size w0 w)(hB:WBk w B #[v,.int .i64 xa] 159)(hxa:xa=(a:Int))(ha:a≤l.length):Calls Tryz.prog 69 #[.pointer (some ⟨B,0,none⟩)] w (fun e w'=>TailEnd w w' B v l a e):=by
 have hvw:=hv.u_ h0
 have hlen:=hv.len
 unfold maxLen at hlen
 obtain ⟨va,vn,vk,rfl⟩:∃a n k,v=.slice a n k:=by obtain ⟨a,k,h⟩:=hv.shape;exact ⟨a,_,k,h⟩
 obtain ⟨ra,rn,rk,hsl,hri⟩:=by_l hvw a xa hxa ha
 obtain ⟨pa,pn,pk,hsh,hpi⟩:=by_h hvw a xa hxa ha
 have HTL:=h_ (show rn=l.length - a by obtain ⟨_,_,e,_⟩:=hri;injection e with _ e2;rw[e2,List.length_drop])
 have c0:=hB.c (i:=0) rfl
 have c1:=hB.c (i:=1) rfl
 have hx0:0≤xa:=by omega
 obtain ⟨wd,hwd⟩:=gM (w.drew)
 have HRI:=h_ (show IsBys wd (.slice ra rn rk) (l.drop a) by rw[hwd];exact hri)
 have HPI:=h_ (show IsBys wd (.slice pa pn pk) (l.take a) by rw[hwd];exact hpi)
 have HBD:=h_ (show WBk wd B #[.slice va vn vk,.int .i64 xa] 159 by rw[hwd];exact hB)
 have HGD:=h_ (show w.grownBy wd (some B) by rw[hwd];exact ⟨rfl,rfl,rfl,Nat.le_refl _,fun _ _ _=>rfl⟩)
 have HWD:=h_ hwd
 have HXA:=h_ hxa
 have HA:=h_ ha
 have HLN:=h_ hlen
 clear hv h0 hB hri hpi hvw hwd hxa ha hlen
 by_cases c2:rn<2
 ·have HNO:=h_ (show ∀k mi m,rdEnd l k mi m (l.drop a)=none from fun k mi m=>rdEnd_short (by rw[List.length_drop,←HTL.out];exact c2))
  have c2':(rn:Int)<2:=by omega
  go_enter Tryz.func69,Tryz.ntmps69
  go_wp2
  go_region
  go_wp2
  go_region
  go_wp2
  go_ret
  exact ⟨⟨rfl,rfl,rfl,Nat.le_refl _,fun _ _ _=>rfl⟩,.inl ⟨rfl,HNO.out⟩⟩
 ·have hl2:a+2≤l.length:=by have:=HTL.out;omega
  have c2':¬(rn:Int)<2:=by omega
  obtain ⟨b0,hb0⟩:∃d,l[a]?=some d:=⟨_,List.getElem?_eq_getElem (by omega)⟩
  obtain ⟨b1,hb1⟩:∃d,l[a+1]?=some d:=⟨_,List.getElem?_eq_getElem (by omega)⟩
  obtain ⟨s0,s1,hsu⟩:=pair_of (sumsG_len 0 0 (l.take a))
  obtain ⟨_,_,er,_,_,hby,hcs⟩:=HRI.out
  injection er with er1 er2 er3
  subst er1 er3
  obtain ⟨rb,ro,hra,hcc⟩:=hcs.resolve_left (fun e=>by have:=congrArg List.length e;rw[List.length_drop]at this;simp at this;omega)
  subst hra
  have q0:wd.cell? ⟨rb,ro,none⟩=some (.int .u8 b0):=hcc 0 b0 (by rw[List.getElem?_drop,Nat.add_zero];exact hb0)
  have q1:wd.cell? ⟨rb,ro+1,none⟩=some (.int .u8 b1):=hcc 1 b1 (by rw[List.getElem?_drop];exact hb1)
  have HCE:=h_ (show ∀W',Below wd.heap.size wd W'→W'.cell? ⟨rb,ro,none⟩=some (.int .u8 b0)∧W'.cell? ⟨rb,ro+1,none⟩=some (.int .u8 b1) from fun W' hb=>⟨c_ hb q0,c_ hb q1⟩)
  have HSU:=h_ (show ∀W',Below wd.heap.size wd W'→_ from fun W' hb=>wsums_at HPI.out hsu W' hb)
  have HSE:=h_ hsu
  have HB01:=h_ (And.intro hb0 hb1)
  have HL2:=h_ hl2
  clear hby hcs hcc er2 hb0 hb1 hsu q0 q1 hl2
  go_enter Tryz.func69,Tryz.ntmps69
  go_wp2
  go_region
  rw[←HWD.out]
  go_wp2
  obtain ⟨q,hq⟩:=gN (decide (s0=b0∧s1=b1))
  have HQ:=h_ hq
  have heq:=eq_two s0 s1 b0 b1
  rw[hq]at heq
  have hdec:decide ((rn:Int)<2)=false:=by simp;omega
  have k0:(0:Int)<(rn:Int):=by omega
  have k1:(1:Int)<(rn:Int):=by omega
  have k2:0<rn:=by omega
  have k3:1<rn:=by omega
  clear hq
  go_cut [37] from 23 to 37 (fun c wx=>c=.bool (!q)∧Below wd.heap.size wd wx)
  case first=>
   obtain ⟨lm1,lm2⟩:=HCE.out wd (Below.refl _ _)
   go_region_held3 (fun W'=>W'.cell? ⟨rb,ro,none⟩=some (.int .u8 b0)∧W'.cell? ⟨rb,ro+1,none⟩=some (.int .u8 b1))
    ((refine HCE.out _ ?_;repeat' (first|with_reducible exact Below.refl _ _|with_reducible refine wy_drew ?_|with_reducible refine wy_go ?_ hbz)))
    ((go_at_call 67;refine (HSU.out _ (by repeat' (first|with_reducible exact Below.refl _ _|with_reducible refine wy_drew ?_))).mono ?_;rintro e wz ⟨rfl,hbz⟩))
   all_goals go_wp2
   all_goals go_meet
   all_goals
    refine ⟨rfl,?_⟩
    repeat' (first|with_reducible exact Below.refl _ _|with_reducible refine wy_drew ?_|with_reducible refine wy_go ?_ hbz)
  case rest=>
   obtain ⟨rfl,hbc⟩:=hcut
   have HBC:=h_ hbc
   have HKC:=h_ (HBD.out.kept hbc)
   have HGC:=h_ (grw_bel HGD.out hbc (HGD.out.size))
   have d0:=HKC.out.c (i:=1) rfl
   have d1:=HKC.out.f 1
   clear hbc
   cases q with
   |true=>
    have HE:=h_ (show sumsG 0 0 (l.take a)=[b0,b1] by have h:=HQ.out;rw[decide_eq_true_iff]at h;rw[HSE.out,h.1,h.2])
    have HAX:=h_ (show xa+2=((a+2:Nat):Int) by have:=HXA.out;omega)
    have hxb:xa+2≤9223372036854775807:=by have:=HL2.out;have:=HXA.out;have:=HLN.out;omega
    have HF:=h_ (HKC.out.set 1 (.int .i64 (xa+2)))
    go_wp2
    go_ret
    refine ⟨grw_trans HGC.out (grw_set _ B 1 _) (fun k e=>.inr (Option.some.inj e).symm),.inr ⟨rfl,HL2.out,?_,fun k mi m hm=>?_⟩⟩
    ·rw[←HAX.out];exact HF.out
    ·rw[rdEnd_at hm HB01.out.1 HB01.out.2,if_pos HE.out]
   |false=>
    have HE:=h_ (show sumsG 0 0 (l.take a)≠[b0,b1] by
     have h:=HQ.out
     rw[decide_eq_false_iff_not]at h
     rw[HSE.out]
     intro e
     injection e with e1 e2
     injection e2 with e2
     exact h ⟨e1,e2⟩)
    go_wp2
    go_ret
    exact ⟨HGC.out,.inl ⟨rfl,fun k mi m=>rdEnd_none HB01.out.1 HB01.out.2 HE.out⟩⟩
theorem DecEnd.mk_no{w w':World}{l:List Int}(hr:rdMsg l=none)(hb:Below w.heap.size w w'):DecEnd w w' l (.returned (.tuple #[.agg #[.int .i64 0,.int .i64 0,.int .i64 0,.int .i64 0,.slice none 0 0],.int .i64 0,.iface 94 (.int .i64 7)])):=by
 refine ⟨.agg #[.int .i64 0,.int .i64 0,.int .i64 0,.int .i64 0,.slice none 0 0],0,?_,hb,?_⟩
 ·rw[decE_no hr,n_ (by decide)]
 ·rw[hr];exact ⟨⟨_,rfl,I_.nil _⟩,rfl⟩
theorem DecEnd.mk_yes{w w':World}{l:List Int}{k mi j:Int}{b:Mx}{c:Nat}{s:Value}(hr:rdMsg l=some ((k,mi,b),c))(hb:Below w.heap.size w w')(hs:I_ w' s b.cells)(hn:NilOk s)(hj:j=(c:Int)):DecEnd w w' l (.returned (.tuple #[.agg #[.int .i64 k,.int .i64 mi,.int .i64 b.rows,.int .i64 b.cols,s],.int .i64 j,.nilIface])):=by
 refine ⟨.agg #[.int .i64 k,.int .i64 mi,.int .i64 b.rows,.int .i64 b.cols,s],j,?_,hb,?_⟩
 ·rw[decE_yes hr,e_ rfl]
 ·rw[hr]
  refine ⟨⟨_,rfl,hs⟩,hj,fun a0 a1 a2 a3 t e=>?_⟩
  simp at e
  rw[←e.2.2.2.2]
  exact hn
set_option maxHeartbeats 16000000 in
set_option maxRecDepth 100000 in
theorem wdec_any(v:Value)(l:List Int)(w:World)(hv:IsBys w v l):Calls Tryz.prog 36 #[v] w (fun e w'=>DecEnd w w' l e):=by
 obtain ⟨va,vn,vk,rfl⟩:∃a n k,v=.slice a n k:=by obtain ⟨a,k,h⟩:=hv.shape;exact ⟨a,_,k,h⟩
 obtain ⟨W1,hW1⟩:=gM (w.alloc (.cells #[.int .i64 0,.int .i64 0,.int .i64 0,.int .i64 0,.slice none 0 0] 63))
 obtain ⟨W2,hW2⟩:=gM (W1.alloc (.cells #[.slice va vn vk,.int .i64 0] 159))
 have HW1:=h_ hW1
 have HW2:=h_ hW2
 have HS1:=h_ (show W1.heap.size=w.heap.size+1 by rw[hW1,World.size_alloc])
 have HS2:=h_ (show W2.heap.size=w.heap.size+2 by rw[hW2,World.size_alloc,HS1.out])
 have HR2:=h_ (show WBk W2 w.heap.size #[.int .i64 0,.int .i64 0,.int .i64 0,.int .i64 0,.slice none 0 0] 63 by
  rw[hW2]
  refine WBk.kept ?_ (o_ _ _)
  rw[hW1]
  exact WBk.new _ _ _)
 have HB2:=h_ (show WBk W2 (w.heap.size+1) #[.slice va vn vk,.int .i64 0] 159 by rw[←HS1.out,hW2];exact WBk.new _ _ _)
 have HL2:=h_ (show Below w.heap.size w W2 by rw[hW2];exact bel_on (by rw[hW1];exact o_ _ _) (o_ _ _))
 have HME:=h_ (wmessage_any _ l (w.heap.size+1) w W2 hv HL2.out (Nat.le_succ _) HB2.out)
 have HV:=h_ hv
 clear hv hW1 hW2
 go_enter Tryz.func36,Tryz.ntmps36
 go_wp2_with fail
 rw[←HW1.out,←HW2.out]
 refine HME.out.mono ?_
 intro e w3 hme
 obtain ⟨hg3,hme⟩:=hme
 have HG3:=h_ hg3
 have HR3:=h_ (show WBk w3 w.heap.size #[.int .i64 0,.int .i64 0,.int .i64 0,.int .i64 0,.slice none 0 0] 63 from (hg3.block _ HR2.out.lt (fun e=>by have:=Option.some.inj e;omega)).trans HR2.out)
 have HL3:=h_ (show Below w.heap.size w w3 from HL2.out.grown hg3 HL2.out.size (fun k e=>by rw[←Option.some.inj e];exact Nat.le_succ _))
 clear hg3
 rcases hme with ⟨rfl,hno⟩|⟨k,mi,b,s,a,rfl,hs,ha,hk3,hrd⟩
 ·have HNO:=h_ hno
  have HRM:=h_ (HR3.out.kept (o_ w3 (.cells #[.int .i64 0,.int .i64 0,.int .i64 0,.int .i64 0,.slice none 0 0] 63)))
  have HLM:=h_ (bel_on HL3.out (o_ w3 (.cells #[.int .i64 0,.int .i64 0,.int .i64 0,.int .i64 0,.slice none 0 0] 63)))
  obtain ⟨z0,z1,z2,z3,z4⟩:=HRM.out.f5
  obtain ⟨y0,y1,y2,y3,y4⟩:=HRM.out.c5
  have HF:=h_ (bk5 HRM.out (.int .i64 0) (.int .i64 0) (.int .i64 0) (.int .i64 0) (.slice none 0 0))
  obtain ⟨q0,q1,q2,q3,q4⟩:=HF.out.c5
  clear hno
  go_wp2_with fail
  exact bodyPost_ret (v:=.tuple #[.agg #[.int .i64 0,.int .i64 0,.int .i64 0,.int .i64 0,.slice none 0 0],.int .i64 0,.iface 94 (.int .i64 7)]) (by simp[results,Tryz.results36,go_sem,q0,q1,q2,q3,q4]) rfl (DecEnd.mk_no HNO.out (HLM.out.grown (grw5 _ _ _ _ _ _ _) HLM.out.size (fun k e=>by rw[Option.some.inj e];exact Nat.le_refl _)))
 ·obtain ⟨sa,sk,hse⟩:=hs.shape
  obtain ⟨sn,hsn⟩:=gN (b.cells.length)
  rw[hsn]at hse
  subst hse
  obtain ⟨r,hr⟩:=gN (b.rows)
  obtain ⟨c,hc⟩:=gN (b.cols)
  rw[hr,hc]
  have HRC:=h_ (And.intro hr hc)
  have HSZ:=h_ hs
  have HAL:=h_ ha
  have HRD:=h_ hrd
  have HRM:=h_ (HR3.out.kept (o_ w3 (.cells #[.int .i64 k,.int .i64 mi,.int .i64 r,.int .i64 c,.slice sa sn sk] 63)))
  have HLM:=h_ (bel_on HL3.out (o_ w3 (.cells #[.int .i64 k,.int .i64 mi,.int .i64 r,.int .i64 c,.slice sa sn sk] 63)))
  have HKM:=h_ (hk3.kept (o_ w3 (.cells #[.int .i64 k,.int .i64 mi,.int .i64 r,.int .i64 c,.slice sa sn sk] 63)))
  have HMM:=h_ (WBk.new w3 #[.int .i64 k,.int .i64 mi,.int .i64 r,.int .i64 c,.slice sa sn sk] 63)
  have HSM:=h_ (hs.u_ (o_ w3 (.cells #[.int .i64 k,.int .i64 mi,.int .i64 r,.int .i64 c,.slice sa sn sk] 63)))
  have HTA:=h_ (wtail_any _ l (w.heap.size+1) a (a:Int) w _ HV.out HLM.out HKM.out rfl ha)
  have HBW:=h_ (show w.heap.size+1<W2.heap.size by rw[HS2.out];omega)
  have HW3:=h_ (show w.heap.size+1<w3.heap.size from Nat.lt_of_lt_of_le HBW.out HG3.out.size)
  clear hsn hr hc hs ha hk3 hrd
  go_wp2_with fail
  refine HTA.out.mono ?_
  intro e w4 hta
  obtain ⟨hg4,hta⟩:=hta
  have HG4:=h_ hg4
  have HL4:=h_ (show Below w.heap.size w w4 from HLM.out.grown hg4 HLM.out.size (fun k e=>by rw[←Option.some.inj e];exact Nat.le_succ _))
  have HR4:=h_ (show WBk w4 w.heap.size #[.int .i64 0,.int .i64 0,.int .i64 0,.int .i64 0,.slice none 0 0] 63 from (hg4.block _ HRM.out.lt (fun e=>by have:=Option.some.inj e;omega)).trans HRM.out)
  have HM4:=h_ (show WBk w4 w3.heap.size #[.int .i64 k,.int .i64 mi,.int .i64 r,.int .i64 c,.slice sa sn sk] 63 from (hg4.block _ HMM.out.lt (fun e=>by have:=Option.some.inj e;have:=HW3.out;omega)).trans HMM.out)
  have HS4:=h_ (show OwnZ w4 W2.heap.size (.slice sa sn sk) b.cells from HSM.out.keptB hg4 HBW.out)
  clear hg4
  rcases hta with ⟨rfl,hno⟩|⟨rfl,hl2,hk4,hyes⟩
  ·have HNO:=h_ (show rdMsg l=none by rw[HRD.out];exact hno _ _ _)
   obtain ⟨z0,z1,z2,z3,z4⟩:=HR4.out.f5
   obtain ⟨y0,y1,y2,y3,y4⟩:=HR4.out.c5
   have HF:=h_ (bk5 HR4.out (.int .i64 0) (.int .i64 0) (.int .i64 0) (.int .i64 0) (.slice none 0 0))
   obtain ⟨q0,q1,q2,q3,q4⟩:=HF.out.c5
   clear hno
   go_wp2_with fail
   exact bodyPost_ret (v:=.tuple #[.agg #[.int .i64 0,.int .i64 0,.int .i64 0,.int .i64 0,.slice none 0 0],.int .i64 0,.iface 94 (.int .i64 7)]) (by simp[results,Tryz.results36,go_sem,q0,q1,q2,q3,q4]) rfl (DecEnd.mk_no HNO.out (HL4.out.grown (grw5 _ _ _ _ _ _ _) HL4.out.size (fun k e=>by rw[Option.some.inj e];exact Nat.le_refl _)))
  ·have HYES:=h_ hyes
   have HK4:=h_ hk4
   have HL2:=h_ hl2
   obtain ⟨m0,m1,m2,m3,m4⟩:=HM4.out.c5
   have HCH:=h_ (wchk_any (.agg #[.int .i64 k,.int .i64 mi,.int .i64 r,.int .i64 c,.slice sa sn sk]) k mi b w4 ⟨_,by rw[HRC.out.1,HRC.out.2],HS4.out.isInts⟩)
   clear hyes hk4 hl2
   go_wp2_with fail
   refine HCH.out.mono ?_
   rintro e w5 ⟨rfl,hb5⟩
   have HB5:=h_ hb5
   have HR5:=h_ (HR4.out.kept hb5)
   have HM5:=h_ (HM4.out.kept hb5)
   have HK5:=h_ (HK4.out.kept hb5)
   have HS5:=h_ (HS4.out.u_ hb5)
   have HL5:=h_ (bel_on HL4.out hb5)
   clear hb5 m0 m1 m2 m3 m4
   by_cases hm:msgF k mi b=0
   ·rw[hm,e_ rfl]
    have HYE:=h_ (show rdMsg l=some ((k,mi,b),a+2) by rw[HRD.out];exact HYES.out _ _ _ hm)
    clear hm
    obtain ⟨z0,z1,z2,z3,z4⟩:=HR5.out.f5
    obtain ⟨y0,y1,y2,y3,y4⟩:=HR5.out.c5
    obtain ⟨j,hj⟩:=gN (((a+2:Nat):Int))
    rw[hj]at HK5
    have HJ:=h_ hj
    have HKP:=h_ (show ∀W',w5.grownBy W' (some w.heap.size)→W'.cell? ⟨w3.heap.size,0,none⟩=some (.int .i64 k)∧W'.cell? ⟨w3.heap.size,1,none⟩=some (.int .i64 mi)∧W'.cell? ⟨w3.heap.size,2,none⟩=some (.int .i64 r)∧W'.cell? ⟨w3.heap.size,3,none⟩=some (.int .i64 c)∧W'.cell? ⟨w3.heap.size,4,none⟩=some (.slice sa sn sk)∧W'.cell? ⟨w.heap.size+1,1,none⟩=some (.int .i64 j) from fun W' hg=>by
     have h1:WBk W' w3.heap.size _ _:=(hg.block _ HM5.out.lt (fun e=>by have:=Option.some.inj e;have:=HW3.out;omega)).trans HM5.out
     have h2:WBk W' (w.heap.size+1) _ _:=(hg.block _ HK5.out.lt (fun e=>by have:=Option.some.inj e;omega)).trans HK5.out
     exact ⟨h1.c rfl,h1.c rfl,h1.c rfl,h1.c rfl,h1.c rfl,h2.c rfl⟩)
    obtain ⟨m0,m1,m2,m3,m4,d0⟩:=HKP.out w5 ⟨rfl,rfl,rfl,Nat.le_refl _,fun _ _ _=>rfl⟩
    have HF:=h_ (bk5 HR5.out (.int .i64 k) (.int .i64 mi) (.int .i64 r) (.int .i64 c) (.slice sa sn sk))
    obtain ⟨q0,q1,q2,q3,q4⟩:=HF.out.c5
    have HGF:=h_ (grw5 w5 w.heap.size (.int .i64 k) (.int .i64 mi) (.int .i64 r) (.int .i64 c) (.slice sa sn sk))
    have HG0:=h_ (show w5.grownBy w5.drew (some w.heap.size) from ⟨rfl,rfl,rfl,Nat.le_refl _,fun _ _ _=>rfl⟩)
    have HG1:=h_ (show w5.grownBy w5 (some w.heap.size) from ⟨rfl,rfl,rfl,Nat.le_refl _,fun _ _ _=>rfl⟩)
    clear hj
    go_wp2
    go_region_held3 (fun W'=>W'.cell? ⟨w3.heap.size,0,none⟩=some (.int .i64 k)∧W'.cell? ⟨w3.heap.size,1,none⟩=some (.int .i64 mi)∧W'.cell? ⟨w3.heap.size,2,none⟩=some (.int .i64 r)∧W'.cell? ⟨w3.heap.size,3,none⟩=some (.int .i64 c)∧W'.cell? ⟨w3.heap.size,4,none⟩=some (.slice sa sn sk)∧W'.cell? ⟨w.heap.size+1,1,none⟩=some (.int .i64 j))
     ((refine HKP.out _ ?_;first|with_reducible exact grown_drew HGF.out|with_reducible exact HGF.out|with_reducible exact HG0.out|with_reducible exact HG1.out))
     (fail)
    go_wp2
    refine bodyPost_ret (v:=.tuple #[.agg #[.int .i64 k,.int .i64 mi,.int .i64 r,.int .i64 c,.slice sa sn sk],.int .i64 j,.nilIface]) (by simp[results,Tryz.results36,go_sem,q0,q1,q2,q3,q4]) rfl ?_
    rw[←HRC.out.1,←HRC.out.2]
    refine DecEnd.mk_yes HYE.out ?_ ?_ ?_ HJ.out.symm
    ·rw[HRC.out.1,HRC.out.2];exact (HL5.out.grown HGF.out HL5.out.size (fun k e=>by rw[Option.some.inj e];exact Nat.le_refl _)).drew
    ·rw[HRC.out.1,HRC.out.2];exact (HS5.out.keptB HGF.out (by have:=HBW.out;omega)).isInts
    ·exact HS5.out.nilOk
   ·have HNO:=h_ (show rdMsg l=none by rw[HRD.out];exact rdEnd_bad hm)
    rw[n_ hm]
    obtain ⟨z0,z1,z2,z3,z4⟩:=HR5.out.f5
    obtain ⟨y0,y1,y2,y3,y4⟩:=HR5.out.c5
    have HF:=h_ (bk5 HR5.out (.int .i64 0) (.int .i64 0) (.int .i64 0) (.int .i64 0) (.slice none 0 0))
    obtain ⟨q0,q1,q2,q3,q4⟩:=HF.out.c5
    clear hm
    go_wp2_with fail
    exact bodyPost_ret (v:=.tuple #[.agg #[.int .i64 0,.int .i64 0,.int .i64 0,.int .i64 0,.slice none 0 0],.int .i64 0,.iface 94 (.int .i64 7)]) (by simp[results,Tryz.results36,go_sem,q0,q1,q2,q3,q4]) rfl (DecEnd.mk_no HNO.out (HL5.out.grown (grw5 _ _ _ _ _ _ _) HL5.out.size (fun k e=>by rw[Option.some.inj e];exact Nat.le_refl _)))
end Go.Proofs.YtniloklglpchfakGreat
