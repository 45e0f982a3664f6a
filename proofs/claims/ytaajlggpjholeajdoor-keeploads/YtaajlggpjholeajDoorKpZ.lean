/- What Load of package keep comes to. -/
import Derived.Test.YtaajlggpjholeajDoorKpY
import Derived.Test.YtaajlggpjholeajDoorTrC1
namespace Go.Proofs.YtaajlggpjholeajDoor
open Go.RowKit
def KlEnd (w w':World) (l:List Int) (e:Ending):Prop:=Below w.heap.size w w'∧match rdK l with
 |none=>e=.returned (.tuple #[.agg #[.slice none 0 0,.slice none 0 0,.int .i64 0],.iface 33 (.int .i64 7)])
 |some (n,xs)=>∃o t,e=.returned (.tuple #[.agg #[o,t,.int .i64 n],.nilIface])∧Y_ w' o (xs.map (·.1))∧D_ w' t (xs.map (·.2))
theorem KlEnd.mk_no{w w':World}{l:List Int}(hb:Below w.heap.size w w')(h:rdK l=none):KlEnd w w' l (.returned (.tuple #[.agg #[.slice none 0 0,.slice none 0 0,.int .i64 0],.iface 33 (.int .i64 7)])):=⟨hb,by rw[h]⟩
theorem KlEnd.mk_yes{w w':World}{l:List Int}{o t:Value}{n:Int}{xs:List (Ly×(Mx×Mx))}(hb:Below w.heap.size w w')(h:rdK l=some (n,xs))(ho:Y_ w' o (xs.map (·.1)))(ht:D_ w' t (xs.map (·.2))):KlEnd w w' l (.returned (.tuple #[.agg #[o,t,.int .i64 n],.nilIface])):=⟨hb,by rw[h];exact ⟨o,t,rfl,ho,ht⟩⟩
set_option maxHeartbeats 16000000 in
set_option maxRecDepth 100000 in
theorem kload_any(v:Value)(l:List Int)(w:World)(hv:IsBys w v l):Calls Tryd.prog 11 #[v] w (fun e w'=>KlEnd w w' l e):=by
 obtain ⟨va,vn,vk,rfl⟩:∃a n k,v=.slice a n k:=by obtain ⟨a,k,h⟩:=hv.shape;exact ⟨a,_,k,h⟩
 obtain ⟨W0,hW0⟩:=gM (w.alloc (.cells #[.slice none 0 0,.slice none 0 0,.int .i64 0] 26))
 obtain ⟨W1,hW1⟩:=gM (W0.alloc (.cells #[.slice va vn vk,.int .i64 0,.nilIface] 63))
 have HS0:=h_ (show W0.heap.size=w.heap.size+1 by rw[hW0,World.size_alloc])
 have HS1:=h_ (show W1.heap.size=w.heap.size+2 by rw[hW1,World.size_alloc,HS0.out])
 have HW1:=h_ (show W1=(w.alloc (.cells #[.slice none 0 0,.slice none 0 0,.int .i64 0] 26)).alloc (.cells #[.slice va vn vk,.int .i64 0,.nilIface] 63) by rw[hW1,hW0])
 have HB1:=h_ (show Below w.heap.size w W1 by rw[hW1,hW0];exact bel_on (o_ _ _) (o_ _ _))
 have HR1:=h_ (show WBk W1 w.heap.size #[.slice none 0 0,.slice none 0 0,.int .i64 0] 26 by rw[hW1,hW0];exact (WBk.new _ _ _).kept (o_ _ _))
 have HK1:=h_ (show WBk W1 (w.heap.size+1) #[.slice va vn vk,.int .i64 0,.nilIface] 63 by rw[←HS0.out,hW1];exact WBk.new _ _ _)
 have HC:=h_ (kstate_any (.slice va vn vk) l (w.heap.size+1) w W1 hv HB1.out (Nat.le_succ _) HK1.out)
 clear hv hW1 hW0
 go_enter Tryd.func11,Tryd.ntmps11
 go_wp2_with fail
 rw[←HW1.out]
 refine HC.out.mono ?_
 rintro e w2 ⟨o,t,n,L,D,st,rfl,⟨base,hbs,hls⟩,hk,hg,hm⟩
 have ho:=hls.lys rfl
 have ht:=hls.gds rfl
 have HRB:=h_ (show w.heap.size<base by have:=HS1.out;omega)
 obtain ⟨oa,oc,rfl,_,_⟩:=id ho.shape
 obtain ⟨ta,tc,rfl,_,_⟩:=id ht.shape
 obtain ⟨on,hon⟩:=gN (L.length)
 obtain ⟨tn,htn⟩:=gN (D.length)
 rw[hon]at ho hls ⊢
 rw[htn]at ht hls ⊢
 obtain ⟨W3,hW3⟩:=gM (w2.alloc (.cells #[.slice oa on oc,.slice ta tn tc,.int .i64 n] 26))
 have HW3:=h_ hW3
 have HB23:=h_ (show Below w2.heap.size w2 W3 by rw[hW3];exact o_ _ _)
 have HS3:=h_ (show WBk W3 w2.heap.size #[.slice oa on oc,.slice ta tn tc,.int .i64 n] 26 by rw[hW3];exact WBk.new _ _ _)
 have HR3:=h_ (show WBk W3 w.heap.size #[.slice none 0 0,.slice none 0 0,.int .i64 0] 26 from WBk.kept ((hg.block _ HR1.out.lt (fun e=>by have:=Option.some.inj e;omega)).trans HR1.out) HB23.out)
 have HB3:=h_ (show Below w.heap.size w W3 from bel_on (HB1.out.grown hg HB1.out.size (fun k e=>by rw[←Option.some.inj e];exact Nat.le_succ _)) HB23.out)
 have HLS:=h_ (hls.u_ HB23.out)
 have HLN:=h_ (And.intro hon htn)
 have HO:=h_ (ho.u_ HB23.out)
 have HT:=h_ (ht.u_ HB23.out)
 have HST:=h_ (kstopped_any (.slice va vn vk) l (w.heap.size+1) st W3 (hk.kept HB23.out))
 have HM:=h_ hm
 obtain ⟨y0,y1,y2⟩:=HR3.out.q3
 obtain ⟨z0,z1,z2⟩:=HR3.out.f3
 obtain ⟨s0,s1,s2⟩:=HS3.out.q3
 have HFZ:=h_ (bk3 HR3.out (.slice none 0 0) (.slice none 0 0) (.int .i64 0))
 have HGZ:=h_ (grw3 W3 w.heap.size (.slice none 0 0) (.slice none 0 0) (.int .i64 0))
 clear ho ht hk hg hm hon htn hW3 hls hbs
 cases st with
 |none=>
  have HN:=h_ (show rdK l=none by
   have h:=HM.out
   rw[rdK_F]
   cases hr:rdF l with
   |none=>rfl
   |some p=>obtain ⟨n',xs⟩:=p;rw[hr]at h;exact absurd rfl h.1)
  obtain ⟨q0,q1,q2⟩:=HFZ.out.q3
  go_wp2_with (go_at_call 25;rw[←HW3.out];refine HST.out.mono ?_;rintro e w' ⟨rfl,hw⟩;rw[hw];clear hw w')
  exact bodyPost_ret (v:=.tuple #[.agg #[.slice none 0 0,.slice none 0 0,.int .i64 0],.iface 33 (.int .i64 7)]) (by simp[results,Tryd.results11,go_sem,q0,q1,q2]) rfl (KlEnd.mk_no (HB3.out.grown HGZ.out HB3.out.size (fun k e=>by rw[←Option.some.inj e];exact Nat.le_refl _)) HN.out)
 |some rest=>
  have HCH:=h_ (trcheck_any _ _ L D n W3 HO.out HT.out)
  obtain ⟨c,hc⟩:=gN (stateE L D n)
  rw[hc]at HCH
  have HE:=h_ hc
  obtain ⟨xs,hx⟩:∃xs,rdF l=some (n,xs)∧L=xs.map (·.1)∧D=xs.map (·.2):=by
   have h:=HM.out
   cases hr:rdF l with
   |none=>rw[hr]at h;cases h
   |some p=>obtain ⟨n',xs⟩:=p;rw[hr]at h;obtain ⟨_,rfl,h2,h3⟩:=h;exact ⟨xs,rfl,h2,h3⟩
  have HX:=h_ hx
  have HK:=h_ (show rdK l=if c=0 then some (n,xs) else none by
   rw[rdK_F,HX.out.1]
   show (if stF (n,xs)=0 then some (n,xs) else none)=_
   unfold stF
   dsimp only
   rw[←HX.out.2.1,←HX.out.2.2,HE.out])
  clear hc hx
  by_cases c0:c=0
  ·subst c0
   rw[e_ rfl]at HCH
   have HY:=h_ (show rdK l=some (n,xs) by rw[HK.out,if_pos rfl])
   go_wp2_with (first
    |(go_at_call 25;rw[←HW3.out];refine HST.out.mono ?_;rintro e w' ⟨rfl,hw⟩;rw[hw];clear hw w')
    |(go_at_call 14;refine HCH.out.mono ?_;rintro e w4 ⟨rfl,hb⟩;have HB4:=h_ hb;have HR4:=h_ (HR3.out.kept hb);obtain ⟨g0,g1,g2⟩:=(HS3.out.kept hb).q3;obtain ⟨i0,i1,i2⟩:=HR4.out.q3;obtain ⟨j0,j1,j2⟩:=HR4.out.f3;have HF4:=h_ (bk3 HR4.out (.slice oa on oc) (.slice ta tn tc) (.int .i64 n));have HG4:=h_ (grw3 w4 w.heap.size (.slice oa on oc) (.slice ta tn tc) (.int .i64 n));clear hb))
   obtain ⟨q0,q1,q2⟩:=HF4.out.q3
   have HL5:=h_ ((HLS.out.u_ HB4.out).low HG4.out HRB.out)
   have HB5:=h_ ((bel_on HB3.out HB4.out).grown HG4.out (bel_on HB3.out HB4.out).size (fun k e=>by rw[←Option.some.inj e];exact Nat.le_refl _))
   refine bodyPost_ret (v:=.tuple #[.agg #[.slice oa on oc,.slice ta tn tc,.int .i64 n],.nilIface]) (by simp[results,Tryd.results11,go_sem,q0,q1,q2]) rfl ?_
   have h1:=HL5.out.lys HLN.out.1
   have h2:=HL5.out.gds HLN.out.2
   rw[HX.out.2.1]at h1
   rw[HX.out.2.2]at h2
   exact KlEnd.mk_yes HB5.out HY.out h1 h2
  ·have HN:=h_ (show rdK l=none by rw[HK.out,if_neg c0])
   rw[n_ c0]at HCH
   clear c0
   go_wp2_with (first
    |(go_at_call 25;rw[←HW3.out];refine HST.out.mono ?_;rintro e w' ⟨rfl,hw⟩;rw[hw];clear hw w')
    |(go_at_call 14;refine HCH.out.mono ?_;rintro e w4 ⟨rfl,hb⟩;have HB4:=h_ hb;have HR4:=h_ (HR3.out.kept hb);obtain ⟨i0,i1,i2⟩:=HR4.out.q3;obtain ⟨j0,j1,j2⟩:=HR4.out.f3;have HF4:=h_ (bk3 HR4.out (.slice none 0 0) (.slice none 0 0) (.int .i64 0));have HG4:=h_ (grw3 w4 w.heap.size (.slice none 0 0) (.slice none 0 0) (.int .i64 0));clear hb))
   obtain ⟨q0,q1,q2⟩:=HF4.out.q3
   exact bodyPost_ret (v:=.tuple #[.agg #[.slice none 0 0,.slice none 0 0,.int .i64 0],.iface 33 (.int .i64 7)]) (by simp[results,Tryd.results11,go_sem,q0,q1,q2]) rfl (KlEnd.mk_no ((bel_on HB3.out HB4.out).grown HG4.out (bel_on HB3.out HB4.out).size (fun k e=>by rw[←Option.some.inj e];exact Nat.le_refl _)) HN.out)
end Go.Proofs.YtaajlggpjholeajDoor
