/- What matrix of package keep's reader does. -/
import Derived.Test.YtaajlggpjholeajDoorKpN
namespace Go.Proofs.YtaajlggpjholeajDoor
open Go.RowKit
def RmP (w':World) (base:Nat) (t:List Int) (rv cv:Int) (s y z:Value):Prop:=(rv=0∧cv=0∧s=.slice none 0 0∧y=.int .i64 0∧z=.iface 33 (.int .i64 7)∧rdM t=none)∨∃(m:Mx) (c:Nat),rv=m.rows∧cv=m.cols∧y=.int .i64 (c:Int)∧z=.nilIface∧OwnZ w' base s m.cells∧c≤t.length∧rdM t=some (m,t.drop c)
theorem RmEnd.form{w w':World}{t:List Int}{e:Ending}(h:RmEnd w w' t e):Below w.heap.size w w'∧∃rv cv sa sn sk y z,e=.returned (.tuple #[.agg #[.int .i64 rv,.int .i64 cv,.slice sa sn sk],y,z])∧RmP w' w.heap.size t rv cv (.slice sa sn sk) y z:=by
 refine ⟨h.1,?_⟩
 rcases h.2 with ⟨rfl,hno⟩|⟨m,s,c,rfl,hs,hc,hyes⟩
 ·exact ⟨0,0,none,0,0,_,_,rfl,.inl ⟨rfl,rfl,rfl,rfl,rfl,hno⟩⟩
 ·obtain ⟨sa,sk,rfl⟩:=hs.shape
  exact ⟨m.rows,m.cols,sa,_,sk,_,_,rfl,.inr ⟨m,c,rfl,rfl,rfl,rfl,hs,hc,hyes⟩⟩
theorem RmP.kept{w w':World}{base B:Nat}{t:List Int}{rv cv:Int}{s y z:Value}(h:RmP w base t rv cv s y z)(hg:w.grownBy w' (some B))(hB:B<base):RmP w' base t rv cv s y z:=by
 rcases h with h|⟨m,c,h1,h2,h3,h4,h5,h6⟩
 ·exact .inl h
 ·exact .inr ⟨m,c,h1,h2,h3,h4,h5.keptB hg hB,h6⟩
theorem RmP.base{w:World}{base b:Nat}{t:List Int}{rv cv:Int}{s y z:Value}(h:RmP w base t rv cv s y z)(hb:b≤base):RmP w b t rv cv s y z:=by
 rcases h with h|⟨m,c,h1,h2,h3,h4,h5,h6⟩
 ·exact .inl h
 ·exact .inr ⟨m,c,h1,h2,h3,h4,h5.base hb,h6⟩
theorem RmP.u_{w w':World}{base:Nat}{t:List Int}{rv cv:Int}{s y z:Value}(h:RmP w base t rv cv s y z)(hb:Below w.heap.size w w'):RmP w' base t rv cv s y z:=by
 rcases h with h|⟨m,c,h1,h2,h3,h4,h5,h6⟩
 ·exact .inl h
 ·exact .inr ⟨m,c,h1,h2,h3,h4,h5.u_ hb,h6⟩
theorem KRd.other{w:World}{B C:Nat}{v:Value}{l:List Int}{st:Option (List Int)}(h:KRd w B v l st)(hne:B≠C)(j:Nat)(x:Value):KRd (w.setCell ⟨C,j,none⟩ x) B v l st:=by
 obtain ⟨a,ha,h,ht⟩:=h.cells
 exact KRd.of ha (h.other hne x) ht
def MxOut (w':World) (base:Nat) (m:Mx) (e:Ending):Prop:=∃sa sn sk,e=.returned (.agg #[.int .i64 m.rows,.int .i64 m.cols,.slice sa sn sk])∧OwnZ w' base (.slice sa sn sk) m.cells
set_option maxHeartbeats 16000000 in
set_option maxRecDepth 100000 in
theorem knextm_any(v:Value)(l:List Int)(B:Nat)(st:Option (List Int))(w0 w:World)(hv:IsBys w0 v l)(h0:Below w0.heap.size w0 w)(h:KRd w B v l st):Calls Tryd.prog 55 #[.pointer (some ⟨B,0,none⟩),.func (.func 56) #[] #[]] w fun e w'=>MxOut w' w.heap.size (nxM st).1 e∧KRd w' B v l (nxM st).2∧w.grownBy w' (some B):=by
 obtain ⟨V,hV⟩:=gM (w.alloc (.cells #[.int .i64 0,.int .i64 0,.slice none 0 0] 51))
 have HVW:=h_ hV
 have HBV:=h_ (show Below w.heap.size w V by rw[hV];exact o_ _ _)
 have HVS:=h_ (show V.heap.size=w.heap.size+1 by rw[hV,World.size_alloc])
 have HR:=h_ (show WBk V w.heap.size #[.int .i64 0,.int .i64 0,.slice none 0 0] 51 by rw[hV];exact WBk.new _ _ _)
 have HLT:=h_ h.lt
 have HKV:=h_ (h.kept HBV.out)
 have HST:=h_ (kstopped_any v l B st V HKV.out)
 have hBw:¬B=w.heap.size:=by have:=h.lt;omega
 have hwB:¬w.heap.size=B:=by have:=h.lt;omega
 cases st with
 |none=>
  have HG:=h_ (show w.grownBy V (some B) by rw[hV];exact World.grownBy_alloc _ _ _)
  obtain ⟨V2,hV2⟩:=gM (V.alloc (.cells #[.int .i64 0,.int .i64 0,.slice none 0 0] 51))
  have HV2:=h_ hV2
  have HR2:=h_ (show WBk V2 w.heap.size #[.int .i64 0,.int .i64 0,.slice none 0 0] 51 by rw[hV2];exact HR.out.kept (o_ _ _))
  have HN2:=h_ (show WBk V2 V.heap.size #[.int .i64 0,.int .i64 0,.slice none 0 0] 51 by rw[hV2];exact WBk.new _ _ _)
  have HG2:=h_ (show w.grownBy V2 (some B) by rw[hV2];exact grw_trans HG.out (World.grownBy_alloc _ _ none) (fun k e=>by cases e))
  have HK2:=h_ (show KRd V2 B v l none by rw[hV2];exact HKV.out.kept (o_ _ _))
  obtain ⟨y0,y1,y2⟩:=HR2.out.q3
  obtain ⟨z0,z1,z2⟩:=HR2.out.f3
  have HF:=h_ (bk3 HR2.out (.int .i64 0) (.int .i64 0) (.slice none 0 0))
  obtain ⟨q0,q1,q2⟩:=HF.out.q3
  have HGF:=h_ (grw3 V2 w.heap.size (.int .i64 0) (.int .i64 0) (.slice none 0 0))
  have HKF:=h_ (HK2.out.other (show B≠w.heap.size from hBw) 0 (.int .i64 0)|>.other (show B≠w.heap.size from hBw) 1 (.int .i64 0)|>.other (show B≠w.heap.size from hBw) 2 (.slice none 0 0))
  rw[HV2.out]at y0 y1 y2 z0 z1 z2 q0 q1 q2 HGF HKF HG2
  clear h hv h0 hV hV2
  go_enter Tryd.func55,Tryd.ntmps55
  go_wp2_with (go_at_call 25;rw[←HVW.out];refine HST.out.mono ?_;rintro e w' ⟨rfl,hw⟩;rw[hw];clear hw w')
  exact bodyPost_ret (v:=.agg #[.int .i64 0,.int .i64 0,.slice none 0 0]) (by simp[results,Tryd.results55,go_sem,q0,q1,q2]) rfl ⟨⟨none,0,0,rfl,World.ownsRow_nil _ _ _ _⟩,HKF.out,grw_trans HG2.out HGF.out (fun k e=>.inl (by rw[←Option.some.inj e];exact Nat.le_refl _))⟩
 |some t=>
  obtain ⟨a,ha,hk,ht⟩:=HKV.out.cells
  replace ht:=ht t rfl
  have hk:WBk V B #[v,.int .i64 (a:Int),.nilIface] 63:=hk
  have hvw:=(hv.u_ h0).u_ HBV.out
  obtain ⟨va,vn,vk,rfl⟩:∃a n k,v=.slice a n k:=by obtain ⟨a,k,h⟩:=hv.shape;exact ⟨a,_,k,h⟩
  have hlen:=hv.len
  unfold maxLen at hlen
  obtain ⟨xa,hxa⟩:=gM ((a:Int))
  obtain ⟨ra,rn,rk,hsl,hri⟩:=by_l hvw a xa hxa ha
  rw[←ht]at hri
  rw[←hxa]at hk
  have HK:=h_ hk
  have HC:=h_ (fun W (hb:Below V.heap.size V W)=>(wreadmat_any (.slice ra rn rk) t W (hri.u_ hb)).mono (fun e W h=>h.form))
  have c0:V.cell? ⟨B,0,none⟩=some (.slice va vn vk):=hk.c rfl
  have c1:V.cell? ⟨B,1,none⟩=some (.int .i64 xa):=hk.c rfl
  have hx0:0≤xa:=by omega
  have hx1:xa≤9223372036854775807:=by omega
  have HLX:=h_ (show (l.length:Int)≤9223372036854775807 by omega)
  have HA:=h_ (And.intro hxa (And.intro ha ht))
  have HLN:=h_ (show t.length=l.length - a by rw[ht,List.length_drop])
  have HCE:=h_ (show ∀W',Below V.heap.size V W'→W'.cell? ⟨B,0,none⟩=some (.slice va vn vk)∧W'.cell? ⟨B,1,none⟩=some (.int .i64 xa) from fun W' hb=>⟨HK.out.kept hb|>.c rfl,HK.out.kept hb|>.c rfl⟩)
  have HBE:=h_ (show Below V.heap.size V (V.alloc (.cells #[.int .i64 0,.int .i64 0,.slice none 0 0] 51)).drew from r_ (o_ _ _))
  have HBD:=h_ (show Below V.heap.size V V.drew from r_ (Below.refl _ _))
  have HZE:=h_ (show WBk (V.alloc (.cells #[.int .i64 0,.int .i64 0,.slice none 0 0] 51)).drew V.heap.size #[.int .i64 0,.int .i64 0,.slice none 0 0] 51 from WBk.new V _ _)
  clear h hv h0 hk ha hxa hri hvw hlen ht hV
  go_enter Tryd.func55,Tryd.ntmps55
  go_wp2_with (go_at_call 25;rw[←HVW.out];refine HST.out.mono ?_;rintro e w' ⟨rfl,hw⟩;rw[hw];clear hw w')
  go_cut [6,7,8] from 13 to 26 (fun x y z wx=>∃C rv cv sa sn sk,x=.pointer (some ⟨C,0,none⟩)∧V.heap.size≤C∧WBk wx C #[.int .i64 rv,.int .i64 cv,.slice sa sn sk] 51∧Below V.heap.size V wx∧RmP wx V.heap.size t rv cv (.slice sa sn sk) y z)
  case first=>
   go_region_held3 (fun W'=>W'.cell? ⟨B,0,none⟩=some (.slice va vn vk)∧W'.cell? ⟨B,1,none⟩=some (.int .i64 xa))
    ((refine HCE.out _ ?_;repeat' (first|with_reducible exact Below.refl _ _|with_reducible refine d_ ?_|with_reducible refine a_ ?_|with_reducible exact HWZ.out|with_reducible refine below_sets ?_ (Nat.le_refl _) _ _)))
    ((first
     |(go_at_call 56;refine (HC.out _ HBE.out).mono ?_;rintro e wz ⟨hbz,rv,cv,sa,sn,sk,y,z,rfl,hxyz⟩;have HWZ:=h_ (bel_on HBE.out hbz);have HP:=h_ hxyz;have HZZ:=h_ (HZE.out.kept hbz);obtain ⟨i0,i1,i2⟩:=HZZ.out.q3;obtain ⟨j0,j1,j2⟩:=HZZ.out.f3;clear hbz hxyz)
     |(go_at_call 56;refine (HC.out _ HBD.out).mono ?_;rintro e wz ⟨hbz,rv,cv,sa,sn,sk,y,z,rfl,hxyz⟩;have HWZ:=h_ (bel_on HBD.out hbz);have HP:=h_ hxyz;clear hbz hxyz)))
   ·have HF:=h_ (WBk.new wz #[.int .i64 rv,.int .i64 cv,.slice sa sn sk] 51)
    have HW2:=h_ (show Below V.heap.size V (wz.alloc (.cells #[.int .i64 rv,.int .i64 cv,.slice sa sn sk] 51)) from a_ HWZ.out)
    have HP2:=h_ (show RmP (wz.alloc (.cells #[.int .i64 rv,.int .i64 cv,.slice sa sn sk] 51)) V.heap.size t rv cv (.slice sa sn sk) y z from HP.out.u_ (o_ _ _))
    have HSZ:=h_ HWZ.out.size
    go_wp2
    go_meet
    exact ⟨_,rv,cv,sa,sn,sk,rfl,HSZ.out,HF.out,HW2.out,HP2.out⟩
   ·have HF:=h_ (bk3 HZZ.out (.int .i64 rv) (.int .i64 cv) (.slice sa sn sk))
    have HGF:=h_ (grw3 wz V.heap.size (.int .i64 rv) (.int .i64 cv) (.slice sa sn sk))
    have HW2:=h_ (HWZ.out.grown HGF.out HWZ.out.size (fun k e=>by rw[←Option.some.inj e];exact Nat.le_refl _))
    have HP2:=h_ ((HP.out.kept HGF.out (show V.heap.size<(V.alloc (.cells #[.int .i64 0,.int .i64 0,.slice none 0 0] 51)).heap.size by rw[World.size_alloc];exact Nat.lt_succ_self _)).base (show V.heap.size≤(V.alloc (.cells #[.int .i64 0,.int .i64 0,.slice none 0 0] 51)).heap.size by rw[World.size_alloc];exact Nat.le_succ _))
    go_wp2
    go_meet
    exact ⟨_,rv,cv,sa,sn,sk,rfl,Nat.le_refl _,HF.out,HW2.out,HP2.out⟩
  case rest=>
   obtain ⟨C,rv,cv,sa,sn,sk,rfl,hCl,hCb,hbc,hP⟩:=hcut
   have HP:=h_ hP
   have HB:=h_ hbc
   have HCB:=h_ hCb
   have HKC:=h_ (HK.out.kept hbc)
   have HRC:=h_ (HR.out.kept hbc)
   have d1:wc.cell? ⟨B,1,none⟩=some (.int .i64 xa):=HKC.out.c rfl
   have d2:wc.cell? ⟨B,2,none⟩=some .nilIface:=HKC.out.c rfl
   have f1:=HKC.out.f 1
   have f2:=HKC.out.f 2
   have hBC:B≠C:=by have:=HK.out.lt;omega
   have hRC:w.heap.size≠C:=by have:=HR.out.lt;omega
   have HNE:=h_ (And.intro hBC (And.intro hRC (show B≠w.heap.size from hBw)))
   clear hCb hbc hP
   rcases HP.out with ⟨rfl,rfl,hs,rfl,rfl,hno⟩|⟨m,c,rfl,rfl,rfl,rfl,hs,hc,hyes⟩
   ·obtain ⟨rfl,rfl,rfl⟩:=Value.slice.inj hs
    have HE:=h_ hno
    have HSB:=h_ (show WBk ((wc.setCell ⟨B,1,none⟩ (.int .i64 xa)).setCell ⟨B,2,none⟩ (.iface 33 (.int .i64 7))) B #[.slice va vn vk,.int .i64 xa,.iface 33 (.int .i64 7)] 63 from (HKC.out.set 1 _).set 2 _)
    have HGS:=h_ (show w.grownBy ((wc.setCell ⟨B,1,none⟩ (.int .i64 xa)).setCell ⟨B,2,none⟩ (.iface 33 (.int .i64 7))) (some B) from grow_two (b_ HBV.out HB.out) _ _)
    have HSC:=h_ (show WBk ((wc.setCell ⟨B,1,none⟩ (.int .i64 xa)).setCell ⟨B,2,none⟩ (.iface 33 (.int .i64 7))) C #[.int .i64 0,.int .i64 0,.slice none 0 0] 51 from (HCB.out.other (Ne.symm HNE.out.1) _).other (Ne.symm HNE.out.1) _)
    have HSR:=h_ (show WBk ((wc.setCell ⟨B,1,none⟩ (.int .i64 xa)).setCell ⟨B,2,none⟩ (.iface 33 (.int .i64 7))) w.heap.size #[.int .i64 0,.int .i64 0,.slice none 0 0] 51 from (HRC.out.other (Ne.symm HNE.out.2.2) _).other (Ne.symm HNE.out.2.2) _)
    obtain ⟨e0,e1,e2⟩:=HSC.out.q3
    obtain ⟨y0,y1,y2⟩:=HSR.out.q3
    obtain ⟨z0,z1,z2⟩:=HSR.out.f3
    have HF:=h_ (bk3 HSR.out (.int .i64 0) (.int .i64 0) (.slice none 0 0))
    obtain ⟨q0,q1,q2⟩:=HF.out.q3
    have HGF:=h_ (grw3 ((wc.setCell ⟨B,1,none⟩ (.int .i64 xa)).setCell ⟨B,2,none⟩ (.iface 33 (.int .i64 7))) w.heap.size (.int .i64 0) (.int .i64 0) (.slice none 0 0))
    have HKF:=h_ (show KRd (((((wc.setCell ⟨B,1,none⟩ (.int .i64 xa)).setCell ⟨B,2,none⟩ (.iface 33 (.int .i64 7))).setCell ⟨w.heap.size,0,none⟩ (.int .i64 0)).setCell ⟨w.heap.size,1,none⟩ (.int .i64 0)).setCell ⟨w.heap.size,2,none⟩ (.slice none 0 0)) B (.slice va vn vk) l none from ⟨a,HA.out.2.1,by rw[←HA.out.1];exact ((HSB.out.other HNE.out.2.2 _).other HNE.out.2.2 _).other HNE.out.2.2 _⟩)
    clear hno hs
    go_wp2
    refine bodyPost_ret (v:=.agg #[.int .i64 0,.int .i64 0,.slice none 0 0]) (by simp[results,Tryd.results55,go_sem,q0,q1,q2]) rfl ?_
    rw[nxM_no HE.out]
    exact ⟨⟨none,0,0,rfl,World.ownsRow_nil _ _ _ _⟩,HKF.out,grw_trans HGS.out HGF.out (fun k e=>.inl (by rw[←Option.some.inj e];exact Nat.le_refl _))⟩
   ·have HE:=h_ hyes
    have HS:=h_ hs
    have hcx:xa+(c:Int)≤9223372036854775807:=by have:=HLX.out;have:=HLN.out;have:=HA.out;omega
    obtain ⟨r,hr⟩:=gN (m.rows)
    obtain ⟨d,hd⟩:=gN (m.cols)
    have HRD:=h_ (And.intro hr hd)
    rw[hr,hd]at HCB
    have HSB:=h_ (show WBk ((wc.setCell ⟨B,1,none⟩ (.int .i64 (xa+(c:Int)))).setCell ⟨B,2,none⟩ .nilIface) B #[.slice va vn vk,.int .i64 (xa+(c:Int)),.nilIface] 63 from (HKC.out.set 1 _).set 2 _)
    have HGS:=h_ (show w.grownBy ((wc.setCell ⟨B,1,none⟩ (.int .i64 (xa+(c:Int)))).setCell ⟨B,2,none⟩ .nilIface) (some B) from grow_two (b_ HBV.out HB.out) _ _)
    have HSC:=h_ (show WBk ((wc.setCell ⟨B,1,none⟩ (.int .i64 (xa+(c:Int)))).setCell ⟨B,2,none⟩ .nilIface) C #[.int .i64 r,.int .i64 d,.slice sa sn sk] 51 from (HCB.out.other (Ne.symm HNE.out.1) _).other (Ne.symm HNE.out.1) _)
    have HSR:=h_ (show WBk ((wc.setCell ⟨B,1,none⟩ (.int .i64 (xa+(c:Int)))).setCell ⟨B,2,none⟩ .nilIface) w.heap.size #[.int .i64 0,.int .i64 0,.slice none 0 0] 51 from (HRC.out.other (Ne.symm HNE.out.2.2) _).other (Ne.symm HNE.out.2.2) _)
    have HSS:=h_ (show OwnZ ((wc.setCell ⟨B,1,none⟩ (.int .i64 (xa+(c:Int)))).setCell ⟨B,2,none⟩ .nilIface) V.heap.size (.slice sa sn sk) m.cells from (HS.out.keptB (grw_set wc B 1 _) HK.out.lt).keptB (grw_set _ B 2 _) HK.out.lt)
    obtain ⟨e0,e1,e2⟩:=HSC.out.q3
    obtain ⟨y0,y1,y2⟩:=HSR.out.q3
    obtain ⟨z0,z1,z2⟩:=HSR.out.f3
    have HF:=h_ (bk3 HSR.out (.int .i64 r) (.int .i64 d) (.slice sa sn sk))
    obtain ⟨q0,q1,q2⟩:=HF.out.q3
    have HGF:=h_ (grw3 ((wc.setCell ⟨B,1,none⟩ (.int .i64 (xa+(c:Int)))).setCell ⟨B,2,none⟩ .nilIface) w.heap.size (.int .i64 r) (.int .i64 d) (.slice sa sn sk))
    have HKF:=h_ (show KRd (((((wc.setCell ⟨B,1,none⟩ (.int .i64 (xa+(c:Int)))).setCell ⟨B,2,none⟩ .nilIface).setCell ⟨w.heap.size,0,none⟩ (.int .i64 r)).setCell ⟨w.heap.size,1,none⟩ (.int .i64 d)).setCell ⟨w.heap.size,2,none⟩ (.slice sa sn sk)) B (.slice va vn vk) l (some (t.drop c)) from ⟨a+c,by have:=HLN.out;have:=HA.out;omega,by rw[HA.out.2.2,List.drop_drop],by
     rw[show ((a+c:Nat):Int)=xa+(c:Int) by rw[HA.out.1];omega]
     exact ((HSB.out.other HNE.out.2.2 _).other HNE.out.2.2 _).other HNE.out.2.2 _⟩)
    have HSF:=h_ ((HSS.out.keptB HGF.out (show w.heap.size<V.heap.size by rw[HVS.out];exact Nat.lt_succ_self _)).base (show w.heap.size≤V.heap.size by rw[HVS.out];exact Nat.le_succ _))
    clear hyes hc hs hr hd
    go_wp2
    refine bodyPost_ret (v:=.agg #[.int .i64 r,.int .i64 d,.slice sa sn sk]) (by simp[results,Tryd.results55,go_sem,q0,q1,q2]) rfl ?_
    rw[nxM_yes HE.out]
    exact ⟨⟨sa,sn,sk,by rw[HRD.out.1,HRD.out.2],HSF.out⟩,HKF.out,grw_trans HGS.out HGF.out (fun k e=>.inl (by rw[←Option.some.inj e];exact Nat.le_refl _))⟩
end Go.Proofs.YtaajlggpjholeajDoor
