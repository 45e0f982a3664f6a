/- What matrixAt of the document's answer comes to. -/
import Derived.Test.YtaajlggpjholeajDoorWrR2
import Derived.Test.YtaajlggpjholeajDoorWrC5
import Derived.Test.YtaajlggpjholeajDoorKpK
namespace Go.Proofs.YtaajlggpjholeajDoor
open Go.RowKit
theorem rsev_no{v:Value}{l:List Int}{a:Nat}{xa:Int}{W:World}(hv:IsBys W v l)(hxa:xa=(a:Int))(ha:a≤l.length)(h3:a≤100000)(hr:rd1 (l.drop a)=none):Calls Tryd.prog 26 #[v,.int .i64 xa] W fun e w'=>e=.returned (.tuple #[.int .i64 0,.int .i64 (-1)])∧w'=W:=by
 have h:=rsevenat_any v l a xa W hv hxa ha h3
 rw[hr]at h
 exact h
theorem rsev_yes{v:Value}{l:List Int}{a:Nat}{xa x:Int}{t:List Int}{w0:World}(hv:IsBys w0 v l)(hxa:xa=(a:Int))(ha:a≤l.length)(h3:a≤100000)(hr:rd1 (l.drop a)=some (x,t)):∃a',t=l.drop a'∧a'≤l.length∧0≤x∧x≤9223372036854775807∧∀W,Below w0.heap.size w0 W→Calls Tryd.prog 26 #[v,.int .i64 xa] W fun e w'=>e=.returned (.tuple #[.int .i64 x,.int .i64 ((a':Nat):Int)])∧w'=W:=by
 obtain ⟨c,c1,c2,c3,c4,c5,c6⟩:=rd1_at (hv_bytes hv) hr
 refine ⟨a+c,c4,c3,c5,c6,fun W hb=>?_⟩
 have h:=rsevenat_any v l a xa W (hv.u_ hb) hxa ha h3
 rw[hr]at h
 have e2:(endAt l (some (x,t))).2=((a+c:Nat):Int):=by
  unfold endAt
  dsimp only
  rw[c4,List.length_drop]
  omega
 rw[e2]at h
 exact h
def MatAtEnd (w w':World) (l:List Int) (a:Nat) (e:Ending):Prop:=Below w.heap.size w w'∧∃r c sa sn sk j,e=.returned (.tuple #[.agg #[.int .i64 r,.int .i64 c,.slice sa sn sk],.int .i64 j])∧((j=-1∧rdM (l.drop a)=none)∨∃(m:Mx) (a':Nat),r=m.rows∧c=m.cols∧OwnZ w' w.heap.size (.slice sa sn sk) m.cells∧j=(a':Int)∧a'≤l.length∧rdM (l.drop a)=some (m,l.drop a'))
theorem two_read{b t1 t2:List Int}{r c:Int}(h1:rd1 b=some (r,t1))(h2:rd1 t1=some (c,t2)):rdNs 2 b=some ([r,c],t2):=by
 rw[rdNs_yes h1,rdNs_yes h2]
 rfl
theorem two_none1{b:List Int}(h1:rd1 b=none):rdM b=none:=rdM_no (rdNs_no h1)
theorem two_none2{b t1:List Int}{r:Int}(h1:rd1 b=some (r,t1))(h2:rd1 t1=none):rdM b=none:=rdM_no (by rw[rdNs_yes h1,rdNs_no h2])
set_option maxHeartbeats 16000000 in
set_option maxRecDepth 100000 in
theorem rmatat_any(v:Value)(l:List Int)(a:Nat)(xa:Int)(w:World)(hv:IsBys w v l)(hxa:xa=(a:Int))(ha:a≤l.length)(hll:l.length≤100000):Calls Tryd.prog 27 #[v,.int .i64 xa] w (fun e w'=>MatAtEnd w w' l a e):=by
 obtain ⟨W0,hW0⟩:=gM (w.alloc (.cells #[.int .i64 0,.int .i64 0,.slice none 0 0] 51))
 obtain ⟨W1,hW1⟩:=gM (W0.alloc (.cells #[.int .i64 0,.int .i64 0,.slice none 0 0] 51))
 have HS0:=h_ (show W0.heap.size=w.heap.size+1 by rw[hW0,World.size_alloc])
 have HS1:=h_ (show W1.heap.size=w.heap.size+2 by rw[hW1,World.size_alloc,HS0.out])
 have HW1:=h_ (show W1=(w.alloc (.cells #[.int .i64 0,.int .i64 0,.slice none 0 0] 51)).alloc (.cells #[.int .i64 0,.int .i64 0,.slice none 0 0] 51) by rw[hW1,hW0])
 have HB1:=h_ (show Below w.heap.size w W1 by rw[hW1,hW0];exact bel_on (o_ _ _) (o_ _ _))
 have HR1:=h_ (show WBk W1 w.heap.size #[.int .i64 0,.int .i64 0,.slice none 0 0] 51 by rw[hW1,hW0];exact (WBk.new _ _ _).kept (o_ _ _))
 have HQ1:=h_ (show WBk W1 (w.heap.size+1) #[.int .i64 0,.int .i64 0,.slice none 0 0] 51 by rw[←HS0.out,hW1];exact WBk.new _ _ _)
 have HV:=h_ hv
 have HAX:=h_ (And.intro hxa (And.intro ha hll))
 have HBY:=h_ (hv_bytes hv)
 have hx0:0≤xa:=by omega
 obtain ⟨m0,m1,m2⟩:=HQ1.out.q3
 obtain ⟨g0,g1,g2⟩:=HQ1.out.f3
 clear hv hW1 hW0
 cases h1:rd1 (l.drop a) with
 |none=>
  have HSA:=h_ (rsev_no (HV.out.u_ HB1.out) hxa ha (by omega) h1)
  have HNO:=h_ (two_none1 h1)
  have HQ:=h_ (show WBk (W1.setCell ⟨w.heap.size+1,0,none⟩ (.int .i64 0)) (w.heap.size+1) #[.int .i64 0,.int .i64 0,.slice none 0 0] 51 from HQ1.out.set 0 _)
  have HR:=h_ (show WBk (W1.setCell ⟨w.heap.size+1,0,none⟩ (.int .i64 0)) w.heap.size #[.int .i64 0,.int .i64 0,.slice none 0 0] 51 from HR1.out.other (by omega) _)
  have HBX:=h_ (show Below w.heap.size w (W1.setCell ⟨w.heap.size+1,0,none⟩ (.int .i64 0)) from below_sets HB1.out (Nat.le_succ _) 0 _)
  clear h1 hxa ha hll
  go_enter Tryd.func27,Tryd.ntmps27
  go_wp2_with fail
  rw[←HW1.out]
  refine HSA.out.mono ?_
  rintro e w' ⟨rfl,hw⟩
  rw[hw]
  clear hw w'
  obtain ⟨mm0,mm1,mm2⟩:=HQ.out.q3
  obtain ⟨y0,y1,y2⟩:=HR.out.q3
  obtain ⟨z0,z1,z2⟩:=HR.out.f3
  have HF:=h_ (bk3 HR.out (.int .i64 0) (.int .i64 0) (.slice none 0 0))
  obtain ⟨q0,q1,q2⟩:=HF.out.q3
  have HGF:=h_ (grw3 (W1.setCell ⟨w.heap.size+1,0,none⟩ (.int .i64 0)) w.heap.size (.int .i64 0) (.int .i64 0) (.slice none 0 0))
  go_wp2
  exact bodyPost_ret (v:=.tuple #[.agg #[.int .i64 0,.int .i64 0,.slice none 0 0],.int .i64 (-1)]) (by simp[results,Tryd.results27,go_sem,q0,q1,q2]) rfl ⟨(HBX.out).grown HGF.out (HBX.out).size (fun k e=>by rw[←Option.some.inj e];exact Nat.le_refl _),_,_,_,_,_,_,rfl,.inl ⟨rfl,HNO.out⟩⟩
 |some p=>
  obtain ⟨r,t1⟩:=p
  obtain ⟨a1,rfl,ha1,hr0,hr1,hsa⟩:=rsev_yes HV.out hxa ha (by omega) h1
  have HSA:=h_ (hsa W1 HB1.out)
  have H1:=h_ h1
  obtain ⟨xb,hxb⟩:=gM ((a1:Int))
  rw[←hxb]at HSA
  have hb0:0≤xb:=by omega
  have hb1:xb≤100000:=by omega
  have HXB:=h_ hxb
  obtain ⟨W2,hW2⟩:=gM (W1.setCell ⟨w.heap.size+1,0,none⟩ (.int .i64 r))
  have HW2:=h_ hW2
  have HQ2:=h_ (show WBk W2 (w.heap.size+1) #[.int .i64 r,.int .i64 0,.slice none 0 0] 51 by rw[hW2];exact HQ1.out.set 0 _)
  have HR2:=h_ (show WBk W2 w.heap.size #[.int .i64 0,.int .i64 0,.slice none 0 0] 51 by rw[hW2];exact HR1.out.other (by omega) _)
  have HB2:=h_ (show Below w.heap.size w W2 by rw[hW2];exact below_sets HB1.out (Nat.le_succ _) 0 _)
  have HS2:=h_ (show W2.heap.size=w.heap.size+2 by rw[hW2,←HS1.out];simp[World.setCell])
  clear hsa hxa ha h1
  go_enter Tryd.func27,Tryd.ntmps27
  go_wp2_with fail
  rw[←HW1.out]
  refine HSA.out.mono ?_
  rintro e w' ⟨rfl,hw⟩
  rw[hw]
  clear hw w' hxb hW2
  obtain ⟨p0,p1,p2⟩:=HQ2.out.q3
  obtain ⟨i0,i1,i2⟩:=HQ2.out.f3
  cases h2:rd1 (l.drop a1) with
  |none=>
   have HSB:=h_ (rsev_no (HV.out.u_ HB2.out) HXB.out ha1 (by have:=HAX.out;omega) h2)
   have HNO:=h_ (two_none2 H1.out h2)
   have HQ:=h_ (show WBk (W2.setCell ⟨w.heap.size+1,1,none⟩ (.int .i64 0)) (w.heap.size+1) #[.int .i64 r,.int .i64 0,.slice none 0 0] 51 from HQ2.out.set 1 _)
   have HR:=h_ (show WBk (W2.setCell ⟨w.heap.size+1,1,none⟩ (.int .i64 0)) w.heap.size #[.int .i64 0,.int .i64 0,.slice none 0 0] 51 from HR2.out.other (by omega) _)
   have HBX:=h_ (show Below w.heap.size w (W2.setCell ⟨w.heap.size+1,1,none⟩ (.int .i64 0)) from below_sets HB2.out (Nat.le_succ _) 1 _)
   clear h2 ha1 hll
   go_wp2_with fail
   rw[←HW2.out]
   refine HSB.out.mono ?_
   rintro e w' ⟨rfl,hw⟩
   rw[hw]
   clear hw w' m0 m1 m2 g0 g1 g2
   obtain ⟨mm0,mm1,mm2⟩:=HQ.out.q3
   obtain ⟨y0,y1,y2⟩:=HR.out.q3
   obtain ⟨z0,z1,z2⟩:=HR.out.f3
   have HF:=h_ (bk3 HR.out (.int .i64 r) (.int .i64 0) (.slice none 0 0))
   obtain ⟨q0,q1,q2⟩:=HF.out.q3
   have HGF:=h_ (grw3 (W2.setCell ⟨w.heap.size+1,1,none⟩ (.int .i64 0)) w.heap.size (.int .i64 r) (.int .i64 0) (.slice none 0 0))
   go_wp2
   exact bodyPost_ret (v:=.tuple #[.agg #[.int .i64 r,.int .i64 0,.slice none 0 0],.int .i64 (-1)]) (by simp[results,Tryd.results27,go_sem,q0,q1,q2]) rfl ⟨(HBX.out).grown HGF.out (HBX.out).size (fun k e=>by rw[←Option.some.inj e];exact Nat.le_refl _),_,_,_,_,_,_,rfl,.inl ⟨rfl,HNO.out⟩⟩
  |some p=>
   obtain ⟨c,t2⟩:=p
   obtain ⟨a2,rfl,ha2,hc0,hc1,hsb⟩:=rsev_yes HV.out HXB.out ha1 (by omega) h2
   have HSB:=h_ (hsb W2 HB2.out)
   have HTW:=h_ (two_read H1.out h2)
   obtain ⟨xc,hxc⟩:=gM ((a2:Int))
   rw[←hxc]at HSB
   have hd0:0≤xc:=by omega
   have hd1:xc≤100000:=by omega
   have HXC:=h_ hxc
   have HA2:=h_ ha2
   obtain ⟨W3,hW3⟩:=gM (W2.setCell ⟨w.heap.size+1,1,none⟩ (.int .i64 c))
   have HW3:=h_ hW3
   have HQ3:=h_ (show WBk W3 (w.heap.size+1) #[.int .i64 r,.int .i64 c,.slice none 0 0] 51 by rw[hW3];exact HQ2.out.set 1 _)
   have HR3:=h_ (show WBk W3 w.heap.size #[.int .i64 0,.int .i64 0,.slice none 0 0] 51 by rw[hW3];exact HR2.out.other (by omega) _)
   have HB3:=h_ (show Below w.heap.size w W3 by rw[hW3];exact below_sets HB2.out (Nat.le_succ _) 1 _)
   have HS3:=h_ (show W3.heap.size=w.heap.size+2 by rw[hW3,←HS2.out];simp[World.setCell])
   clear hsb h2 ha1 ha2 hll
   go_wp2_with fail
   rw[←HW2.out]
   refine HSB.out.mono ?_
   rintro e w' ⟨rfl,hw⟩
   rw[hw]
   clear hw w' hxc hW3 m0 m1 m2 g0 g1 g2
   by_cases hfar:24<r∨12<c
   ·have HNO:=h_ (show rdM (l.drop a)=none by rw[rdM_two HTW.out,if_pos hfar])
    have HQ:=h_ (show WBk (W2.setCell ⟨w.heap.size+1,1,none⟩ (.int .i64 c)) (w.heap.size+1) #[.int .i64 r,.int .i64 c,.slice none 0 0] 51 from HQ2.out.set 1 _)
    have HR:=h_ (show WBk (W2.setCell ⟨w.heap.size+1,1,none⟩ (.int .i64 c)) w.heap.size #[.int .i64 0,.int .i64 0,.slice none 0 0] 51 from HR2.out.other (by omega) _)
    have HBX:=h_ (show Below w.heap.size w (W2.setCell ⟨w.heap.size+1,1,none⟩ (.int .i64 c)) from below_sets HB2.out (Nat.le_succ _) 1 _)
    by_cases f1:24<r
    ·clear hfar
     obtain ⟨mm0,mm1,mm2⟩:=HQ.out.q3
     obtain ⟨y0,y1,y2⟩:=HR.out.q3
     obtain ⟨z0,z1,z2⟩:=HR.out.f3
     have HF:=h_ (bk3 HR.out (.int .i64 r) (.int .i64 c) (.slice none 0 0))
     obtain ⟨q0,q1,q2⟩:=HF.out.q3
     have HGF:=h_ (grw3 (W2.setCell ⟨w.heap.size+1,1,none⟩ (.int .i64 c)) w.heap.size (.int .i64 r) (.int .i64 c) (.slice none 0 0))
     go_wp2
     exact bodyPost_ret (v:=.tuple #[.agg #[.int .i64 r,.int .i64 c,.slice none 0 0],.int .i64 (-1)]) (by simp[results,Tryd.results27,go_sem,q0,q1,q2]) rfl ⟨(HBX.out).grown HGF.out (HBX.out).size (fun k e=>by rw[←Option.some.inj e];exact Nat.le_refl _),_,_,_,_,_,_,rfl,.inl ⟨rfl,HNO.out⟩⟩
    ·have f2:12<c:=hfar.resolve_left f1
     clear hfar
     obtain ⟨mm0,mm1,mm2⟩:=HQ.out.q3
     obtain ⟨y0,y1,y2⟩:=HR.out.q3
     obtain ⟨z0,z1,z2⟩:=HR.out.f3
     have HF:=h_ (bk3 HR.out (.int .i64 r) (.int .i64 c) (.slice none 0 0))
     obtain ⟨q0,q1,q2⟩:=HF.out.q3
     have HGF:=h_ (grw3 (W2.setCell ⟨w.heap.size+1,1,none⟩ (.int .i64 c)) w.heap.size (.int .i64 r) (.int .i64 c) (.slice none 0 0))
     go_wp2
     exact bodyPost_ret (v:=.tuple #[.agg #[.int .i64 r,.int .i64 c,.slice none 0 0],.int .i64 (-1)]) (by simp[results,Tryd.results27,go_sem,q0,q1,q2]) rfl ⟨(HBX.out).grown HGF.out (HBX.out).size (fun k e=>by rw[←Option.some.inj e];exact Nat.le_refl _),_,_,_,_,_,_,rfl,.inl ⟨rfl,HNO.out⟩⟩
   ·have f1:¬24<r:=fun h=>hfar (.inl h)
    have f2:¬12<c:=fun h=>hfar (.inr h)
    have hrc:=rc_bd r c ⟨by omega,by omega,by omega,by omega⟩
    obtain ⟨PR,hPR⟩:=gN (r*c)
    rw[hPR]at hrc
    have hwp:IntKind.i64.wrap (r*c)=PR:=by rw[hPR,IntKind.wrap_i64];omega
    obtain ⟨N,hN⟩:∃N:Nat,PR=(N:Int):=⟨PR.toNat,by omega⟩
    have hN288:N≤288:=by omega
    have HNE:=h_ (show rdM (l.drop a)=match rdNs N (l.drop a2) with|none=>none|some (zs,t')=>some (⟨r,c,unzL zs⟩,t') by
     rw[rdM_two HTW.out,if_neg hfar,hPR,show PR.toNat=N by omega]
     rfl)
    have HNN:=h_ hN
    obtain ⟨e0,he0,hz0,hz1,hz2⟩:=info_parts infoInt
    have HEI:=h_ (And.intro he0 (And.intro hz0 (And.intro hz1 hz2)))
    obtain ⟨u0,u1,u2⟩:(W2.setCell ⟨w.heap.size+1,1,none⟩ (.int .i64 c)).cell? ⟨w.heap.size+1,0,none⟩=some (.int .i64 r)∧(W2.setCell ⟨w.heap.size+1,1,none⟩ (.int .i64 c)).cell? ⟨w.heap.size+1,1,none⟩=some (.int .i64 c)∧(W2.setCell ⟨w.heap.size+1,1,none⟩ (.int .i64 c)).cell? ⟨w.heap.size+1,2,none⟩=some (.slice none 0 0):=(show WBk (W2.setCell ⟨w.heap.size+1,1,none⟩ (.int .i64 c)) (w.heap.size+1) #[.int .i64 r,.int .i64 c,.slice none 0 0] 51 from HQ2.out.set 1 _).q3
    clear hfar hPR hN he0 hz0 hz1 hz2 hrc
    go_wp2
    rw[←HW3.out]
    clear p0 p1 p2 i0 i1 i2 u0 u1 u2
    go_loopw [1,7,8,9] (fun av iv _ _ wr=>∃(i:Nat) (xi xe:Int) (b:Nat) (zs:List Int) (sv:Value),i≤N∧xi=(i:Int)∧iv=.int .i64 xi∧av=.int .i64 xe∧xe=(b:Int)∧b≤l.length∧Came l N i zs b a2∧WBk wr (w.heap.size+1) #[.int .i64 r,.int .i64 c,sv] 51∧WBk wr w.heap.size #[.int .i64 0,.int .i64 0,.slice none 0 0] 51∧OwnZ wr (w.heap.size+2) sv (unzL zs)∧Below w.heap.size w wr∧w.heap.size+2≤wr.heap.size) (fun _ iv _ _ _=>N - (intOf iv).toNat)
    case atStart=>exact ⟨0,0,xc,a2,[],_,Nat.zero_le _,rfl,rfl,rfl,HXC.out,HA2.out,Came.first l N a2,HQ3.out,HR3.out,OwnZ.nil _ _,HB3.out,Nat.le_of_eq HS3.out.symm⟩
    case round=>
     obtain ⟨i,xi,xe,b,zs,sv,hi,hxi,rfl,rfl,hxe,hb,hcm,hq,hr,hoz,hbw,hsz⟩:=hrel
     have HXI:=h_ hxi
     have HXE:=h_ hxe
     have HBL:=h_ hb
     have HCM:=h_ hcm
     have HQ:=h_ hq
     have HR:=h_ hr
     have HBX:=h_ hbw
     have HSZ:=h_ hsz
     have HOZ:=h_ hoz
     have hj0:0≤xi:=by omega
     have hj1:xi≤288:=by omega
     have hy0:0≤xe:=by omega
     have hy1:xe≤100000:=by have:=HAX.out;omega
     obtain ⟨sa,sk,hse⟩:=hoz.shape
     obtain ⟨sn,hsn⟩:=gN ((unzL zs).length)
     have hsn288:sn≤288:=by rw[←hsn,unzL_len,hcm.1];omega
     rw[hsn]at hse
     subst hse
     have HSN:=h_ hsn
     obtain ⟨v0,v1,v2⟩:=hq.q3
     obtain ⟨k0,k1,k2⟩:=hq.f3
     clear hxi hxe hb hcm hq hr hoz hbw hsz hsn
     by_cases hlt:xi<PR
     ·have hiN:i<N:=by have:=HXI.out;have:=HNN.out;omega
      cases h3:rd1 (l.drop b) with
      |none=>
       have HSD:=h_ (rsev_no (HV.out.u_ HBX.out) HXE.out HBL.out (by have:=HAX.out;have:=HBL.out;omega) h3)
       have HNO:=h_ (show rdM (l.drop a)=none by rw[HNE.out,HCM.out.no hiN h3])
       clear h3
       go_wp2_with fail
       refine HSD.out.mono ?_
       rintro e w' ⟨rfl,hw⟩
       rw[hw]
       clear hw w'
       obtain ⟨mm0,mm1,mm2⟩:=HQ.out.q3
       obtain ⟨y0,y1,y2⟩:=HR.out.q3
       obtain ⟨z0,z1,z2⟩:=HR.out.f3
       have HF:=h_ (bk3 HR.out (.int .i64 r) (.int .i64 c) (.slice sa sn sk))
       obtain ⟨q0,q1,q2⟩:=HF.out.q3
       have HGF:=h_ (grw3 wr w.heap.size (.int .i64 r) (.int .i64 c) (.slice sa sn sk))
       go_wp2
       exact bodyPost_ret (v:=.tuple #[.agg #[.int .i64 r,.int .i64 c,.slice sa sn sk],.int .i64 (-1)]) (by simp[results,Tryd.results27,go_sem,q0,q1,q2]) rfl ⟨(HBX.out).grown HGF.out (HBX.out).size (fun k e=>by rw[←Option.some.inj e];exact Nat.le_refl _),_,_,_,_,_,_,rfl,.inl ⟨rfl,HNO.out⟩⟩
      |some p=>
       obtain ⟨x,t3⟩:=p
       obtain ⟨b',rfl,hb',hx0,hx1,hsd⟩:=rsev_yes HV.out HXE.out HBL.out (by have:=HAX.out;have:=HBL.out;omega) h3
       have HSD:=h_ (hsd wr HBX.out)
       have HNX:=h_ (HCM.out.next hiN h3)
       have HB':=h_ hb'
       obtain ⟨xf,hxf⟩:=gM ((b':Int))
       rw[←hxf]at HSD
       have hf0:0≤xf:=by omega
       have hf1:xf≤100000:=by have:=HAX.out;omega
       have HXF:=h_ hxf
       have hw1:IntKind.i64.wrap (-(x / 2))=-(x / 2):=by rw[IntKind.wrap_i64];omega
       have hw2:IntKind.i64.wrap (-(x / 2) - 1)=-(x / 2) - 1:=by rw[IntKind.wrap_i64];omega
       clear hsd h3 hb' hxf
       by_cases hp:x % 2=1
       ·have HZZ:=h_ (show unz x=-(x / 2) - 1 by unfold unz;rw[if_pos hp])
        have np:(x % 2==1)=true:=by simp[hp]
        clear hp
        go_wp2_with (first
         |(go_at_call 26;refine HSD.out.mono ?_;rintro e w' ⟨rfl,hw⟩;rw[hw];clear hw w')
         |(at_builtin;refine wpList_append_own _ rfl _ _ 49 rfl (w.heap.size+2) 3 e0 (.int .i64 0) 1 8 Tryd.underlying49 HEI.out.1 HEI.out.2.1 HEI.out.2.2.1 HEI.out.2.2.2 rfl (by decide) (.slice sa sn sk) _ _ rfl (HOZ.out.alloc _) ⟨_,0,none⟩ 1 1 [.int .i64 (-(x / 2) - 1)] rfl rfl (one_cells _ _) (one_one _) ?c3 ?c4 ?c5 ?_))
        case c3=>have:=HSN.out;unfold maxLen;omega
        case c4=>have:=HSN.out;omega
        case c5=>have:=HSZ.out;first|omega|(simp;omega)
        intro v' w3 hown' hg _
        have hst:=OwnZ.step hown'
        rw[←HZZ.out]at hst
        have HO3:=h_ (show OwnZ w3 (w.heap.size+2) v' (unzL (zs++[x])) by rw[unzL_snoc];exact hst)
        have hne:∀k,(Value.slice sa sn sk).ownBlock=some k→w.heap.size+2≤k:=fun k e=>(World.ownsRow.lt HOZ.out k e).1
        have HQ5:=h_ (show WBk w3 (w.heap.size+1) #[.int .i64 r,.int .i64 c,.slice sa sn sk] 51 from (hg.block _ (HQ.out.kept (o_ wr (.cells #[.int .i64 (-(x / 2) - 1)] 3))).lt (fun e=>by have:=hne _ e.symm;omega)).trans (HQ.out.kept (o_ wr (.cells #[.int .i64 (-(x / 2) - 1)] 3))))
        have HR5:=h_ (show WBk w3 w.heap.size #[.int .i64 0,.int .i64 0,.slice none 0 0] 51 from (hg.block _ (HR.out.kept (o_ wr (.cells #[.int .i64 (-(x / 2) - 1)] 3))).lt (fun e=>by have:=hne _ e.symm;omega)).trans (HR.out.kept (o_ wr (.cells #[.int .i64 (-(x / 2) - 1)] 3))))
        have HB5:=h_ (show Below w.heap.size w w3 from (bel_on HBX.out (o_ wr (.cells #[.int .i64 (-(x / 2) - 1)] 3))).grown hg (bel_on HBX.out (o_ wr (.cells #[.int .i64 (-(x / 2) - 1)] 3))).size (fun k e=>by have:=hne k e;omega))
        have HS5:=h_ (show w.heap.size+2≤w3.heap.size from Nat.le_trans HSZ.out (Nat.le_trans (o_ wr (.cells #[.int .i64 (-(x / 2) - 1)] 3)).size hg.size))
        obtain ⟨va,vk,hve⟩:=HO3.out.shape
        obtain ⟨vn,hvn⟩:=gN ((unzL (zs++[x])).length)
        rw[hvn]at hve
        subst hve
        have n2:w3.cell? ⟨w.heap.size+1,2,none⟩=some (.slice sa sn sk):=HQ5.out.c rfl
        have l2:=HQ5.out.f 2
        have HO6:=h_ (HO3.out.keptB (grw_set w3 (w.heap.size+1) 2 (.slice va vn vk)) (Nat.lt_succ_self _))
        have HQ6:=h_ (show WBk (w3.setCell ⟨w.heap.size+1,2,none⟩ (.slice va vn vk)) (w.heap.size+1) #[.int .i64 r,.int .i64 c,.slice va vn vk] 51 from HQ5.out.set 2 _)
        have HR6:=h_ (show WBk (w3.setCell ⟨w.heap.size+1,2,none⟩ (.slice va vn vk)) w.heap.size #[.int .i64 0,.int .i64 0,.slice none 0 0] 51 from HR5.out.other (by omega) _)
        have HB6:=h_ (below_sets HB5.out (Nat.le_succ w.heap.size) 2 (.slice va vn vk))
        have HS6:=h_ (show w.heap.size+2≤(w3.setCell ⟨w.heap.size+1,2,none⟩ (.slice va vn vk)).heap.size from Nat.le_trans HS5.out (grw_set w3 (w.heap.size+1) 2 (.slice va vn vk)).size)
        clear hown' hg hst hne hvn
        go_wp2
        go_roundw
        case rel=>exact ⟨i+1,_,xf,b',zs++[x],_,by have:=HXI.out;have:=HNN.out;omega,by have:=HXI.out;omega,rfl,rfl,HXF.out,HB'.out,HNX.out,HQ6.out,HR6.out,HO6.out,HB6.out,HS6.out⟩
        case measure=>have:=HXI.out;simp[intOf];omega
       ·have HZZ:=h_ (show unz x=x / 2 by unfold unz;rw[if_neg hp])
        have np:(x % 2==1)=false:=by simpa using hp
        clear hp
        go_wp2_with (first
         |(go_at_call 26;refine HSD.out.mono ?_;rintro e w' ⟨rfl,hw⟩;rw[hw];clear hw w')
         |(at_builtin;refine wpList_append_own _ rfl _ _ 49 rfl (w.heap.size+2) 3 e0 (.int .i64 0) 1 8 Tryd.underlying49 HEI.out.1 HEI.out.2.1 HEI.out.2.2.1 HEI.out.2.2.2 rfl (by decide) (.slice sa sn sk) _ _ rfl (HOZ.out.alloc _) ⟨_,0,none⟩ 1 1 [.int .i64 (x / 2)] rfl rfl (one_cells _ _) (one_one _) ?c3 ?c4 ?c5 ?_))
        case c3=>have:=HSN.out;unfold maxLen;omega
        case c4=>have:=HSN.out;omega
        case c5=>have:=HSZ.out;first|omega|(simp;omega)
        intro v' w3 hown' hg _
        have hst:=OwnZ.step hown'
        rw[←HZZ.out]at hst
        have HO3:=h_ (show OwnZ w3 (w.heap.size+2) v' (unzL (zs++[x])) by rw[unzL_snoc];exact hst)
        have hne:∀k,(Value.slice sa sn sk).ownBlock=some k→w.heap.size+2≤k:=fun k e=>(World.ownsRow.lt HOZ.out k e).1
        have HQ5:=h_ (show WBk w3 (w.heap.size+1) #[.int .i64 r,.int .i64 c,.slice sa sn sk] 51 from (hg.block _ (HQ.out.kept (o_ wr (.cells #[.int .i64 (x / 2)] 3))).lt (fun e=>by have:=hne _ e.symm;omega)).trans (HQ.out.kept (o_ wr (.cells #[.int .i64 (x / 2)] 3))))
        have HR5:=h_ (show WBk w3 w.heap.size #[.int .i64 0,.int .i64 0,.slice none 0 0] 51 from (hg.block _ (HR.out.kept (o_ wr (.cells #[.int .i64 (x / 2)] 3))).lt (fun e=>by have:=hne _ e.symm;omega)).trans (HR.out.kept (o_ wr (.cells #[.int .i64 (x / 2)] 3))))
        have HB5:=h_ (show Below w.heap.size w w3 from (bel_on HBX.out (o_ wr (.cells #[.int .i64 (x / 2)] 3))).grown hg (bel_on HBX.out (o_ wr (.cells #[.int .i64 (x / 2)] 3))).size (fun k e=>by have:=hne k e;omega))
        have HS5:=h_ (show w.heap.size+2≤w3.heap.size from Nat.le_trans HSZ.out (Nat.le_trans (o_ wr (.cells #[.int .i64 (x / 2)] 3)).size hg.size))
        obtain ⟨va,vk,hve⟩:=HO3.out.shape
        obtain ⟨vn,hvn⟩:=gN ((unzL (zs++[x])).length)
        rw[hvn]at hve
        subst hve
        have n2:w3.cell? ⟨w.heap.size+1,2,none⟩=some (.slice sa sn sk):=HQ5.out.c rfl
        have l2:=HQ5.out.f 2
        have HO6:=h_ (HO3.out.keptB (grw_set w3 (w.heap.size+1) 2 (.slice va vn vk)) (Nat.lt_succ_self _))
        have HQ6:=h_ (show WBk (w3.setCell ⟨w.heap.size+1,2,none⟩ (.slice va vn vk)) (w.heap.size+1) #[.int .i64 r,.int .i64 c,.slice va vn vk] 51 from HQ5.out.set 2 _)
        have HR6:=h_ (show WBk (w3.setCell ⟨w.heap.size+1,2,none⟩ (.slice va vn vk)) w.heap.size #[.int .i64 0,.int .i64 0,.slice none 0 0] 51 from HR5.out.other (by omega) _)
        have HB6:=h_ (below_sets HB5.out (Nat.le_succ w.heap.size) 2 (.slice va vn vk))
        have HS6:=h_ (show w.heap.size+2≤(w3.setCell ⟨w.heap.size+1,2,none⟩ (.slice va vn vk)).heap.size from Nat.le_trans HS5.out (grw_set w3 (w.heap.size+1) 2 (.slice va vn vk)).size)
        clear hown' hg hst hne hvn
        go_wp2
        go_roundw
        case rel=>exact ⟨i+1,_,xf,b',zs++[x],_,by have:=HXI.out;have:=HNN.out;omega,by have:=HXI.out;omega,rfl,rfl,HXF.out,HB'.out,HNX.out,HQ6.out,HR6.out,HO6.out,HB6.out,HS6.out⟩
        case measure=>have:=HXI.out;simp[intOf];omega
     ·have hin:i=N:=by have:=HXI.out;have:=HNN.out;omega
      have HFIN:=h_ (show rdM (l.drop a)=some (⟨r,c,unzL zs⟩,l.drop b) by
       have h:=HCM.out
       rw[hin]at h
       rw[HNE.out,h.done])
      obtain ⟨y0,y1,y2⟩:=HR.out.q3
      obtain ⟨z0,z1,z2⟩:=HR.out.f3
      have HF:=h_ (bk3 HR.out (.int .i64 r) (.int .i64 c) (.slice sa sn sk))
      obtain ⟨q0,q1,q2⟩:=HF.out.q3
      have HGF:=h_ (grw3 wr w.heap.size (.int .i64 r) (.int .i64 c) (.slice sa sn sk))
      clear hin
      go_wp2
      refine bodyPost_ret (v:=.tuple #[.agg #[.int .i64 r,.int .i64 c,.slice sa sn sk],.int .i64 xe]) (by simp[results,Tryd.results27,go_sem,q0,q1,q2]) rfl ⟨HBX.out.grown HGF.out HBX.out.size (fun k e=>by rw[←Option.some.inj e];exact Nat.le_refl _),_,_,_,_,_,_,rfl,.inr ⟨⟨r,c,unzL zs⟩,b,rfl,rfl,?_,HXE.out,HBL.out,HFIN.out⟩⟩
      exact (HOZ.out.keptB HGF.out (Nat.lt_of_lt_of_le (Nat.lt_succ_self _) (Nat.le_succ _))).base (Nat.le_trans (Nat.le_succ _) (Nat.le_succ _))
end Go.Proofs.YtaajlggpjholeajDoor
