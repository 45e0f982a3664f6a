/- What Times of package clock comes to: what is wrong, or the table of times. -/
import Derived.Test.YtpniemnfdleiialGreatPkPnC
import Derived.Test.YtpniemnfdleiialGreatClS
import Derived.Deep.LoopGhost
import Derived.BigQuiet
import Derived.Deep.RegionHeld3
namespace Go.Proofs.YtpniemnfdleiialGreat
open Go.RowKit
structure CT (w1 w2:World) (p:List (List (Int×Int))) (th bk:List Int) (vs:List Value) (T:List (List (Int×Int))) (M:List ((Int×Int×Int)×Int)):Prop where
 sp:SpT w2 w1.heap.size w1.heap.size vs T
 en:Ends w2 (w1.heap.size+1) M
 told:ToldC p T M
 clk:Clk p th bk T
 bd:BdT T ((sumN (lens T) p.length:Nat)*1000000)
 bl:Below w1.heap.size w1 w2
theorem CT.u_{w1 w2 w3:World}{p:List (List (Int×Int))}{th bk:List Int}{vs:List Value}{T:List (List (Int×Int))}{M:List ((Int×Int×Int)×Int)}(h:CT w1 w2 p th bk vs T M)(hb:Below w2.heap.size w2 w3):CT w1 w3 p th bk vs T M:=
 ⟨h.sp.u_ hb,h.en.u_ hb,h.told,h.clk,h.bd,below_go h.bl hb⟩
theorem CT.first(w1:World)(p:List (List (Int×Int)))(th bk:List Int):CT w1 ((w1.alloc (.cells (List.replicate p.length (Value.slice none 0 0)).toArray 98)).alloc (.map #[] 0)) p th bk (List.replicate p.length (Value.slice none 0 0)) (nilT p.length) []:=by
 have h1:=o_ w1 (.cells (List.replicate p.length (Value.slice none 0 0)).toArray 98)
 have h2:=o_ (w1.alloc (.cells (List.replicate p.length (Value.slice none 0 0)).toArray 98)) (.map #[] 0)
 refine ⟨(SpT.made w1 p.length).u_ h2,?_,ToldC.nil p,Clk.nil p th bk,?_,below_go h1 h2⟩
 ·have:=Ends.new (w1.alloc (.cells (List.replicate p.length (Value.slice none 0 0)).toArray 98))
  rw[World.size_alloc]at this
  exact this
 ·rw[sum_nil];exact BdT.nil _
def TimesEnd (w w':World) (p:List (List (Int×Int))) (th bk:List Int) (m:Int) (e:Ending):Prop:=
 ∃s T,e=.returned (.tuple #[s,errV (timE p m th bk)])∧IsPlan w' s T∧Below w.heap.size w w'∧(timE p m th bk≠0→T=[])∧(timE p m th bk=0→IsTm p th bk T∧BdT T 144000000)
theorem plan_apart{p:List (List (Int×Int))}{m:Int}(h:planE p m=0){s:Nat}(hs:s<p.length):apart (stA p s):=by
 obtain ⟨_,h2,_⟩:=planE_in h
 obtain ⟨l,hl⟩:=stage_at hs
 rw[stA_at hl]
 exact (actsE_in (stagesE_in h2 s l hl)).2.1
theorem keysC_len(p:List (List (Int×Int)))(s i:Nat)(a:Int×Int):(keysC p s i a).length≤2:=by
 unfold keysC
 by_cases c:i=0
 ·rw[if_pos c]
  cases depK a s p.length<;>simp
 ·rw[if_neg c]
  cases depK a s p.length<;>simp
theorem keysC_ok{p:List (List (Int×Int))}{m:Nat}(hm:m≤12)(hn:p.length≤6)(hok:∀s,s<p.length→∀a∈stA p s,okA (m:Int) a){s i:Nat}{a:Int×Int}(hs:s<p.length)(ha:(stA p s)[i]?=some a):∀d∈keysC p s i a,okD d:=by
 have key:∀(k:Nat) (b:Int×Int),k<p.length→okA (m:Int) b→okD ((k:Int),b):=fun k b hk hb=>by
  obtain ⟨b1,b2,b3,b4⟩:=hb
  exact ⟨by show 0≤(k:Int);omega,by show (k:Int)≤100;omega,by show 0≤b.1;omega,by show b.1≤100;omega,b3,by show b.2≤100;omega⟩
 intro d hd
 unfold keysC at hd
 rcases List.mem_append.1 hd with q|q
 ·by_cases c:i=0
  ·rw[if_pos c]at q;simp at q
  ·rw[if_neg c]at q
   have hlt:i - 1<(stA p s).length:=by have:=(List.getElem?_eq_some_iff.1 ha).1;omega
   rw[List.getElem?_eq_getElem hlt]at q
   have q:d=((s:Int),(stA p s)[i - 1]):=by simpa using q
   rw[q]
   exact key s _ hs (hok s hs _ (List.getElem_mem _))
 ·cases h:depK a s p.length with
  |none=>rw[h]at q;simp at q
  |some k=>
   rw[h]at q
   have q:d=((k:Int),a):=by simpa using q
   rw[q]
   exact key k a ((depK_nb hs).1 h).1 (hok s hs a (List.mem_of_getElem? ha))
set_option maxHeartbeats 32000000 in
set_option maxRecDepth 100000 in
theorem ctimes_any(v v1 v2:Value)(p:List (List (Int×Int)))(th bk:List Int)(m:Int)(w:World)(hv:IsPlan w v p)(hi1:I_ w v1 th)(hi2:I_ w v2 bk):
  Calls Tryz.prog 16 #[v,.int .i64 m,v1,v2] w (fun e w'=>TimesEnd w w' p th bk m e):=by
 have HF:=h_ (ccheck_any v v1 v2 p th bk m w hv hi1 hi2)
 obtain ⟨E,hE⟩:=gN (timE p m th bk)
 by_cases c:E=0
 rotate_left 1
 ·have HC:=h_ c
  have HE:=h_ hE
  rw[hE,n_ c]at HF
  clear c hE
  go_enter Tryz.func16,Tryz.ntmps16
  go_wp2_with (go_at_call 41;refine HF.out.mono ?_;rintro e w1 ⟨rfl,hb1⟩)
  exact bodyPost_ret (v:=.tuple #[.slice none 0 0,.iface 66 (.int .i64 E)]) (by simp[results,Tryz.results16,go_sem]) rfl ⟨_,[],by rw[HE.out,n_ HC.out],IsPlan.nil _,hb1,fun _=>rfl,fun e=>absurd e (by rw[HE.out];exact HC.out)⟩
 subst c
 obtain ⟨hpl,hl1,hl2,hr1,hr2⟩:=timE_in hE
 have hap:=fun s (hs:s<p.length)=>plan_apart hpl hs
 obtain ⟨M,hM⟩:∃M:Nat,m=(M:Int):=⟨m.toNat,by
  have:=(planE_in hpl).1
  unfold rangeP at this
  omega⟩
 rw[hM]at hpl
 obtain ⟨hin,hdn,hn1,hn6,hm1,hm12,hst⟩:=plan_facts hpl
 have HC:=h_ (costs_of hl1 hl2 hr1 hr2)
 rw[hE,e_ rfl]at HF
 have HEE:=h_ hE
 have HPL:=h_ hv
 obtain ⟨a,cap,rfl,g2,g3,g4⟩:=hv
 obtain ⟨a1,cap1,rfl,k2,k3,k4⟩:=hi1
 obtain ⟨a2,cap2,rfl,j2,j3,j4⟩:=hi2
 obtain ⟨n,hn⟩:=gN (p.length)
 obtain ⟨b,off,ha,hcl⟩:=g4.resolve_left (fun e=>by rw[e]at hn1;simp at hn1)
 obtain ⟨b1,off1,ha1,hcl1⟩:=k4.resolve_left (fun e=>by rw[e]at hl1;simp at hl1;omega)
 obtain ⟨b2,off2,ha2,hcl2⟩:=j4.resolve_left (fun e=>by rw[e]at hl2;simp at hl2;omega)
 subst ha ha1 ha2
 have HP:=h_ (fun (W:World) (hb:Below w.heap.size w W) (s:Nat) (hs:s<n)=>plan_cell hcl W hb (s:=s) (by rw[hn];exact hs))
 have HT1:=h_ (fun (W:World) (hb:Below w.heap.size w W) (s:Nat) (hs:s<n)=>ints_cell hcl1 (s:=s) (by rw[hl1,hn];exact hs) hb)
 have HT2:=h_ (fun (W:World) (hb:Below w.heap.size w W) (s:Nat) (hs:s<n)=>ints_cell hcl2 (s:=s) (by rw[hl2,hn];exact hs) hb)
 obtain ⟨tot,htot⟩:=gN (sumN (lens p) p.length)
 have htot144:tot≤144:=by
  rw[←htot,lens_sum (fun s hs=>(hst s hs).1) p.length (Nat.le_refl _)]
  have h1:2*M≤24:=by omega
  calc 2*M*p.length≤24*6:=Nat.mul_le_mul h1 hn6
   _=144:=rfl
 have HTOT:=h_ htot
 have HIN:=h_ hin
 have HDN:=h_ hdn
 have HST:=h_ hst
 have HAP:=h_ hap
 have HN:=h_ hn
 have HN6:=h_ hn6
 have hni:(n:Int)≤6:=by omega
 have hni1:1≤(n:Int):=by omega
 have HKO:=h_ (fun s i a (hs:s<p.length) (ha:(stA p s)[i]?=some a)=>keysC_ok hm12 hn6 (fun s hs=>(hst s hs).2) hs ha)
 rw[hl1]at k2 HF ⊢
 rw[hl2]at j2 HF ⊢
 rw[hn]at g2 k2 j2 hn1 hn6 HF HPL ⊢
 have HFI:=h_ (fun (w1:World)=>CT.first w1 p th bk)
 rw[hn]at HFI
 clear g4 k4 j4 hcl hcl1 hcl2 hin hdn hst hl1 hl2 hn hap hpl hr1 hr2 hE htot hM
 have hmm:=@run_makeMap Tryz.prog
 go_enter Tryz.func16,Tryz.ntmps16
 go_wp2_with (go_at_call 41;refine HF.out.mono ?_;rintro e w1 ⟨rfl,hb1⟩;have HB1:=h_ hb1;have hmk:=run_mkt (n:Int) n rfl (by omega) w1;clear hb1)
 clear hmm hmk
 go_loopg [13] (tot+1) (fun kx gv w2=>∃(T:List (List (Int×Int))) (M:List ((Int×Int×Int)×Int)) (vs:List Value) (on:Bool),gv=.bool on∧CT w1 w2 p th bk vs T M∧(on=false→Closed p (lens T))∧tot - sumN (lens T) p.length+(if on=true then 1 else 0)≤kx)
 case atStart=>exact ⟨_,_,_,true,rfl,HFI.out w1,(fun e=>by cases e),by rw[if_pos rfl];omega⟩
 case round=>
  obtain ⟨T,MM,vs,on,rfl,hct,hcl,hme⟩:=hrel
  have HCT:=h_ hct
  have HCL:=h_ hcl
  have HME:=h_ hme
  clear hct hcl hme
  cases on with
  |false=>
   have HE:=h_ (show IsPlan wr (.slice (some ⟨w1.heap.size,0,none⟩) n n) T by
    have h:=HCT.out.sp.isPlan (by rw[HCT.out.clk.len];have:=HN6.out;omega)
    rw[HCT.out.clk.len,HN.out]at h
    exact h)
   have HBD:=h_ (show BdT T 144000000 from HCT.out.bd.mono (by have h1:=HCT.out.clk.sum;have h2:=HTOT.out;omega))
   go_wp2
   exact bodyPost_ret (v:=.tuple #[.slice (some ⟨w1.heap.size,0,none⟩) n n,.nilIface]) (by simp[results,Tryz.results16,go_sem]) rfl ⟨_,T,by rw[HEE.out,e_ rfl],HE.out,below_go HB1.out HCT.out.bl,fun e=>absurd HEE.out e,fun _=>⟨HCT.out.clk.fin HDN.out (by first|exact HCL.out rfl|exact HCL.out trivial),HBD.out⟩⟩
  |true=>
   rw[if_pos rfl]at HME
   go_wp2
   go_loopw [13,35] (fun gv iv w3=>∃(T':List (List (Int×Int))) (M':List ((Int×Int×Int)×Int)) (vs':List Value) (on:Bool) (t:Nat) (xt:Int),t≤n∧xt=(t:Int)∧iv=.int .i64 xt∧gv=.bool on∧CT w1 w3 p th bk vs' T' M'∧PassC p T T' t on) (fun _ iv _=>n - (intOf iv).toNat)
   case atStart=>exact ⟨T,MM,vs,false,0,0,Nat.zero_le _,rfl,rfl,rfl,HCT.out,PassC.first p T⟩
   case round=>
    obtain ⟨T',M',vs',on,t,xt,ht,hxt,rfl,rfl,hct,hps⟩:=hrel
    have HC3:=h_ hct
    have HP3:=h_ hps
    have HXT:=h_ hxt
    have hy0:0≤xt:=by omega
    have hy6:xt≤6:=by omega
    clear hct hps hxt
    by_cases hlt:xt<(n:Int)
    ·have htk:t<p.length:=by have:=HXT.out;have:=HN.out;omega
     have HTK:=h_ htk
     have HBW:=h_ (below_go HB1.out HC3.out.bl)
     obtain ⟨la,lc,hce,hac⟩:=HP.out wr HBW.out t (by have:=HXT.out;omega)
     obtain ⟨ln,hln⟩:=gN ((stA p t).length)
     rw[hln]at hce hac
     have hl24:ln≤24:=by have:=(HST.out t htk).1;omega
     obtain ⟨u,hu⟩:∃u,vs'[t]?=some u:=⟨_,List.getElem?_eq_getElem (by rw[HC3.out.sp.len,HC3.out.clk.len];exact htk)⟩
     obtain ⟨ua,uk,rfl⟩:=(HC3.out.sp.own t u hu).shape
     have hcu:=HC3.out.sp.cell hu
     obtain ⟨lt,hlt0⟩:=gN ((stA T' t).length)
     have hltn:lt≤ln:=by rw[←hlt0,←hln];exact HC3.out.clk.le htk
     rw[hlt0]at hcu hu
     rw[show t=xt.toNat by have:=HXT.out;omega]at hce hcu
     have HU:=h_ hu
     have HLN:=h_ (And.intro hln hlt0)
     clear htk hln hlt0 hu
     by_cases hfin:lt=ln
     ·have HS:=h_ (HP3.out.stay (fun hc=>by
       have h1:=hc.lt.2
       rw[lens_at]at h1
       have:=HLN.out
       omega))
      have nE:((lt:Int)==(ln:Int))=true:=by simp;omega
      clear hac hfin
      go_wp2
      go_roundw
      case rel=>exact ⟨T',M',vs',on,t+1,_,by have:=HXT.out;omega,by have:=HXT.out;omega,rfl,rfl,HC3.out,HS.out⟩
      case measure=>have:=HXT.out;simp[intOf];omega
     ·have nE:((lt:Int)==(ln:Int))=false:=by simp;omega
      have hltl:lt<ln:=by omega
      obtain ⟨x,hx⟩:=act_at (l:=stA p t) (i:=lt) (by have:=HLN.out.1;omega)
      obtain ⟨ra,rc,hre,r2,r3,r4⟩:=id hac
      have hra:=(Value.slice.inj hre).1
      subst hra
      obtain ⟨b3,off3,ha3,hcl3⟩:=r4.resolve_left (fun e=>by rw[e]at hx;simp at hx)
      subst ha3
      have hok:=(HST.out t HTK.out).2 x (List.mem_of_getElem? hx)
      have hkk:=h_ (HKO.out t lt x HTK.out hx)
      obtain ⟨ak,am⟩:=x
      have HD:=h_ (show ∀W,Below wr.heap.size wr W→W.cell? ⟨b3,off3+lt*2,none⟩=some (.int .i64 ak)∧W.cell? ⟨b3,off3+lt*2+1,none⟩=some (.int .i64 am) from fun W hb=>⟨cell_bel hb (hcl3 lt _ hx).1,cell_bel hb (hcl3 lt _ hx).2⟩)
      obtain ⟨o1,o2,o3,o4⟩:=hok
      dsimp only at o1 o2 o3 o4
      have HX:=h_ (show (stA p t)[(stA T' t).length]?=some (ak,am) by rw[HLN.out.2];exact hx)
      have HOK:=h_ (show okD ((t:Int),ak,am) from ⟨by show 0≤(t:Int);omega,by show (t:Int)≤100;omega,by show 0≤ak;omega,by show ak≤100;omega,o3,by show am≤100;omega⟩)
      have HAK:=h_ (And.intro o1 o2)
      have HWF:=h_ (waits_any _ p wr (HPL.out.u_ HBW.out) t lt xt (lt:Int) ak am HXT.out rfl HTK.out HN6.out hx ⟨o1,o2⟩ (by rw[HLN.out.1];exact hl24))
      obtain ⟨KS,hKS⟩:=gN (keysC p t lt (ak,am))
      have HKL:=h_ (show KS.length≤2 by rw[←hKS];exact keysC_len _ _ _ _)
      rw[hKS]at HWF hkk
      have hla:=lat_told HC3.out.told HIN.out HC3.out.bd HTK.out HX.out
      rw[HLN.out.2,hKS]at hla
      clear hac hre r2 r3 r4 hcl3 hx o1 o2 o3 o4 hKS hfin hltn
      rcases hla with ⟨hcan,hlat⟩|⟨hcan,hlat⟩
      rotate_left 1
      ·have HS:=h_ (HP3.out.stay hcan)
       have HLA:=h_ (show ∀W u,Ends W (w1.heap.size+1) M'→IsKeys W u KS→Calls Tryz.prog 42 #[.map (some (w1.heap.size+1)),u] W (fun e w'=>e=.returned (.tuple #[.int .i64 0,.bool false])∧Below W.heap.size W w') from fun W u h1 h2=>by
        have:=latest_any _ u M' KS W h1 h2 hkk.out HKL.out
        rw[hlat]at this
        exact this)
       clear hcan hlat
       go_wp2_with (first|(go_at_call 43;refine HWF.out.mono ?_;rintro e w4 ⟨ku,rfl,hks,hb4⟩;have HK4:=h_ hks;have HB4:=h_ hb4;clear hks hb4)|(go_at_call 42;refine (HLA.out w4 ku (HC3.out.en.u_ HB4.out) HK4.out).mono ?_;rintro e w5 ⟨rfl,hb5⟩;have HB5:=h_ (below_go HB4.out hb5);clear hb5))
       go_roundw
       case rel=>exact ⟨T',M',vs',on,t+1,_,by have:=HXT.out;omega,by have:=HXT.out;omega,rfl,rfl,HC3.out.u_ HB5.out,HS.out⟩
       case measure=>have:=HXT.out;simp[intOf];omega
      ·obtain ⟨FR,hFR⟩:=gN (fromT p T' t lt (ak,am))
       rw[hFR]at hlat
       have HLA:=h_ (show ∀W u,Ends W (w1.heap.size+1) M'→IsKeys W u KS→Calls Tryz.prog 42 #[.map (some (w1.heap.size+1)),u] W (fun e w'=>e=.returned (.tuple #[.int .i64 FR,.bool true])∧Below W.heap.size W w') from fun W u h1 h2=>by
        have:=latest_any _ u M' KS W h1 h2 hkk.out HKL.out
        rw[hlat]at this
        exact this)
       obtain ⟨LG,hLG⟩:=gN (lngA th bk t (ak,am))
       obtain ⟨lg0,lg1⟩:1≤LG∧LG≤1000000:=by rw[←hLG];exact HC.out t HTK.out _
       have hsum:sumN (lens T') p.length≤144:=by have h1:=HC3.out.clk.sum;have h2:=HTOT.out;omega
       obtain ⟨ff0,ff1⟩:0≤FR∧FR≤144000000:=by
        have:=(HC3.out.bd.mono (C:=144000000) (by omega)).from_ (p:=p) t lt (ak,am)
        rw[hFR]at this
        exact this
       obtain ⟨TO,hTO⟩:=gN (FR+LG)
       have hwr:IntKind.i64.wrap (FR+LG)=TO:=by rw[←hTO,IntKind.wrap_i64];omega
       have HNW:=h_ (show newT p th bk T' t (stA T' t).length (ak,am)=(FR,TO) by unfold newT;rw[HLN.out.2,hFR,hLG,hTO])
       obtain ⟨x1,hx1⟩:=gN ((th[xt.toNat]?).getD 0)
       obtain ⟨x2,hx2⟩:=gN ((bk[xt.toNat]?).getD 0)
       have HTA:=h_ (show ∀W,Calls Tryz.prog 44 #[.agg #[.int .i64 ak,.int .i64 am],.int .i64 x1,.int .i64 x2] W (fun e w'=>e=.returned (.int .i64 LG)∧Below W.heap.size W w') from fun W=>by
        have:=takes_any ak am x1 x2 W
        rw[show (if ak=1 then x1 else x2)=LG by
         rw[←hLG,←hx1,←hx2,show xt.toNat=t by have:=HXT.out;omega]
         unfold lngA
         have:=HAK.out
         by_cases q:ak=1
         ·rw[if_pos q,if_neg (by show ¬ak=2;omega)]
         ·rw[if_neg q,if_pos (by show ak=2;omega)]]at this
        exact this)
       have HSB:=h_ (show ∀W,Below wr.heap.size wr W→W.cell? ⟨b3,off3+lt*2,none⟩=some (.int .i64 ak)∧W.cell? ⟨b3,off3+lt*2+1,none⟩=some (.int .i64 am)∧W.cell? ⟨b1,off1+xt.toNat,none⟩=some (.int .i64 x1)∧W.cell? ⟨b2,off2+xt.toNat,none⟩=some (.int .i64 x2) from fun W hb=>by
        have c1:=HT1.out W (below_go HBW.out hb) t (by have:=HXT.out;omega)
        have c2:=HT2.out W (below_go HBW.out hb) t (by have:=HXT.out;omega)
        rw[show t=xt.toNat by have:=HXT.out;omega]at c1 c2
        rw[hx1]at c1
        rw[hx2]at c2
        exact ⟨(HD.out W hb).1,(HD.out W hb).2,c1,c2⟩)
       have HS:=h_ (HP3.out.go HC3.out.clk.len HTK.out (FR,TO))
       have HK2:=h_ (show Clk p th bk (pushT T' t (FR,TO)) by have:=HC3.out.clk.push HIN.out hcan HX.out;rw[HNW.out]at this;exact this)
       have HB2:=h_ (show BdT (pushT T' t (FR,TO)) ((sumN (lens (pushT T' t (FR,TO))) p.length:Nat)*1000000) by
        have:=HC3.out.bd.push HC.out (i:=(stA T' t).length) (a:=(ak,am)) HTK.out (by rw[HC3.out.clk.len];exact HTK.out)
        rw[HNW.out]at this
        rw[sum_push HC3.out.clk.len HTK.out]
        exact this.mono (by omega))
       have HT2':=h_ (HC3.out.told.push HC3.out.clk.len (fun s hs=>HAP.out s hs) HTK.out HX.out (FR,TO))
       have HNO:=h_ (show lookC M' ((t:Int),ak,am)=none by
        have:=HC3.out.told t (stA T' t).length (ak,am) HTK.out HX.out
        rw[if_neg (by omega)]at this
        exact this)
       have HXTZ:=h_ (show xt.toNat=t by have:=HXT.out;omega)
       clear hcan hlat hFR hLG hTO hx1 hx2 hsum
       go_wp2_with (first|(go_at_call 43;refine HWF.out.mono ?_;rintro e w4 ⟨ku,rfl,hks,hb4⟩;have HK4:=h_ hks;have HB4:=h_ hb4;clear hks hb4)|(go_at_call 42;refine (HLA.out w4 ku (HC3.out.en.u_ HB4.out) HK4.out).mono ?_;rintro e w5 ⟨rfl,hb5⟩;have HB5:=h_ (below_go HB4.out hb5);obtain ⟨c1,c2,c3,c4⟩:=HSB.out w5 HB5.out;clear hb5))
       go_region_held3 (fun W'=>W'.cell? ⟨b3,off3+lt*2,none⟩=some (.int .i64 ak)∧W'.cell? ⟨b3,off3+lt*2+1,none⟩=some (.int .i64 am)∧W'.cell? ⟨b1,off1+xt.toNat,none⟩=some (.int .i64 x1)∧W'.cell? ⟨b2,off2+xt.toNat,none⟩=some (.int .i64 x2)) ((refine HSB.out _ (below_go HB5.out ?_);repeat' (first|with_reducible exact Below.refl _ _|with_reducible refine pn_drew ?_|with_reducible refine pn_drewN ?_|with_reducible refine below_go ?_ hb6)))
        (first|(go_at_call 44;refine (HTA.out _).mono ?_;rintro e w6 ⟨rfl,hb6⟩))
       have HB6:=h_ (show Below wr.heap.size wr w6 from below_go (below_go HB5.out (pn_drew (Below.refl _ _))) hb6)
       clear c1 c2 c3 c4 hb6
       obtain ⟨c1,c2,_,_⟩:=HSB.out w6 HB6.out
       have HKY:=h_ (ckey_any xt ak am w6)
       have HEA:=h_ (show ∀W,Ends W (w1.heap.size+1) M'→∃w',(Instr.mapUpdate 96 (.map (some (w1.heap.size+1))) (.agg #[.int .i64 xt,.int .i64 ak,.int .i64 am]) (.int .i64 TO)).run Tryz.prog W=.ok () w'∧Ends w' (w1.heap.size+1) (M'++[(((t:Int),ak,am),TO)])∧W.grownBy w' (some (w1.heap.size+1)) from fun W hW=>by
        have:=hW.add HOK.out HNO.out TO
        unfold keyD at this
        rw[HXT.out]
        exact this)
       go_wp2_with (first|(go_at_call 45;refine HKY.out.mono ?_;rintro e w7 ⟨rfl,hb7⟩;have HB7:=h_ (below_go HB6.out hb7);obtain ⟨w8,hrun,hen8,hg8⟩:=HEA.out w7 (HC3.out.en.u_ HB7.out);have HE8:=h_ hen8;have HG8:=h_ hg8;have HS8:=h_ ((HC3.out.sp.u_ HB7.out).map (HC3.out.en.u_ HB7.out) hg8);have hc8:=HS8.out.cell HU.out;rw[←HXTZ.out]at hc8;clear hb7 hen8 hg8)|(at_builtin;refine app_span (w:=w8) rfl _ _ rfl w1.heap.size w1.heap.size t (.slice ua lt uk) vs' T' FR TO rfl HS8.out HU.out rfl ?h1 ?h2 ?_))
       case h1=>have:=HLN.out.2;omega
       case h2=>exact Nat.le_trans (Nat.le_trans HC3.out.bl.size HB7.out.size) HG8.out.size
       intro v' w9 hsp9 hc9 hf9 hen9 hbl9
       have HRES:=h_ (show CT w1 (w9.setCell ⟨w1.heap.size,xt.toNat,none⟩ v') p th bk (vs'.set t v') (pushT T' t (FR,TO)) (M'++[(((t:Int),ak,am),TO)]) by
        rw[HXTZ.out]
        exact ⟨hsp9,hen9 _ _ HE8.out,HT2'.out,HK2.out,HB2.out,hbl9 w1 ((below_go HC3.out.bl HB7.out).grown HG8.out (Nat.le_trans HC3.out.bl.size HB7.out.size) (fun k hk=>by have:=Option.some.inj hk;omega)) (Nat.le_refl _)⟩)
       obtain ⟨va,vk,hve⟩:∃a k,v'=.slice a ((stA T' t).length+1) k:=by
        have:=(hsp9.own t v' (List.getElem?_set_self (List.getElem?_eq_some_iff.1 HU.out).1)).shape
        rw[push_ln (by rw[HC3.out.clk.len];exact HTK.out),if_pos rfl]at this
        exact this
       rw[HLN.out.2]at hve
       subst hve
       rw[←HXTZ.out]at hc9 hf9
       clear hsp9 hen9 hbl9
       go_wp2
       go_roundw
       case rel=>exact ⟨_,_,_,true,t+1,_,by have:=HXT.out;omega,by have:=HXT.out;omega,rfl,rfl,HRES.out,HS.out⟩
       case measure=>have:=HXT.out;simp[intOf];omega
    ·have HTN:=h_ (show t=p.length by have:=HXT.out;have:=HN.out;omega)
     have HEND:=h_ (show PassC p T T' p.length on by rw[←HTN.out];exact HP3.out)
     have HCLO:=h_ (show on=false→Closed p (lens T') from fun e=>by
      obtain ⟨h1,h2⟩:=HEND.out.no e
      rw[h1]
      exact fun s hs=>h2 s hs)
     have HMM:=h_ (show tot - sumN (lens T') p.length+(if on=true then 1 else 0)≤tot - sumN (lens T) p.length by
      have h1:=HCT.out.clk.sum
      have h2:=HC3.out.clk.sum
      have h3:=HTOT.out
      cases on with
      |true=>have h4:=HEND.out.yes rfl;rw[if_pos rfl];omega
      |false=>have h4:=(HEND.out.no rfl).1;rw[h4]at h2 ⊢;rw[if_neg (by decide)];omega)
     go_wp2
     go_roundg (tot - sumN (lens T') p.length+(if on=true then 1 else 0))
     case measure=>have h1:=HMM.out;have h2:=HME.out;omega
     case rel=>exact ⟨T',M',vs',on,rfl,HC3.out,HCLO.out,Nat.le_refl _⟩
end Go.Proofs.YtpniemnfdleiialGreat
