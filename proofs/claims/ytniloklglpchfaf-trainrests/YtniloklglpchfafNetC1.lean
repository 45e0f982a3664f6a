/- What Check of package net comes to: how wide a net is, or what is wrong. -/
import Derived.Test.YtniloklglpchfafPkLBox
import Derived.Test.YtniloklglpchfafLWide
import Derived.Test.YtniloklglpchfafPkReg
namespace Go.Proofs.Ytniloklglpchfaf
open Go.RowKit
theorem count_any(a:Option Addr)(N cap:Nat)(w:World)(hN:N≤maxLen):Calls Try.prog 13 #[.slice a N cap] w fun e w'=>e=.returned (errV (if 12<N then 3 else 0))∧w'=w:=by
 unfold maxLen at hN
 by_cases h12:12<N
 ·have h12':(12:Int)<(N:Int):=by omega
  rw[if_pos h12]
  go_enter Try.func13,Try.ntmps13
  go_wp2
  go_ret
  exact ⟨rfl,rfl⟩
 ·have h12':¬(12:Int)<(N:Int):=by omega
  rw[if_neg h12]
  go_enter Try.func13,Try.ntmps13
  go_wp2
  go_ret
  exact ⟨rfl,rfl⟩
theorem gives_range{l:Ly}{m:Int}(h:wideE l m=0):0≤g_ l m∧g_ l m≤12:=by
 unfold wideE at h
 by_cases hf:l_ l=0
 ·rw[if_neg (by simp[hf])]at h
  by_cases hm:m<0∨12<m
  ·rw[if_pos hm]at h;cases h
  ·obtain ⟨_,_,fw,_,_⟩:=lgood_of hf
   obtain ⟨_,Cw,gw⟩:=o__ fw
   have h1:=gw.c
   have h2:=gw.hC
   unfold g_;split<;>omega
 ·rw[if_pos hf]at h;exact absurd h hf
set_option maxHeartbeats 4000000 in
set_option maxRecDepth 100000 in
theorem netcheck_any(v:Value)(ls:List Ly)(n:Int)(w:World)(hv:Y_ w v ls):
  Calls Try.prog 56 #[v,.int .i64 n] w fun e w'=>e=.returned (.tuple #[.int .i64 (nwX ls n),errV (nwE ls n)])∧Below w.heap.size w w':=by
 obtain ⟨a,cap,rfl,hlc,hcm⟩:=hv.shape
 have HV:=h_ hv
 obtain ⟨N,hN⟩:=gN (ls.length)
 have HN:=h_ hN
 have hNm:N≤maxLen:=by omega
 have HNM:=h_ hNm
 unfold maxLen at hNm
 obtain ⟨X,hX⟩:=gN (nwX ls n)
 obtain ⟨E,hE⟩:=gN (nwE ls n)
 have HX:=h_ (And.intro hX hE)
 have HC:=h_ (count_any a N cap w HNM.out)
 rw[hX,hE]
 rw[hN]at HV ⊢
 clear hX hE hv hN hlc hcm
 by_cases h12:12<N
 ·obtain rfl:E=3:=by rw[←HX.out.2];unfold nwE;rw[if_pos (by rw[HN.out];exact h12)]
  obtain rfl:X=0:=by rw[←HX.out.1];unfold nwX;rw[HX.out.2,if_neg (by decide)]
  rw[if_pos h12,n_ (by decide)]at HC
  rw[n_ (by decide)]
  clear h12
  go_enter Try.func56,Try.ntmps56
  go_wp2_with fail
  refine HC.out.mono ?_
  rintro e w1 ⟨rfl,rfl⟩
  go_wp2
  exact bodyPost_ret (v:=.tuple #[.int .i64 0,.iface 65 (.int .i64 3)]) (by simp[results,Try.results56,go_sem]) rfl ⟨rfl,Below.refl _ _⟩
 ·have h12':¬(12:Int)<(N:Int):=by omega
  have hE0:netE ls n=E:=by rw[←HX.out.2];unfold nwE;rw[if_neg (by rw[HN.out];exact h12)]
  have hX0:(if E=0 then netW ls n else 0)=X:=by rw[←HX.out.1];unfold nwX;rw[HX.out.2]
  have HEE:=h_ (And.intro hE0 hX0)
  rw[if_neg h12,e_ rfl]at HC
  clear hE0 hX0 hNm
  by_cases hbad:N=0∧(n<0∨12<n)
  ·obtain ⟨h0,hr⟩:=hbad
   have hls:ls=[]:=List.eq_nil_of_length_eq_zero (HN.out.trans h0)
   subst hls
   obtain rfl:E=1:=by rw[←HEE.out.1];unfold netE;rw[if_pos hr]
   obtain rfl:X=0:=by rw[←HEE.out.2,if_neg (by decide)]
   subst h0
   rw[n_ (by decide)]
   rcases hr with hr|hr
   ·go_enter Try.func56,Try.ntmps56
    go_wp2_with fail
    refine HC.out.mono ?_
    rintro e w1 ⟨rfl,rfl⟩
    go_wp2
    exact bodyPost_ret (v:=.tuple #[.int .i64 0,.iface 65 (.int .i64 1)]) (by simp[results,Try.results56,go_sem]) rfl ⟨rfl,Below.refl _ _⟩
   ·have hr':¬n<0:=by omega
    go_enter Try.func56,Try.ntmps56
    go_wp2_with fail
    refine HC.out.mono ?_
    rintro e w1 ⟨rfl,rfl⟩
    go_wp2
    exact bodyPost_ret (v:=.tuple #[.int .i64 0,.iface 65 (.int .i64 1)]) (by simp[results,Try.results56,go_sem]) rfl ⟨rfl,Below.refl _ _⟩
  ·by_cases h0:N=0
   ·have h1:¬n<0:=fun h=>hbad ⟨h0,.inl h⟩
    have h2:¬12<n:=fun h=>hbad ⟨h0,.inr h⟩
    have hls:ls=[]:=List.eq_nil_of_length_eq_zero (HN.out.trans h0)
    subst hls
    obtain rfl:E=0:=by rw[←HEE.out.1];unfold netE;rw[if_neg (by omega)]
    obtain rfl:X=n:=by rw[←HEE.out.2,if_pos rfl];rfl
    subst h0
    rw[e_ rfl]
    clear hbad HX HEE
    go_enter Try.func56,Try.ntmps56
    go_wp2_with fail
    refine HC.out.mono ?_
    rintro e w1 ⟨rfl,rfl⟩
    clear HC
    go_wp2
    go_loopw [7,32] (fun s a wr=>s=.int .i64 X∧a=.int .i64 0∧wr=w1) (fun _ _ _=>0)
    case atStart=>exact ⟨rfl,rfl,rfl⟩
    case round=>
     obtain ⟨rfl,rfl,rfl⟩:=hrel
     go_wp2
     exact bodyPost_ret (v:=.tuple #[.int .i64 X,.nilIface]) (by simp[results,Try.results56,go_sem]) rfl ⟨rfl,Below.refl _ _⟩
   ·have h0':((N:Int)==0)=false:=by simpa using h0
    have HN0:=h_ (show 0<N by omega)
    clear hbad h0 h12
    go_enter Try.func56,Try.ntmps56
    go_wp2_with fail
    refine HC.out.mono ?_
    rintro e w0 ⟨rfl,rfl⟩
    clear HC
    go_wp2
    go_loopw [7,32] (fun s a wr=>∃(i:Nat) (xi m:Int),i≤N∧xi=(i:Int)∧a=.int .i64 xi∧s=.int .i64 m∧netE (ls.drop i) m=E∧netW (ls.drop i) m=netW ls n∧(i<N∨(0≤m∧m≤12))∧Below w0.heap.size w0 wr) (fun _ a _=>N - (intOf a).toNat)
    case atStart=>exact ⟨0,0,n,Nat.zero_le _,rfl,rfl,rfl,HEE.out.1,rfl,.inl HN0.out,Below.refl _ _⟩
    case round=>
     obtain ⟨i,xi,m,hi,hxi,rfl,rfl,he,hw,hr,hb⟩:=hrel
     have HXI:=h_ hxi
     have HR:=h_ (And.intro he hw)
     have HRG:=h_ hr
     have HB:=h_ hb
     have hxi0:0≤xi:=by omega
     have hxi1:xi≤12:=by omega
     clear hxi he hw hb hr
     by_cases hlt:xi<(N:Int)
     ·have hin:i<N:=by have:=HXI.out;omega
      have hxn:xi.toNat=i:=by have:=HXI.out;omega
      obtain ⟨l,hl⟩:∃l,ls[i]?=some l:=⟨ls[i]'(by have:=HN.out;omega),List.getElem?_eq_getElem _⟩
      obtain ⟨b,off,cp,sa,sn,sk,ta,tn,tk,ev,k0,k1,k2,k3,k4,k5,k6,hly⟩:=HV.out.at hl
      injection ev with ev1 ev2 ev3
      clear ev2 ev3
      subst ev1
      rw[←hxn]at k0 k1 k2 k3 k4 k5 k6
      have HK:=h_ (fun W (h:Below w0.heap.size w0 W)=>And.intro (c_ h k0) (And.intro (c_ h k1) (And.intro (c_ h k2) (And.intro (c_ h k3) (And.intro (c_ h k4) (And.intro (c_ h k5) (c_ h k6)))))))
      have HLY:=h_ hly
      have HDR:=h_ (drop_at hl)
      obtain ⟨q,hq⟩:=gN (wideX l m)
      obtain ⟨we,hwe⟩:=gN (wideE l m)
      have HQ:=h_ (And.intro hq hwe)
      clear k0 k1 k2 k3 k4 k5 k6 hly hl hxn hq hwe
      obtain ⟨k0,k1,k2,k3,k4,k5,k6⟩:=HK.out wr HB.out
      obtain ⟨he,hw⟩:=HR.out
      rw[HDR.out]at he hw
      have HWD:=h_ (fun W (h:Below w0.heap.size w0 W)=>lwide_any _ l m W (HLY.out.u_ h))
      rw[HQ.out.1,HQ.out.2]at HWD
      by_cases hg:we=0
      ·have HRN:=h_ (show netE (ls.drop (i+1)) q=E∧netW (ls.drop (i+1)) q=netW ls n∧0≤q∧q≤12 by
        have e1:wideE l m=0:=HQ.out.2.trans hg
        have e2:g_ l m=q:=by rw[←HQ.out.1];unfold wideX;rw[if_pos e1]
        have r:=gives_range e1
        unfold netE at he
        rw[if_neg (by simp[e1]),e2]at he
        replace hw:netW (ls.drop (i+1)) (g_ l m)=netW ls n:=hw
        rw[e2]at hw r
        exact ⟨he,hw,r.1,r.2⟩)
       subst hg
       rw[e_ rfl]at HWD
       clear he hw
       go_wp2_with fail
       refine (HWD.out _ (a_ HB.out)).mono ?_
       rintro e w1 ⟨rfl,hb1⟩
       have HB1:=h_ (b_ (a_ HB.out) hb1)
       clear hb1 k0 k1 k2 k3 k4 k5 k6
       go_wp2
       go_roundw
       case rel=>exact ⟨i+1,_,q,by omega,by have:=HXI.out;omega,rfl,rfl,HRN.out.1,HRN.out.2.1,.inr HRN.out.2.2,HB1.out⟩
       case measure=>have:=HXI.out;simp[intOf];omega
      ·have hEE:we=E:=by rw[←he];unfold netE;rw[HQ.out.2,if_pos hg]
       subst hEE
       obtain rfl:X=0:=by rw[←HEE.out.2,if_neg hg]
       have HG:=h_ hg
       rw[n_ hg]at HWD
       clear he hw hg
       go_wp2_with fail
       refine (HWD.out _ (a_ HB.out)).mono ?_
       rintro e w1 ⟨rfl,hb1⟩
       have HB1:=h_ (b_ (a_ HB.out) hb1)
       clear hb1 k0 k1 k2 k3 k4 k5 k6
       go_wp2
       exact bodyPost_ret (v:=.tuple #[.int .i64 0,.iface 65 (.int .i64 we)]) (by simp[results,Try.results56,go_sem]) rfl ⟨by rw[n_ HG.out],HB1.out⟩
     ·have hin:i=N:=by have:=HXI.out;omega
      obtain ⟨he,hw⟩:=HR.out
      rw[hin,←HN.out,List.drop_length]at he hw
      have hrg:0≤m∧m≤12:=HRG.out.resolve_left (by omega)
      have hE0:E=0:=by rw[←he];unfold netE;rw[if_neg (by omega)]
      subst hE0
      have hX0:m=X:=by rw[←HEE.out.2,if_pos rfl,←hw];rfl
      subst hX0
      clear he hw hin hrg
      go_wp2
      exact bodyPost_ret (v:=.tuple #[.int .i64 m,.nilIface]) (by simp[results,Try.results56,go_sem]) rfl ⟨rfl,HB.out⟩
end Go.Proofs.Ytniloklglpchfaf
