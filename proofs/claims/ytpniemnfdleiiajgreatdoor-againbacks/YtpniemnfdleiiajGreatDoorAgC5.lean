/- What forth of package again comes to: what is kept of a net that goes forward, or what is wrong. -/
import Derived.Test.YtpniemnfdleiiajGreatDoorAgC2
import Derived.Test.YtpniemnfdleiiajGreatDoorAgS
import Derived.Test.YtpniemnfdleiiajGreatDoorPkLWide
import Derived.Deep.CutRange
namespace Go.Proofs.YtpniemnfdleiiajGreatDoor
open Go.RowKit
structure AgAt (ls:List Ly) (x:Mx) (i:Nat) (m:Mx) (E:Int):Prop where
 at_:(x::runT ls x)[i]?=some m
 er:runE (ls.drop i) m=E
theorem AgAt.start(ls:List Ly)(x:Mx):AgAt ls x 0 x (runE ls x):=⟨rfl,rfl⟩
theorem run_at:∀(ls:List Ly) (x:Mx) (i:Nat) (l:Ly) (m:Mx),ls[i]?=some l→(x::runT ls x)[i]?=some m→(x::runT ls x)[i+1]?=some (goX l m)
 |[],x,i,l,m,h,_=>by simp at h
 |l0::ls,x,0,l,m,h,hm=>by
  simp at h hm
  subst h hm
  rfl
 |l0::ls,x,i+1,l,m,h,hm=>run_at ls (goX l0 x) i l m (by simpa using h) (by simpa [runT] using hm)
theorem AgAt.next{ls:List Ly}{x m:Mx}{i:Nat}{E:Int}{l:Ly}(h:AgAt ls x i m E)(hl:ls[i]?=some l):(goE l m=0→AgAt ls x (i+1) (goX l m) E)∧(goE l m≠0→goE l m=E):=by
 have hd:ls.drop i=l::ls.drop (i+1):=by
  obtain ⟨hi,rfl⟩:=List.getElem?_eq_some_iff.1 hl
  exact List.drop_eq_getElem_cons hi
 have he:=h.er
 rw[hd]at he
 refine ⟨fun h0=>⟨run_at _ _ _ _ _ hl h.at_,?_⟩,fun h0=>?_⟩
 ·rw[←he];show _=(if goE l m≠0 then _ else _);rw[if_neg (by simp[h0])]
 ·rw[←he];show _=(if goE l m≠0 then _ else _);rw[if_pos h0]
theorem AgAt.stop{ls:List Ly}{x m:Mx}{E:Int}(h:AgAt ls x ls.length m E):E=0:=by
 have he:=h.er
 rw[List.drop_length]at he
 exact he.symm
set_option maxHeartbeats 16000000 in
set_option maxRecDepth 100000 in
theorem forth_any(e N:Nat)(ls:List Ly)(x:Mx)(v vx:Value)(w:World)(hv:Y_ w v ls)(hx:M_ w vx x)(hN:ls.length=N)(he:1≤e)(he2:e≤12):
  Calls Tryz.prog 14 #[v,vx,.int .i64 (e:Int)] w fun r w'=>Below w.heap.size w w'∧
   ((ngE ls x=0∧∃S M,r=.returned (.tuple #[.pointer (some ⟨S,0,none⟩),.nilIface])∧w.heap.size≤S∧w.heap.size≤M∧Shelf (fun b=>b=S∨b=M) w' S M (x::runT ls x) (hdK e N++[N]) (hdK e N++[N]).length)∨
    (ngE ls x≠0∧r=.returned (.tuple #[.pointer none,.iface 31 (.int .i64 (ngE ls x))]))):=by
 obtain ⟨va,vk,rfl,hlc,hcm⟩:=hv.shape
 obtain ⟨sx,rfl,hsx⟩:=hx
 obtain ⟨xa,xn,xk,rfl⟩:=hsx.shape
 obtain ⟨xe,hxe⟩:∃x:Int,(e:Int)=x:=⟨_,rfl⟩
 rw[hN]at hlc hv ⊢
 rw[hxe]
 obtain ⟨V,hV⟩:=gM (w.alloc (.cells #[.int .i64 x.rows,.int .i64 x.cols,.slice xa xn xk] 25))
 have HV:=h_ hV
 have HWV:Hid (Below w.heap.size w V):=by rw[hV];exact h_ (o_ _ _)
 have HBX:Hid (Blk V w.heap.size #[.int .i64 x.rows,.int .i64 x.cols,.slice xa xn xk] 25):=by rw[hV];exact h_ (Blk.new w _ _ rfl)
 have HC:=h_ (C_ (.agg #[.int .i64 x.rows,.int .i64 x.cols,.slice xa xn xk]) x V ⟨_,rfl,hsx.u_ HWV.out⟩)
 obtain ⟨F,hF⟩:=gN (q_ x)
 obtain ⟨E,hE⟩:=gN (ngE ls x)
 rw[hF]at HC
 rw[hE]
 have HFE:=h_ (And.intro hF (And.intro hE (And.intro hN hxe)))
 obtain ⟨ur,hur⟩:=gN (x.rows)
 obtain ⟨uc,huc⟩:=gN (x.cols)
 have HUR:=h_ (And.intro hur huc)
 rw[hur,huc]at HV HBX HC ⊢
 have HL:=h_ hv
 have HSX:=h_ hsx
 have HEE:=h_ (And.intro he he2)
 have hnm:N≤maxLen:=Nat.le_trans hlc hcm
 unfold maxLen at hnm
 have b0:1≤xe:=by omega
 have b1:xe≤12:=by omega
 clear hv hsx hN he he2 hxe hlc hcm hV hF hE hur huc
 by_cases h12:12<(N:Int)
 ·obtain rfl:E=3:=by rw[←HFE.out.2.1];unfold ngE;rw[if_pos (by rw[HFE.out.2.2.1];omega)]
  go_enter Tryz.func14,Tryz.ntmps14
  go_wp2
  rw[←HV.out]
  exact bodyPost_ret (v:=.tuple #[.pointer none,.iface 31 (.int .i64 3)]) (by simp[results,Tryz.results14,go_sem]) rfl ⟨HWV.out,.inr ⟨by decide,rfl⟩⟩
 ·have hN12:N≤12:=by omega
  have HE1:=h_ (show (if F≠0 then F else runE ls x)=E by rw[←HFE.out.2.1,←HFE.out.1];unfold ngE;rw[if_neg (show ¬12<ls.length by rw[HFE.out.2.2.1];omega)])
  have h12':(N:Int)≤12:=by omega
  clear hnm h12
  go_enter Tryz.func14,Tryz.ntmps14
  have g0:V.cell? ⟨w.heap.size,0,none⟩=some (.int .i64 ur):=HBX.out.cell (j:=0) rfl
  have g1:V.cell? ⟨w.heap.size,1,none⟩=some (.int .i64 uc):=HBX.out.cell (j:=1) rfl
  have g2:V.cell? ⟨w.heap.size,2,none⟩=some (.slice xa xn xk):=HBX.out.cell (j:=2) rfl
  rw[HV.out]at g0 g1 g2
  go_wp2_with fail
  rw[←HV.out]
  refine HC.out.mono ?_
  rintro r w1 ⟨rfl,hb1⟩
  have HB1:=h_ (b_ HWV.out hb1)
  have HX1:=h_ (HBX.out.u_ hb1)
  clear HC g0 g1 g2 hb1
  by_cases hf:F=0
  ·subst hf
   rw[e_ rfl]
   have HE2:=h_ (show runE ls x=E by rw[←HE1.out,if_neg (by simp)])
   obtain ⟨W1,hW1⟩:=gM ((w1.alloc (.map #[] 0)).alloc (.cells #[.map (some w1.heap.size),.int .i64 0] 54))
   have hb1:Below w1.heap.size w1 W1:=by rw[hW1];exact a_ (o_ _ _)
   have g0:W1.cell? ⟨w.heap.size,0,none⟩=some (.int .i64 ur):=(HX1.out.u_ hb1).cell (j:=0) rfl
   have g1:W1.cell? ⟨w.heap.size,1,none⟩=some (.int .i64 uc):=(HX1.out.u_ hb1).cell (j:=1) rfl
   have g2:W1.cell? ⟨w.heap.size,2,none⟩=some (.slice xa xn xk):=(HX1.out.u_ hb1).cell (j:=2) rfl
   obtain ⟨W2,hW2⟩:=gM (W1.alloc (.cells #[.int .i64 ur,.int .i64 uc,.slice xa xn xk] 25))
   obtain ⟨A,hA⟩:∃A:Nat→Prop,A=fun b=>b=w1.heap.size∨b=w1.heap.size+1∨b=w1.heap.size+1+1:=⟨_,rfl⟩
   have HAZ:=h_ hA
   have hZs:W1.heap.size=w1.heap.size+1+1:=by rw[hW1];simp
   have hb2:Below w.heap.size w W2:=by rw[hW2];exact a_ (b_ HB1.out hb1)
   have HB2:=h_ hb2
   have HZW:=h_ (show w.heap.size≤w1.heap.size from HB1.out.size)
   have hml:(x::runT ls x).length≤13:=by rw[List.length_cons,runT_len,HFE.out.2.2.1];omega
   have HSH:Hid (Shelf A W2 (w1.heap.size+1) w1.heap.size (x::runT ls x) [] 0):=by
    have h:=Shelf.new (A:=A) w1 (x::runT ls x) hml (by rw[hA];exact .inr (.inl rfl)) (by rw[hA];exact .inl rfl)
    rw[←hW1]at h
    rw[hW2]
    exact h_ (h.u_ (o_ _ _))
   have HBL:Hid (Blk W2 (w1.heap.size+1+1) #[.int .i64 x.rows,.int .i64 x.cols,.slice xa xn xk] 25):=by rw[hW2,HUR.out.1,HUR.out.2];exact h_ (Blk.new _ _ _ hZs)
   have HPX:=h_ (show P_ W2 A (.inr x.cells) (.slice xa xn xk) from part_old HSX.out hb2 (fun b hb=>by rw[hA]at hb;have:=HZW.out;omega))
   have hmm:=@run_makeMap Tryz.prog
   rw[hW1]at hW2 g0 g1 g2
   have HW2:=h_ hW2
   clear hW1 hW2 hA hb1 hb2 hml hZs
   go_wp2
   rw[←HW2.out]
   go_loopw [11,12,13,14,30] (fun _ _ _ _ iv wr=>∃(i:Nat) (xi:Int) (m:Mx) (ua:Option Addr) (un uk:Nat),i≤N∧xi=(i:Int)∧iv=.int .i64 xi∧AgAt ls x i m E∧Shelf A wr (w1.heap.size+1) w1.heap.size (x::runT ls x) (hdK e i) (hdK e i).length∧Blk wr (w1.heap.size+1+1) #[.int .i64 m.rows,.int .i64 m.cols,.slice ua un uk] 25∧P_ wr A (.inr m.cells) (.slice ua un uk)∧Below w.heap.size w wr) (fun _ _ _ _ iv _=>N - (intOf iv).toNat)
   case atStart=>exact ⟨0,0,x,xa,xn,xk,Nat.zero_le _,rfl,rfl,by rw[←HE2.out];exact AgAt.start ls x,HSH.out,HBL.out,HPX.out,HB2.out⟩
   case round=>
    obtain ⟨i,xi,m,ua,un,uk,hiN,hxi,rfl,hal,hsh,hbl,hpm,hbw⟩:=hrel
    have HXI:=h_ hxi
    have hxi0:0≤xi:=by omega
    have hxi1:xi≤12:=by omega
    by_cases hlt:xi<(N:Int)
    ·have hin:i<N:=by omega
     obtain ⟨l,hl⟩:∃l,ls[i]?=some l:=⟨ls[i]'(by rw[HFE.out.2.2.1];exact hin),List.getElem?_eq_getElem _⟩
     obtain ⟨lb,lo,lcap,sa,sn,sk,ta,tn,tk,ev,k0,k1,k2,k3,k4,k5,k6,hly⟩:=HL.out.at hl
     injection ev with ev1 ev2 ev3
     clear ev2 ev3
     subst ev1
     have hxn:xi.toNat=i:=by omega
     rw[←hxn]at k0 k1 k2 k3 k4 k5 k6
     replace k0:=c_ hbw k0
     replace k1:=c_ hbw k1
     replace k2:=c_ hbw k2
     replace k3:=c_ hbw k3
     replace k4:=c_ hbw k4
     replace k5:=c_ hbw k5
     replace k6:=c_ hbw k6
     obtain ⟨y,hy⟩:=gN (goX l m)
     obtain ⟨ge,hge⟩:=gN (goE l m)
     have hnx:=hal.next hl
     rw[hge,hy]at hnx
     have HNX:=h_ hnx
     have HAT:=h_ hal.at_
     have HLY:=h_ hly
     have HSR:=h_ hsh
     have HBR:=h_ hbl
     have HPM:=h_ hpm
     have HBW:=h_ hbw
     have HGY:=h_ (And.intro hy (And.intro hge hin))
     obtain ⟨W4,hW4⟩:=gM (wr.alloc (.cells #[.int .i64 l.k,.int .i64 l.w.rows,.int .i64 l.w.cols,.slice sa sn sk,.int .i64 l.b.rows,.int .i64 l.b.cols,.slice ta tn tk] 60))
     have hb4:Below wr.heap.size wr W4:=by rw[hW4];exact o_ _ _
     have HB4:=h_ hb4
     have HS4:=h_ (hsh.u_ hb4)
     have HL4:=h_ (hbl.u_ hb4)
     have HP4:=h_ (hpm.u_ hb4)
     have HY4:=h_ (show Blk W4 wr.heap.size #[.int .i64 l.k,.int .i64 l.w.rows,.int .i64 l.w.cols,.slice sa sn sk,.int .i64 l.b.rows,.int .i64 l.b.cols,.slice ta tn tk] 60 by rw[hW4];exact Blk.new _ _ _ rfl)
     have HW4:=h_ hW4
     have hrm:IntKind.i64.wrap 0=0:=rfl
     clear hxi hiN hal hsh hbl hpm hbw hin hl hxn hly hy hge hnx hW4 hb4
     go_upto_if 38 with fail
     rw[←HW4.out]
     go_cut [11] from 38 to 42 (fun iv wx=>iv=.int .i64 xi∧Shelf A wx (w1.heap.size+1) w1.heap.size (x::runT ls x) (hdK e (i+1)) (hdK e (i+1)).length∧Kept (fun b=>b=w1.heap.size+1∨b=w1.heap.size) W4 wx)
     case first=>
      have hme:xi % xe=((i % e:Nat):Int):=by have h1:=HXI.out;have h2:=HFE.out.2.2.2;rw[h1,←h2];exact (Int.natCast_emod i e).symm
      have u0:W4.cell? ⟨w1.heap.size+1+1,0,none⟩=some (.int .i64 m.rows):=HL4.out.cell (j:=0) rfl
      have u1:W4.cell? ⟨w1.heap.size+1+1,1,none⟩=some (.int .i64 m.cols):=HL4.out.cell (j:=1) rfl
      have u2:W4.cell? ⟨w1.heap.size+1+1,2,none⟩=some (.slice ua un uk):=HL4.out.cell (j:=2) rfl
      by_cases hm:i % e=0
      ·have n1:(xi % xe==0)=true:=by rw[hme,hm];rfl
       have hP:=agput_any A (w1.heap.size+1) w1.heap.size (x::runT ls x) (hdK e i) _ i m (.agg #[.int .i64 m.rows,.int .i64 m.cols,.slice ua un uk]) W4 HS4.out (fun h=>Nat.lt_irrefl _ (hdK_lt h)) HAT.out ⟨_,rfl,HP4.out⟩
       rw[←HXI.out,←hdK_in hm,show max (hdK e i).length ((hdK e i).length+1)=(hdK e (i+1)).length by rw[hdK_in hm,List.length_append,List.length_singleton];omega]at hP
       have HP:=h_ hP
       clear hP hme hm
       go_wp2_with fail
       refine HP.out.mono ?_
       rintro r w2 ⟨rfl,h1,h2⟩
       have H1:=h_ (And.intro h1 h2)
       clear h1 h2 u0 u1 u2
       go_wp2
       go_meet
       exact ⟨by first|rfl|trivial,H1.out.1,H1.out.2⟩
      ·have n1:(xi % xe==0)=false:=by rw[hme];simp;omega
       have H1:=h_ (show Shelf A W4 (w1.heap.size+1) w1.heap.size (x::runT ls x) (hdK e (i+1)) (hdK e (i+1)).length by rw[hdK_out hm];exact HS4.out)
       clear hme hm u0 u1 u2
       go_wp2
       go_meet
       exact ⟨by first|rfl|trivial,H1.out,Kept.refl _ _⟩
     case rest=>
      obtain ⟨rfl,hs5,hk5⟩:=hcut
      obtain ⟨W5,hW5⟩:=gM (wc)
      subst hW5
      have hne:∀b,b=w1.heap.size+1∨b=w1.heap.size→A b:=fun b h=>by rw[HAZ.out];omega
      have HL5:=h_ (HL4.out.keep hk5 (fun h=>by omega))
      have HY5:=h_ (HY4.out.keep hk5 (fun h=>by have:=HSR.out.ltM;have:=HBR.out.lt;omega))
      have HP5:=h_ (HP4.out.kept hk5 hne)
      have HB5:=h_ (Kept.u_ (N:=w.heap.size) (b_ HBW.out HB4.out) hk5 (by have:=(b_ HBW.out HB4.out).size;exact this) (fun k h=>by have:=HZW.out;omega))
      have HS5:=h_ hs5
      have HT:=h_ (lgo_any (.agg #[.int .i64 l.k,.int .i64 l.w.rows,.int .i64 l.w.cols,.slice sa sn sk,.int .i64 l.b.rows,.int .i64 l.b.cols,.slice ta tn tk]) l m (.agg #[.int .i64 m.rows,.int .i64 m.cols,.slice ua un uk]) W5 ?hly ⟨_,rfl,HP5.out.1⟩)
      case hly=>exact HLY.out.u_ HB5.out
      rw[HGY.out.1,HGY.out.2.1]at HT
      have u0:W5.cell? ⟨w1.heap.size+1+1,0,none⟩=some (.int .i64 m.rows):=HL5.out.cell (j:=0) rfl
      have u1:W5.cell? ⟨w1.heap.size+1+1,1,none⟩=some (.int .i64 m.cols):=HL5.out.cell (j:=1) rfl
      have u2:W5.cell? ⟨w1.heap.size+1+1,2,none⟩=some (.slice ua un uk):=HL5.out.cell (j:=2) rfl
      have c0:W5.cell? ⟨wr.heap.size,0,none⟩=some (.int .i64 l.k):=HY5.out.cell (j:=0) rfl
      have c1:W5.cell? ⟨wr.heap.size,1,none⟩=some (.int .i64 l.w.rows):=HY5.out.cell (j:=1) rfl
      have c2:W5.cell? ⟨wr.heap.size,2,none⟩=some (.int .i64 l.w.cols):=HY5.out.cell (j:=2) rfl
      have c3:W5.cell? ⟨wr.heap.size,3,none⟩=some (.slice sa sn sk):=HY5.out.cell (j:=3) rfl
      have c4:W5.cell? ⟨wr.heap.size,4,none⟩=some (.int .i64 l.b.rows):=HY5.out.cell (j:=4) rfl
      have c5:W5.cell? ⟨wr.heap.size,5,none⟩=some (.int .i64 l.b.cols):=HY5.out.cell (j:=5) rfl
      have c6:W5.cell? ⟨wr.heap.size,6,none⟩=some (.slice ta tn tk):=HY5.out.cell (j:=6) rfl
      clear hs5 hk5 hne
      go_wp2_with fail
      refine HT.out.mono ?_
      rintro r w3 ⟨v',rfl,⟨s',rfl,hs'⟩,hb3,hf⟩
      obtain ⟨ja,jn,jk,rfl⟩:=hs'.shape
      have HS3:=h_ (HS5.out.u_ hb3)
      have HL3:=h_ (HL5.out.u_ hb3)
      have HB3:=h_ (b_ HB5.out hb3)
      have hAs:∀b,A b→b<W5.heap.size:=fun b hb=>by rw[HAZ.out]at hb;have:=HL5.out.lt;omega
      have HP3:=h_ (x_ hs' hf hAs)
      obtain ⟨yr,hyr⟩:=gN (y.rows)
      obtain ⟨yc,hyc⟩:=gN (y.cols)
      have HYR:=h_ (And.intro hyr hyc)
      rw[hyr,hyc]
      clear HT u0 u1 u2 c0 c1 c2 c3 c4 c5 c6 hs' hb3 hf hAs hyr hyc
      by_cases hg:ge=0
      ·subst hg
       rw[e_ rfl]
       obtain ⟨W6,hW6⟩:=gM (w3.alloc (.cells #[.int .i64 yr,.int .i64 yc,.slice ja jn jk] 25))
       have hb6:Below w3.heap.size w3 W6:=by rw[hW6];exact o_ _ _
       have HL6:=HL3.out.u_ hb6
       have u0:W6.cell? ⟨w1.heap.size+1+1,0,none⟩=some (.int .i64 m.rows):=HL6.cell (j:=0) rfl
       have u1:W6.cell? ⟨w1.heap.size+1+1,1,none⟩=some (.int .i64 m.cols):=HL6.cell (j:=1) rfl
       have u2:W6.cell? ⟨w1.heap.size+1+1,2,none⟩=some (.slice ua un uk):=HL6.cell (j:=2) rfl
       have v0:=HL6.frozen 0
       have v1:=HL6.frozen 1
       have v2:=HL6.frozen 2
       have hp3:=kept_put3 (X:=fun b=>b=w1.heap.size+1+1) W6 rfl (.int .i64 yr) (.int .i64 yc) (.slice ja jn jk)
       have hx3:∀b,b=w1.heap.size+1+1→A b:=fun b e=>by rw[HAZ.out];exact .inr (.inr e)
       obtain ⟨W7,hW7⟩:=gM (put3 W6 (w1.heap.size+1+1) (.int .i64 yr) (.int .i64 yc) (.slice ja jn jk))
       rw[←hW7]at hp3
       have HS7:=h_ ((HS3.out.u_ hb6).kept hp3 hx3 (fun h=>by omega) (fun h=>by omega))
       have HL7:=h_ (show Blk W7 (w1.heap.size+1+1) #[.int .i64 y.rows,.int .i64 y.cols,.slice ja jn jk] 25 by rw[hW7,HYR.out.1,HYR.out.2];exact ((HL6.set 0 (.int .i64 yr)).set 1 (.int .i64 yc)).set 2 (.slice ja jn jk))
       have HP7:=h_ ((HP3.out.u_ hb6).kept hp3 hx3)
       have HB7:=h_ (Kept.u_ (N:=w.heap.size) (b_ HB3.out hb6) hp3 (b_ HB3.out hb6).size (fun k h=>by have:=HZW.out;omega))
       unfold put3 at hW7
       rw[hW6]at hW7 u0 u1 u2 v0 v1 v2
       have HW7:=h_ hW7
       clear hW6 hb6 HL6 hp3 hx3 hW7
       go_wp2
       rw[←HW7.out]
       refine ⟨⟨i+1,xi+1,y,ja,jn,jk,HGY.out.2.2,by have:=HXI.out;omega,rfl,HNX.out.1 (by first|rfl|trivial),HS7.out,HL7.out,HP7.out,HB7.out⟩,?_⟩
       have:=HXI.out
       have:=HGY.out.2.2
       simp[intOf];omega
      ·have HG:=h_ (And.intro hg (HNX.out.2 hg))
       rw[n_ hg]
       clear hg
       go_wp2
       exact bodyPost_ret (v:=.tuple #[.pointer none,.iface 31 (.int .i64 ge)]) (by simp[results,Tryz.results14,go_sem]) rfl ⟨a_ HB3.out,.inr ⟨by rw[←HG.out.2];exact HG.out.1,by rw[HG.out.2]⟩⟩
    ·have hin:i=N:=by omega
     subst hin
     have hE0:E=0:=by have h:=hal;rw[←HFE.out.2.2.1]at h;exact h.stop
     have hP:=agput_any A (w1.heap.size+1) w1.heap.size (x::runT ls x) (hdK e i) _ i m (.agg #[.int .i64 m.rows,.int .i64 m.cols,.slice ua un uk]) wr hsh (fun h=>Nat.lt_irrefl _ (hdK_lt h)) hal.at_ ⟨_,rfl,hpm⟩
     rw[show max (hdK e i).length ((hdK e i).length+1)=(hdK e i++[i]).length by rw[List.length_append,List.length_singleton];omega]at hP
     have HP:=h_ hP
     have HBW:=h_ hbw
     have HE0:=h_ hE0
     have u0:wr.cell? ⟨w1.heap.size+1+1,0,none⟩=some (.int .i64 m.rows):=hbl.cell (j:=0) rfl
     have u1:wr.cell? ⟨w1.heap.size+1+1,1,none⟩=some (.int .i64 m.cols):=hbl.cell (j:=1) rfl
     have u2:wr.cell? ⟨w1.heap.size+1+1,2,none⟩=some (.slice ua un uk):=hbl.cell (j:=2) rfl
     clear hxi hiN hal hsh hbl hpm hbw hE0 hP
     go_wp2_with fail
     refine HP.out.mono ?_
     rintro r w2 ⟨rfl,h1,h2⟩
     have H1:=h_ (And.intro (h1.more (A':=fun b=>b=w1.heap.size+1∨b=w1.heap.size) (fun b _ h=>by rw[HAZ.out];omega) (.inl rfl) (.inr rfl)) (Kept.u_ (N:=w.heap.size) HBW.out h2 HBW.out.size (fun k h=>by have:=HZW.out;omega)))
     clear h1 h2 u0 u1 u2
     go_wp2
     have hz:=HZW.out
     exact bodyPost_ret (v:=.tuple #[.pointer (some ⟨w1.heap.size+1,0,none⟩),.nilIface]) (by simp[results,Tryz.results14,go_sem]) rfl ⟨H1.out.2,.inl ⟨HE0.out,_,_,rfl,by omega,hz,H1.out.1⟩⟩
  ·have HF:=h_ hf
   have HEF:=h_ (show F=E by rw[←HE1.out,if_pos hf])
   rw[n_ hf]
   clear hf
   go_wp2
   exact bodyPost_ret (v:=.tuple #[.pointer none,.iface 31 (.int .i64 F)]) (by simp[results,Tryz.results14,go_sem]) rfl ⟨HB1.out,.inr ⟨by rw[←HEF.out];exact HF.out,by rw[HEF.out]⟩⟩
end Go.Proofs.YtpniemnfdleiiajGreatDoor
