/- What compare and fill of package again come to. -/
import Derived.Test.YtpniemnfdleiiajGreatDoorAgC1
import Derived.Test.YtpniemnfdleiiajGreatDoorPkLGoL
import Derived.Test.YtpniemnfdleiiajGreatDoorPkNetBk
import Derived.Test.YtpniemnfdleiiajGreatDoorLsOf
import Derived.Test.YtpniemnfdleiiajGreatDoorLsBack
import Derived.Test.YtpniemnfdleiiajGreatDoorPkReg
namespace Go.Proofs.YtpniemnfdleiiajGreatDoor
open Go.RowKit
theorem hold_on{G X:Nat→Prop}{w w':World}{F:World→Prop}(h:Hold G w F)(hk:Kept X w w')(hx:∀b,X b→G b):Hold G w' F:=fun W hW=>h W (fun p x hp hc=>hW p x hp (hk.cell (fun e=>hp (hx _ e)) hc))
def RunOK (ls:List Ly) (ms:List Mx):Prop:=ms.length=ls.length+1∧∀i l m,ls[i]?=some l→ms[i]?=some m→goE l m=0∧ms[i+1]?=some (goX l m)
theorem run_ok_of:∀(ls:List Ly) (x:Mx),runE ls x=0→RunOK ls (x::runT ls x)
 |[],x,_=>⟨rfl,fun i l m h=>by simp at h⟩
 |l::ls,x,h=>by
  obtain ⟨h1,h2⟩:=runE_zero h
  obtain ⟨h3,h4⟩:=run_ok_of ls (goX l x) h2
  refine ⟨by simpa [runT] using h3,fun i l' m hl hm=>?_⟩
  cases i with
  |zero=>
   simp at hl hm
   subst hl hm
   exact ⟨h1,rfl⟩
  |succ i=>exact h4 i l' m (by simpa using hl) (by simpa [runT] using hm)
set_option maxHeartbeats 4000000 in
set_option maxRecDepth 100000 in
theorem agfill_any(A:Nat→Prop)(S M e f t N q:Nat)(ls:List Ly)(ms:List Mx)(v:Value)(w:World)(hv:Hold A w (fun W=>Y_ W v ls))(hs:Shelf A w S M ms (keyK e N f (f+1)) q)(hr:RunOK ls ms)(hN:ls.length=N)(hft:f<t)(htN:t≤N)(hq:(keyK e N f (f+1)).length≤q)(hA:∀b,A b→b<w.heap.size):
  Calls Tryz.prog 49 #[.pointer (some ⟨S,0,none⟩),v,.int .i64 (f:Int),.int .i64 (t:Int)] w fun x w'=>x=.returned .nilIface∧Shelf A w' S M ms (keyK e N f t) (max q (keyK e N f t).length)∧Kept (fun b=>b=S∨b=M) w w':=by
 obtain ⟨va,vk,rfl,hlc,hcm⟩:=hv.now.shape
 obtain ⟨xf,hxf⟩:∃x:Int,(f:Int)=x:=⟨_,rfl⟩
 obtain ⟨xt,hxt⟩:∃x:Int,(t:Int)=x:=⟨_,rfl⟩
 have h13:=hs.lm
 have hml:=hr.1
 have HLM:=h_ (show N≤12 by omega)
 rw[hxf,hxt]
 rw[hN]at hv hlc ⊢
 have HV:=h_ hv
 have HS:=h_ hs
 have HR:=h_ hr
 have HN:=h_ hN
 have HQ:=h_ hq
 have HA:=h_ hA
 have HX:=h_ (And.intro hxf hxt)
 have HO:=h_ (And.intro hft htN)
 have b0:0≤xf:=by omega
 have b1:xf≤11:=by omega
 have b2:1≤xt:=by omega
 have b3:xt≤12:=by omega
 clear hv hs hr hN hq hA hxf hxt hft htN hlc hcm h13 hml
 go_enter Tryz.func49,Tryz.ntmps49
 go_wp2
 go_loopw [9,10,11] (fun iv _ _ wr=>∃(i:Nat) (xi:Int),f≤i∧i<t∧xi=(i:Int)∧iv=.int .i64 xi∧Shelf A wr S M ms (keyK e N f (i+1)) (max q (keyK e N f (i+1)).length)∧Kept (fun b=>b=S∨b=M) w wr) (fun iv _ _ _=>12 - (intOf iv).toNat)
 case atStart=>exact ⟨f,xf,Nat.le_refl _,HO.out.1,HX.out.1.symm,rfl,by rw[show max q (keyK e N f (f+1)).length=q by have:=HQ.out;omega];exact HS.out,Kept.refl _ _⟩
 case round=>
  obtain ⟨i,xi,hfi,hit,hxi,rfl,hsh,hk⟩:=hrel
  have HXI:=h_ hxi
  have HFI:=h_ (And.intro hfi hit)
  have hxi0:0≤xi:=by omega
  have hxi1:xi≤11:=by have:=HX.out.2;omega
  by_cases hlt:xi<xt - 1
  ·have hiN:i<N:=by have:=HO.out.2;omega
   obtain ⟨l,hl⟩:∃l,ls[i]?=some l:=⟨ls[i]'(by rw[HN.out];exact hiN),List.getElem?_eq_getElem _⟩
   obtain ⟨vm,m,hm,hvm,hlook⟩:=hsh.look (k:=i) (keyK_in hfi (Nat.lt_succ_self _))
   obtain ⟨hE0,hm1⟩:=HR.out.2 i l m hl hm
   obtain ⟨y,hy⟩:=gN (goX l m)
   rw[hy]at hm1
   have hAr:∀b,A b→b<wr.heap.size:=fun b hb=>Nat.lt_of_lt_of_le (HA.out b hb) hk.size
   have hvr:Y_ wr (.slice va N vk) ls:=(hold_on HV.out hk (fun b hb=>by rcases hb with rfl|rfl;exact HS.out.aS;exact HS.out.aM)).now
   obtain ⟨lb,lo,lcap,sa,sn,sk,ta,tn,tk,ev,k0,k1,k2,k3,k4,k5,k6,hly⟩:=hvr.at hl
   injection ev with ev1 ev2 ev3
   clear ev2 ev3
   subst ev1
   obtain ⟨sx,rfl,hsx⟩:=hvm
   obtain ⟨xa,xn,xk,rfl⟩:=hsx.1.shape
   have hxn:xi.toNat=i:=by omega
   rw[←hxn]at k0 k1 k2 k3 k4 k5 k6
   have hlook':∀W:World,W.heap[M]?=wr.heap[M]?→(Instr.lookup 52 (.map (some M)) (.int .i64 xi) false).run Tryz.prog W=.ok ((.agg #[.int .i64 m.rows,.int .i64 m.cols,.slice xa xn xk])) W:=fun W hW=>by rw[hxi];exact hlook W hW
   have HT:=h_ (fun W (h:Below wr.heap.size wr W)=>((lgo_any (.agg #[.int .i64 l.k,.int .i64 l.w.rows,.int .i64 l.w.cols,.slice sa sn sk,.int .i64 l.b.rows,.int .i64 l.b.cols,.slice ta tn tk]) l m (.agg #[.int .i64 m.rows,.int .i64 m.cols,.slice xa xn xk]) W (hly.u_ h) ⟨_,rfl,hsx.1.u_ h⟩).mono (R':=fun e wz=>∃ja jn jk,e=.returned (.tuple #[(.agg #[.int .i64 y.rows,.int .i64 y.cols,.slice ja jn jk]),.nilIface])∧M_ wz (.agg #[.int .i64 y.rows,.int .i64 y.cols,.slice ja jn jk]) y∧Below W.heap.size W wz∧F_ W.heap.size (.agg #[.int .i64 y.rows,.int .i64 y.cols,.slice ja jn jk])) (by
    rw[hE0,hy]
    rintro e wz ⟨v',rfl,⟨s',rfl,hs'⟩,hb,hf⟩
    obtain ⟨ja,jn,jk,rfl⟩:=hs'.shape
    exact ⟨ja,jn,jk,by rw[e_ rfl],⟨_,rfl,hs'⟩,hb,hf⟩)))
   have HSB:Hid (∀W',Below wr.heap.size wr W'→(fun W'=>W'.cell? ⟨lb,lo+xi.toNat*7,none⟩=some (.int .i64 l.k)∧W'.cell? ⟨lb,lo+xi.toNat*7+1,none⟩=some (.int .i64 l.w.rows)∧W'.cell? ⟨lb,lo+xi.toNat*7+2,none⟩=some (.int .i64 l.w.cols)∧W'.cell? ⟨lb,lo+xi.toNat*7+3,none⟩=some (.slice sa sn sk)∧W'.cell? ⟨lb,lo+xi.toNat*7+4,none⟩=some (.int .i64 l.b.rows)∧W'.cell? ⟨lb,lo+xi.toNat*7+5,none⟩=some (.int .i64 l.b.cols)∧W'.cell? ⟨lb,lo+xi.toNat*7+6,none⟩=some (.slice ta tn tk)∧W'.cell? ⟨S,0,none⟩=some (.map (some M))∧(Instr.lookup 52 (.map (some M)) (.int .i64 xi) false).run Tryz.prog W'=.ok ((.agg #[.int .i64 m.rows,.int .i64 m.cols,.slice xa xn xk])) W') W'):=h_ (fun W' h=>⟨c_ h k0,c_ h k1,c_ h k2,c_ h k3,c_ h k4,c_ h k5,c_ h k6,c_ h (hsh.st.cell (j:=0) rfl),hlook' W' (h.block M hsh.ltM)⟩)
   have HSH:=h_ hsh
   have HKP:=h_ hk
   have HM1:=h_ hm1
   have HAR:=h_ hAr
   have hxiN:xi<(N:Int):=by omega
   clear hfi hit hxi hsh hk hl hm hsx hlook hlook' hly k0 k1 k2 k3 k4 k5 k6 hE0 hm1 hy hAr hvr hxn
   go_wp2_with fail
   have HT3:=h_ (HT.out (wr.alloc (.cells #[.int .i64 0,.int .i64 0,.slice none 0 0] 25)).drew (d_ (a_ (Below.refl wr.heap.size wr))))
   have HT0:=h_ (HT.out wr.drew (d_ (Below.refl wr.heap.size wr)))
   obtain ⟨lm0,lm1,lm2,lm3,lm4,lm5,lm6,lm7,lm8⟩:=HSB.out wr (Below.refl _ _)
   go_wp2
   go_cut [10,11] from 19 to 32 (fun a ev wx=>∃(Bk:Nat) (qa:Option Addr) (qn qk:Nat),a=.pointer (some ⟨Bk,0,none⟩)∧ev=.nilIface∧M_ wx (.agg #[.int .i64 y.rows,.int .i64 y.cols,.slice qa qn qk]) y∧Cells3 wx Bk (.int .i64 y.rows) (.int .i64 y.cols) (.slice qa qn qk)∧wr.heap.size≤Bk∧F_ wr.heap.size (.agg #[.int .i64 y.rows,.int .i64 y.cols,.slice qa qn qk])∧Below wr.heap.size wr wx)
   case first=>
    go_region_held3 (fun W'=>W'.cell? ⟨lb,lo+xi.toNat*7,none⟩=some (.int .i64 l.k)∧W'.cell? ⟨lb,lo+xi.toNat*7+1,none⟩=some (.int .i64 l.w.rows)∧W'.cell? ⟨lb,lo+xi.toNat*7+2,none⟩=some (.int .i64 l.w.cols)∧W'.cell? ⟨lb,lo+xi.toNat*7+3,none⟩=some (.slice sa sn sk)∧W'.cell? ⟨lb,lo+xi.toNat*7+4,none⟩=some (.int .i64 l.b.rows)∧W'.cell? ⟨lb,lo+xi.toNat*7+5,none⟩=some (.int .i64 l.b.cols)∧W'.cell? ⟨lb,lo+xi.toNat*7+6,none⟩=some (.slice ta tn tk)∧W'.cell? ⟨S,0,none⟩=some (.map (some M))∧(Instr.lookup 52 (.map (some M)) (.int .i64 xi) false).run Tryz.prog W'=.ok ((.agg #[.int .i64 m.rows,.int .i64 m.cols,.slice xa xn xk])) W') ((refine HSB.out _ ?_;repeat' (first|with_reducible exact Below.refl _ _|with_reducible exact HB2.out|with_reducible refine d_ ?_|with_reducible refine a_ ?_|with_reducible refine t_ ?_ ?_|exact Nat.le_refl _|exact Nat.le_succ _|exact HB2.out.size|exact Nat.le_succ_of_le HB2.out.size)))
     (first
      |(go_at_call 30;guard_target=Calls _ _ _ (World.drew (World.alloc wr (Obj.cells #[_,_,_] _))) _;refine HT3.out.mono ?_;rintro e wz ⟨ja,jn,jk,rfl,hm,hb2,hf⟩;have hc2:=b_ (r_ (Below.refl _ (wr.alloc (.cells #[.int .i64 0,.int .i64 0,.slice none 0 0] 25)))) hb2;have HB2:=h_ (show Below wr.heap.size wr wz from b_ (o_ wr (.cells #[.int .i64 0,.int .i64 0,.slice none 0 0] 25)) hc2);have ZB3:=h_ ((Box.new wr [.int .i64 0,.int .i64 0,.slice none 0 0] 25 (B:=wr.heap.size) rfl).u_ hc2);have ZB3l:=h_ (Box.new wr [.int .i64 0,.int .i64 0,.slice none 0 0] 25 (B:=wr.heap.size) rfl).lt;have ZF3:=h_ ((Free.new wr #[.int .i64 0,.int .i64 0,.slice none 0 0] 25 (B:=wr.heap.size) rfl).u_ hc2 ZB3l.out);obtain ⟨z30,z31,z32⟩:=ZB3.out.c3;obtain ⟨f30,f31,f32⟩:=ZF3.out.f3;have HEa:Hid (Cells3 (((wz.setCell ⟨wr.heap.size,0,none⟩ (.int .i64 y.rows)).setCell ⟨wr.heap.size,1,none⟩ (.int .i64 y.cols)).setCell ⟨wr.heap.size,2,none⟩ (.slice ja jn jk)) wr.heap.size (.int .i64 y.rows) (.int .i64 y.cols) (.slice ja jn jk)):=h_ (c__ (set_three ZB3.out _ _ _));have HF:=h_ (show F_ (wr.heap.size+1) (.agg #[.int .i64 y.rows,.int .i64 y.cols,.slice ja jn jk]) from f_ hf (szd1 _ _));have HG:=h_ (f_ HF.out (Nat.le_succ _));have HNb:=h_ (Nat.le_refl wr.heap.size);clear hc2;have HN:=h_ hm;clear hb2 hm hf)
      |(go_at_call 30;guard_target=Calls _ _ _ (World.drew wr) _;refine HT0.out.mono ?_;rintro e wz ⟨ja,jn,jk,rfl,hm,hb2,hf⟩;have hc2:=b_ (r_ (Below.refl _ wr)) hb2;have HB2:=h_ (show Below wr.heap.size wr wz from hc2);have HEa:Hid (Cells3 (wz.alloc (.cells #[.int .i64 y.rows,.int .i64 y.cols,.slice ja jn jk] 25)) wz.heap.size (.int .i64 y.rows) (.int .i64 y.cols) (.slice ja jn jk)):=h_ (c__ (Box.new wz [.int .i64 y.rows,.int .i64 y.cols,.slice ja jn jk] 25 rfl));have HF:=h_ (show F_ wr.heap.size (.agg #[.int .i64 y.rows,.int .i64 y.cols,.slice ja jn jk]) from hf);have HG:=HF;have HNb:=h_ HB2.out.size;clear hc2;have HN:=h_ hm;clear hb2 hm hf))
    all_goals go_wp2
    all_goals go_meet
    all_goals
     refine ⟨_,ja,jn,jk,rfl,rfl,?_,?_,HNb.out,HG.out,?_⟩
     ·(refine HN.out.above HF.out ?_;repeat' (first|with_reducible exact Above.refl _ _|with_reducible refine abv_drew ?_|with_reducible refine abv_alloc ?_|with_reducible refine v_ ?_ (by omega)))
     ·with_reducible exact HEa.out
     ·repeat' (first|with_reducible exact Below.refl _ _|with_reducible exact HB2.out|with_reducible refine d_ ?_|with_reducible refine a_ ?_|with_reducible refine t_ ?_ ?_|exact Nat.le_refl _|exact Nat.le_succ _|exact HB2.out.size|exact Nat.le_succ_of_le HB2.out.size)
   case rest=>
    obtain ⟨Bk,ja,jn,jk,rfl,rfl,hmx,⟨c0,c1,c2⟩,hBk,hfq,hbc⟩:=hcut
    obtain ⟨wb,hwb⟩:=gM (wc)
    subst hwb
    have hsc:=HSH.out.u_ hbc
    have hpy:MxA A wb (.agg #[.int .i64 y.rows,.int .i64 y.cols,.slice ja jn jk]) y:=by
     obtain ⟨s',e',hs'⟩:=hmx
     injection e' with e'
     obtain rfl:s'=.slice ja jn jk:=by simp at e';exact e'.symm
     exact ⟨_,rfl,x_ hs' hfq HAR.out⟩
    have hP:=agput_any A S M ms _ _ (i+1) y _ wb hsc (keyK_new (by have:=HFI.out.1;omega) (by have:=HO.out.2;have:=HX.out.2;have:=HXI.out;omega)) HM1.out hpy
    rw[show ((i+1:Nat):Int)=xi+1 by have:=HXI.out;omega,←keyK_more (show f<i+1 by have:=HFI.out.1;omega)]at hP
    have HP:=h_ hP
    have HKC:=h_ (HKP.out.trans (Kept.of (X:=fun _=>False) hbc) (fun _ _ e=>e.elim))
    clear HT HSB HT0 HT3 lm0 lm1 lm2 lm3 lm4 lm5 lm6 lm7 lm8 hmx hBk hfq hbc hsc hpy hP
    go_wp2_with fail
    refine HP.out.mono ?_
    rintro e w2 ⟨rfl,hs2,hk2⟩
    have HS2:=h_ hs2
    have HK2:=h_ (HKC.out.trans hk2 (fun _ _ e=>e))
    clear HP hs2 hk2 c0 c1 c2
    go_wp2
    go_roundw
    case rel=>
     have h:=HS2.out
     rw[show max (max q (keyK e N f (i+1)).length) ((keyK e N f (i+1)).length+1)=max q (keyK e N f (i+1+1)).length by rw[keyK_more (show f<i+1 by have:=HFI.out.1;omega),List.length_append,List.length_singleton];omega]at h
     exact ⟨i+1,xi+1,by have:=HFI.out.1;omega,by have:=HXI.out;have:=HX.out.2;omega,by have:=HXI.out;omega,rfl,h,HK2.out⟩
    case measure=>simp[intOf];omega
  ·have hit1:i+1=t:=by have:=HX.out.2;omega
   have HSH:=h_ (show Shelf A wr S M ms (keyK e N f t) (max q (keyK e N f t).length) by rw[←hit1];exact hsh)
   have HKP:=h_ hk
   clear hfi hit hxi hsh hk hit1
   go_wp2
   go_ret
   exact ⟨rfl,HSH.out,HKP.out⟩
set_option maxHeartbeats 4000000 in
set_option maxRecDepth 100000 in
theorem compare_any(va vb:Value)(ma mb:Mx)(w:World)(hva:M_ w va ma)(hvb:M_ w vb mb):Calls Tryz.prog 15 #[va,vb] w fun e w'=>∃v',e=.returned (.tuple #[.int .i64 (lossX ma mb),v',errV (addE ma mb)])∧M_ w' v' (offX ma mb)∧Below w.heap.size w w'∧F_ w.heap.size v':=by
 obtain ⟨sa,rfl,hsa⟩:=hva
 obtain ⟨sb',rfl,hsb⟩:=hvb
 obtain ⟨xa,xn,xk,rfl⟩:=hsa.shape
 obtain ⟨ya,yn,yk,rfl⟩:=hsb.shape
 obtain ⟨V,hV⟩:=gM (((w.alloc (.cells #[.int .i64 ma.rows,.int .i64 ma.cols,.slice xa xn xk] 25)).alloc (.cells #[.int .i64 mb.rows,.int .i64 mb.cols,.slice ya yn yk] 25)).alloc (.cells #[.int .i64 0,.int .i64 0,.slice none 0 0] 25))
 have HV:=h_ hV
 have HWV:Hid (Below w.heap.size w V):=by rw[hV];exact h_ (a_ (a_ (o_ _ _)))
 have HX0:Hid (Blk V w.heap.size #[.int .i64 ma.rows,.int .i64 ma.cols,.slice xa xn xk] 25):=by rw[hV];exact h_ (((Blk.new w _ _ rfl).alloc _).alloc _)
 have HX1:Hid (Blk V (w.heap.size+1) #[.int .i64 mb.rows,.int .i64 mb.cols,.slice ya yn yk] 25):=by rw[hV];exact h_ ((Blk.new _ _ _ (by simp)).alloc _)
 have HX2:Hid (Blk V (w.heap.size+1+1) #[.int .i64 0,.int .i64 0,.slice none 0 0] 25):=by rw[hV];exact h_ (Blk.new _ _ _ (by simp))
 have HT:=h_ (fun W (h:Below V.heap.size V W)=>lof_any (.agg #[.int .i64 ma.rows,.int .i64 ma.cols,.slice xa xn xk]) (.agg #[.int .i64 mb.rows,.int .i64 mb.cols,.slice ya yn yk]) ma mb W ⟨_,rfl,hsa.u_ (b_ HWV.out h)⟩ ⟨_,rfl,hsb.u_ (b_ HWV.out h)⟩)
 have HU:=h_ (fun W (h:Below V.heap.size V W)=>lsback_any (.agg #[.int .i64 ma.rows,.int .i64 ma.cols,.slice xa xn xk]) (.agg #[.int .i64 mb.rows,.int .i64 mb.cols,.slice ya yn yk]) ma mb W ⟨_,rfl,hsa.u_ (b_ HWV.out h)⟩ ⟨_,rfl,hsb.u_ (b_ HWV.out h)⟩)
 obtain ⟨E,hE⟩:=gN (addE ma mb)
 obtain ⟨L,hL⟩:=gN (lossX ma mb)
 obtain ⟨O,hO⟩:=gN (offX ma mb)
 have HE:=h_ (And.intro hE (And.intro hL hO))
 have hLE:E≠0→L=0∧O=noMx:=fun h=>by rw[←hL,←hO];unfold lossX offX;rw[if_neg (by rw[hE];exact h),if_neg (by rw[hE];exact h)];exact ⟨rfl,rfl⟩
 have HLE:=h_ hLE
 rw[hE,hL]at HT
 rw[hE,hO]at HU
 rw[hE,hL,hO]
 obtain ⟨r,er⟩:=gN (ma.rows)
 obtain ⟨c,ec⟩:=gN (ma.cols)
 obtain ⟨r',er'⟩:=gN (mb.rows)
 obtain ⟨c',ec'⟩:=gN (mb.cols)
 rw[er,ec]at HX0 HT HU HV ⊢
 rw[er',ec']at HX1 HT HU HV ⊢
 have a0:V.cell? ⟨w.heap.size,0,none⟩=some (.int .i64 r):=HX0.out.cell (j:=0) rfl
 have a1:V.cell? ⟨w.heap.size,1,none⟩=some (.int .i64 c):=HX0.out.cell (j:=1) rfl
 have a2:V.cell? ⟨w.heap.size,2,none⟩=some (.slice xa xn xk):=HX0.out.cell (j:=2) rfl
 have d0:V.cell? ⟨w.heap.size+1,0,none⟩=some (.int .i64 r'):=HX1.out.cell (j:=0) rfl
 have d1:V.cell? ⟨w.heap.size+1,1,none⟩=some (.int .i64 c'):=HX1.out.cell (j:=1) rfl
 have d2:V.cell? ⟨w.heap.size+1,2,none⟩=some (.slice ya yn yk):=HX1.out.cell (j:=2) rfl
 rw[HV.out]at a0 a1 a2 d0 d1 d2
 clear hsa hsb hV hE hL hO hLE er ec er' ec'
 go_enter Tryz.func15,Tryz.ntmps15
 go_wp2_with fail
 rw[←HV.out]
 refine (HT.out V (Below.refl _ _)).mono ?_
 rintro e w1 ⟨rfl,hb1⟩
 clear HT a0 a1 a2 d0 d1 d2
 have HB1:=h_ hb1
 clear hb1
 by_cases hE:E=0
 ·subst hE
  have HU1:=h_ (HU.out w1 HB1.out)
  unfold MxErr at HU1
  have a0:w1.cell? ⟨w.heap.size,0,none⟩=some (.int .i64 r):=(HX0.out.u_ HB1.out).cell (j:=0) rfl
  have a1:w1.cell? ⟨w.heap.size,1,none⟩=some (.int .i64 c):=(HX0.out.u_ HB1.out).cell (j:=1) rfl
  have a2:w1.cell? ⟨w.heap.size,2,none⟩=some (.slice xa xn xk):=(HX0.out.u_ HB1.out).cell (j:=2) rfl
  have d0:w1.cell? ⟨w.heap.size+1,0,none⟩=some (.int .i64 r'):=(HX1.out.u_ HB1.out).cell (j:=0) rfl
  have d1:w1.cell? ⟨w.heap.size+1,1,none⟩=some (.int .i64 c'):=(HX1.out.u_ HB1.out).cell (j:=1) rfl
  have d2:w1.cell? ⟨w.heap.size+1,2,none⟩=some (.slice ya yn yk):=(HX1.out.u_ HB1.out).cell (j:=2) rfl
  rw[e_ rfl]at HU1 ⊢
  clear HU
  go_wp2_with fail
  refine HU1.out.mono ?_
  rintro e w2 ⟨v',rfl,⟨s',rfl,hs'⟩,hb2,hf⟩
  obtain ⟨ja,jn,jk,rfl⟩:=hs'.shape
  clear a0 a1 a2 d0 d1 d2 HU1
  obtain ⟨Y,hY⟩:=gM (w2.alloc (.cells #[.int .i64 O.rows,.int .i64 O.cols,.slice ja jn jk] 25))
  have HB2:=h_ (show Below V.heap.size V Y by rw[hY];exact a_ (b_ HB1.out hb2))
  have y0:Y.cell? ⟨w2.heap.size,0,none⟩=some (.int .i64 O.rows):=by rw[hY];exact (Box.new w2 [.int .i64 O.rows,.int .i64 O.cols,.slice ja jn jk] 25 rfl) 0 _ rfl
  have y1:Y.cell? ⟨w2.heap.size,1,none⟩=some (.int .i64 O.cols):=by rw[hY];exact (Box.new w2 [.int .i64 O.rows,.int .i64 O.cols,.slice ja jn jk] 25 rfl) 1 _ rfl
  have y2:Y.cell? ⟨w2.heap.size,2,none⟩=some (.slice ja jn jk):=by rw[hY];exact (Box.new w2 [.int .i64 O.rows,.int .i64 O.cols,.slice ja jn jk] 25 rfl) 2 _ rfl
  have HI:=h_ (show I_ Y (.slice ja jn jk) O.cells by rw[hY];exact hs'.u_ (o_ _ _))
  have HF:=h_ (show F_ V.heap.size (.agg #[.int .i64 O.rows,.int .i64 O.cols,.slice ja jn jk]) from f_ hf HB1.out.size)
  have HVS:=h_ (show V.heap.size=w.heap.size+3 by rw[HV.out];simp)
  have HY:=h_ hY
  have HQ:=h_ (HX2.out.u_ HB2.out)
  obtain ⟨Or,hOr⟩:=gN (O.rows)
  obtain ⟨Oc,hOc⟩:=gN (O.cols)
  have HOR:=h_ (And.intro hOr hOc)
  rw[hOr]at y0 HF HY ⊢
  rw[hOc]at y1 HF HY ⊢
  clear hY hs' hb2 hf hOr hOc
  go_wp2_with fail
  rw[←HY.out]
  have q0:Y.cell? ⟨w.heap.size+1+1,0,none⟩=some (.int .i64 0):=HQ.out.cell (j:=0) rfl
  have q1:Y.cell? ⟨w.heap.size+1+1,1,none⟩=some (.int .i64 0):=HQ.out.cell (j:=1) rfl
  have q2:Y.cell? ⟨w.heap.size+1+1,2,none⟩=some (.slice none 0 0):=HQ.out.cell (j:=2) rfl
  have f0:=HQ.out.frozen 0
  have f1:=HQ.out.frozen 1
  have f2:=HQ.out.frozen 2
  go_region
  all_goals
   go_wp2
   have t:=set_three HQ.out.box (.int .i64 Or) (.int .i64 Oc) (.slice ja jn jk)
   obtain ⟨t0,t1,t2⟩:=t.c3
   refine bodyPost_ret (v:=.tuple #[.int .i64 L,.agg #[.int .i64 Or,.int .i64 Oc,.slice ja jn jk],.nilIface]) (by simp[results,Tryz.results15,go_sem,t0,t1,t2]) rfl ⟨_,rfl,?_,?_,f_ HF.out HWV.out.size⟩
   ·rw[←HOR.out.1,←HOR.out.2]at HF ⊢
    exact (M_.set3 (B:=V.heap.size) ⟨_,rfl,HI.out⟩ HF.out (by have:=HVS.out;omega) _ _ _).u_ (r_ (Below.refl _ _))
   ·exact r_ (S_ (b_ HWV.out HB2.out) (by omega) _ _ _)
 ·have hne:E≠0:=hE
  obtain ⟨rfl,rfl⟩:=HLE.out hne
  have HN:=h_ hne
  rw[n_ hne]
  have HQ:=h_ (HX2.out.u_ HB1.out)
  clear HU hE hne
  have q0:w1.cell? ⟨w.heap.size+1+1,0,none⟩=some (.int .i64 0):=HQ.out.cell (j:=0) rfl
  have q1:w1.cell? ⟨w.heap.size+1+1,1,none⟩=some (.int .i64 0):=HQ.out.cell (j:=1) rfl
  have q2:w1.cell? ⟨w.heap.size+1+1,2,none⟩=some (.slice none 0 0):=HQ.out.cell (j:=2) rfl
  have f0:=HQ.out.frozen 0
  have f1:=HQ.out.frozen 1
  have f2:=HQ.out.frozen 2
  go_wp2
  have t:=set_three HQ.out.box (.int .i64 0) (.int .i64 0) (.slice none 0 0)
  obtain ⟨t0,t1,t2⟩:=t.c3
  exact bodyPost_ret (v:=.tuple #[.int .i64 0,.agg #[.int .i64 0,.int .i64 0,.slice none 0 0],.iface 31 (.int .i64 E)]) (by simp[results,Tryz.results15,go_sem,t0,t1,t2]) rfl ⟨.agg #[.int .i64 0,.int .i64 0,.slice none 0 0],by rw[n_ HN.out],⟨_,rfl,I_.nil _⟩,S_ (b_ HWV.out HB1.out) (by omega) _ _ _,y_ _ _ _⟩
end Go.Proofs.YtpniemnfdleiiajGreatDoor
