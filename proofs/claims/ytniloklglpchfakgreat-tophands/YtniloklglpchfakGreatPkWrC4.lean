/- What number and numbers of package wire's reader come to. -/
import Derived.Test.YtniloklglpchfakGreatPkHdM
import Derived.Test.YtniloklglpchfakGreatPkTrC4
import Derived.Lib.SmallJoins
namespace Go.Proofs.YtniloklglpchfakGreat
open Go.RowKit
theorem bys_part{w:World}{a:Option Addr}{cap:Nat}{zs:List Int}(h2:zs.length≤cap)(h3:cap≤maxLen)(h5:∀x∈zs,0≤x∧x<256)(h4:zs=[]∨∃b off,a=some ⟨b,off,none⟩∧∀i x,zs[i]?=some x→w.cell? ⟨b,off+i,none⟩=some (.int .u8 x))(l:Nat)(hm:l≤zs.length):
  IsBys w (.slice (if cap=l then a else a.map (·.add (l*1))) (zs.length - l) (cap - l)) (zs.drop l):=by
 have hll:(zs.drop l).length=zs.length - l:=List.length_drop
 refine ⟨_,_,by rw[hll],by rw[hll];omega,by omega,fun x hx=>h5 x (List.mem_of_mem_drop hx),?_⟩
 rcases Nat.eq_zero_or_pos (zs.length - l) with hC|hC
 ·exact .inl (by apply List.eq_nil_of_length_eq_zero;omega)
 ·obtain ⟨b,off,rfl,hc⟩:=h4.resolve_left (fun e=>by rw[e]at hC;simp at hC)
  refine .inr ⟨b,off+l,?_,fun j x hx=>?_⟩
  ·rw[if_neg (by omega)]
   show some (Addr.add _ _)=_
   rw[Addr.add_lit,Nat.mul_one]
  ·rw[List.getElem?_drop]at hx
   rw[Nat.add_assoc]
   exact hc _ _ hx
theorem by_l{w:World}{a:Option Addr}{n cap:Nat}{l:List Int}(h:IsBys w (.slice a n cap) l)(m:Nat)(lo:Int)(hlo:lo=(m:Int))(hm:m≤l.length):
  ∃a' n' c',(∀W,(Instr.slice 114 (.slice a n cap) (some (.int .i64 lo)) none none).run Tryz.prog W=.ok (.slice a' n' c') W)∧IsBys w (.slice a' n' c') (l.drop m):=by
 obtain ⟨a0,cap0,e,h2,h3,h5,h4⟩:=h
 injection e with e1 e2 e3
 subst e1 e2 e3
 have q1:lo.toNat=m:=by omega
 refine ⟨_,_,_,fun W=>?_,bys_part h2 h3 h5 h4 m hm⟩
 rw[run_slice_l (P:=Tryz.prog) (w:=W) 114 a l.length cap elemBy .i64 lo (by omega) (by omega),sizeBy,q1]
 rfl
theorem grw_trans{w w1 w2:World}{B:Nat}{row:Option Nat}(h:w.grownBy w1 (some B))(hg:w1.grownBy w2 row)(hr:∀k,row=some k→w.heap.size≤k∨k=B):w.grownBy w2 (some B):=
 ⟨hg.os.trans h.os,hg.tape.trans h.tape,hg.output.trans h.output,Nat.le_trans h.size hg.size,fun k hk hne=>(hg.block k (Nat.lt_of_lt_of_le hk h.size) (fun e=>by rcases hr k e.symm with q|q;omega;exact hne (by rw[q]))).trans (h.block k hk hne)⟩
def NumEnd (w w':World) (B:Nat) (v:Value) (l:List Int) (a:Nat) (e:Ending):Prop:=w.grownBy w' (some B)∧match rd1 (l.drop a) with
 |none=>∃x,e=.returned (.tuple #[.int .i64 x,.bool false])
 |some (x,t)=>e=.returned (.tuple #[.int .i64 x,.bool true])∧∃a',a'≤l.length∧t=l.drop a'∧WBk w' B #[v,.int .i64 (a':Int)] 159
set_option maxHeartbeats 8000000 in
set_option maxRecDepth 100000 in
theorem wnumber_any(v:Value)(l:List Int)(B a:Nat)(xa:Int)(w:World)(hv:IsBys w v l)(hB:WBk w B #[v,.int .i64 xa] 159)(hxa:xa=(a:Int))(ha:a≤l.length):Calls Tryz.prog 109 #[.pointer (some ⟨B,0,none⟩)] w (fun e w'=>NumEnd w w' B v l a e):=by
 obtain ⟨T,hT⟩:=gN (l.drop a)
 have HT:=h_ hT
 have HLA:=h_ (And.intro hxa ha)
 have hlen:=hv.len
 unfold maxLen at hlen
 have hx0:0≤xa:=by omega
 have hx1:xa≤(l.length:Int):=by omega
 have HLL:=h_ hlen
 obtain ⟨va,vn,vk,rfl⟩:∃a n k,v=.slice a n k:=by obtain ⟨a,k,h⟩:=hv.shape;exact ⟨a,_,k,h⟩
 obtain ⟨ra,rn,rk,hsl,hri⟩:=by_l hv a xa hxa ha
 rw[hT]at hri
 have HTL:=h_ (show rn=T.length by obtain ⟨_,_,e,_⟩:=hri;injection e)
 obtain ⟨m,hm⟩:∃m:Int,(if (rn:Int)<9 then (rn:Int) else 9)=m:=⟨_,rfl⟩
 have HM:=h_ (show m=((min 9 T.length:Nat):Int) by rw[←hm,HTL.out];split<;>omega)
 obtain ⟨fa,fn,fk,hsf,hfi⟩:=by_h hri (min 9 T.length) m HM.out (by omega)
 have HFN:=h_ (show fn=min 9 T.length by obtain ⟨_,_,e,_⟩:=hfi;injection e with _ e2;rw[e2,List.length_take];omega)
 obtain ⟨_,_,e,g2,g3,g5,g4⟩:=hfi
 injection e with e1 e2 e3
 subst e1 e3
 have G4:=h_ g4
 have G5:=h_ g5
 have hf9:fn≤9:=by rw[HFN.out];omega
 have HBK:=h_ hB
 have c0:=hB.c (i:=0) rfl
 have c1:=hB.c (i:=1) rfl
 have f1:=hB.f 1
 obtain ⟨E,hE⟩:=gN (rd1 T)
 have HE:=h_ hE
 have HEND:=h_ (show ∀w' e,(w.grownBy w' (some B)∧match E with
   |none=>∃x,e=.returned (.tuple #[.int .i64 x,.bool false])
   |some (x,t)=>e=.returned (.tuple #[.int .i64 x,.bool true])∧∃a',a'≤l.length∧t=l.drop a'∧WBk w' B #[.slice va vn vk,.int .i64 (a':Int)] 159)→NumEnd w w' B (.slice va vn vk) l a e from fun w' e h=>by
  unfold NumEnd;rw[hT,hE];exact h)
 clear hT hxa ha hlen hri hB hE g2 g3 g4 g5 e2 hv
 go_enter Tryz.func109,Tryz.ntmps109
 go_wp2
 go_region
 go_wp2
 go_loopw [5,6,7,23] (fun xv _ _ iv wr=>∃(k:Nat) (xi x:Int),k≤fn∧xi=(k:Int)∧iv=.int .i64 xi∧xv=.int .i64 x∧wr=w.drew∧0≤x∧x<128 ^ k∧E=rdB (9 - k) (k==0) (128 ^ k) x (T.drop k)) (fun _ _ _ iv _=>9 - (intOf iv).toNat)
 case atStart=>exact ⟨0,0,0,Nat.zero_le _,rfl,rfl,rfl,rfl,by omega,by simp,by rw[←HE.out];rfl⟩
 case round=>
  obtain ⟨k,xi,x,hk,hxi,rfl,rfl,hw,hxx0,hxx1,hs⟩:=hrel
  subst hw
  have HXI:=h_ hxi
  have HS:=h_ hs
  have HX1:=h_ hxx1
  have hi0:0≤xi:=by omega
  have hi9:xi≤9:=by omega
  clear hxi hs hxx1
  by_cases hlt:xi<(fn:Int)
  ·have hkl:k<T.length:=by have:=HFN.out;have:=HXI.out;omega
   have hk8:k≤8:=by have:=HXI.out;omega
   obtain ⟨d,hd⟩:∃d,T[k]?=some d:=⟨_,List.getElem?_eq_getElem hkl⟩
   have hdf:(T.take (min 9 T.length))[k]?=some d:=by rw[List.getElem?_take_of_lt (by omega)];exact hd
   obtain ⟨d0,d1⟩:=G5.out d (List.mem_of_getElem? hdf)
   obtain ⟨b1,o1,ha1,hc1⟩:=G4.out.resolve_left (fun e=>by rw[e]at hdf;simp at hdf)
   subst ha1
   have c3:=hc1 k d hdf
   rw[show k=xi.toNat by have:=HXI.out;omega]at c3
   have HD:=h_ (show T.drop k=d::T.drop (k+1) by
    obtain ⟨hi,e⟩:=List.getElem?_eq_some_iff.1 hd
    rw[List.drop_eq_getElem_cons hi,e])
   have hP:=pow_pos128 k
   have hP8:=pow_le128 hk8
   rw[Int.pow_succ]at hP8
   obtain ⟨P,hPe⟩:=gN ((128:Int) ^ k)
   have hxP:=HX1.out
   rw[hPe]at hP hP8 hxP
   obtain ⟨S,hS⟩:=gN (d % 128*P)
   have hS0:0≤S:=by rw[←hS];exact Int.mul_nonneg (by omega) (by omega)
   have hS1:S≤127*P:=by rw[←hS];exact Int.mul_le_mul_of_nonneg_right (by omega) (by omega)
   have hpw:(2:Int) ^ (7*xi).toNat=P:=by rw[show (7*xi).toNat=7*k by have:=HXI.out;omega,pow27,hPe]
   have hsh:IntKind.i64.wrap (d % 128*2 ^ (7*xi).toNat)=S:=by rw[hpw,hS,IntKind.wrap_i64];omega
   obtain ⟨Y,hY⟩:=gN (x+S)
   have had:IntKind.i64.wrap (x+S)=Y:=by rw[hY,IntKind.wrap_i64];omega
   have HST:=h_ (show E=if d<128 then (if d=0∧(k==0)=false then none else some (Y,T.drop (k+1))) else rdB (9 - (k+1)) false (128 ^ (k+1)) Y (T.drop (k+1)) by
    rw[HS.out,HD.out,show 9 - k=(9 - (k+1))+1 by omega,rdB,hPe,hS,hY,Int.pow_succ,hPe])
   have HYB:=h_ (show 0≤Y∧Y<128 ^ (k+1) by rw[Int.pow_succ,hPe];omega)
   have HDR:=h_ (show T.drop (k+1)=l.drop (a+(k+1))∧a+(k+1)≤l.length by
    have h1:T.length=l.length - a:=by rw[←HT.out,List.length_drop]
    refine ⟨by rw[←HT.out,List.drop_drop],by omega⟩)
   have hxb:xa+(xi+1)≤9223372036854775807:=by have:=HLL.out;have:=HDR.out.2;have:=HXI.out;have:=HLA.out.1;omega
   clear hc1 hd hdf hkl hPe hxP hS hpw hY hP hP8 hS0 hS1
   by_cases e1:d<128
   ·have HGR:=h_ (show w.grownBy ((w.drew).setCell ⟨B,1,none⟩ (.int .i64 (xa+(xi+1)))) (some B) from grw_trans (w1:=w.drew) ⟨rfl,rfl,rfl,Nat.le_refl _,fun _ _ _=>rfl⟩ (grw_set w.drew B 1 _) (fun k e=>.inr (Option.some.inj e).symm))
    have HWB:=h_ (show WBk ((w.drew).setCell ⟨B,1,none⟩ (.int .i64 (xa+(xi+1)))) B #[.slice va vn vk,.int .i64 ((a+(k+1):Nat):Int)] 159 by
     rw[show ((a+(k+1):Nat):Int)=xa+(xi+1) by have:=HXI.out;have:=HLA.out.1;omega]
     exact WBk.set (w:=w.drew) HBK.out 1 _)
    by_cases e2:d=0
    ·by_cases e3:0<xi
     ·have HN:=h_ (show E=none by rw[HST.out,if_pos e1,if_pos ⟨e2,by have:=HXI.out;simp;omega⟩])
      have n0:(xi==0)=false:=by simp;omega
      have n1:¬(0<d):=by omega
      clear e2
      go_wp2
      exact bodyPost_ret (v:=.tuple #[.int .i64 Y,.bool false]) (by simp[results,Tryz.results109,go_sem]) rfl (HEND.out _ _ ⟨HGR.out,by rw[HN.out];exact ⟨_,rfl⟩⟩)
     ·have hk0:k=0:=by have:=HXI.out;omega
      have HN:=h_ (show E=some (Y,T.drop (k+1)) by rw[HST.out,if_pos e1,if_neg (by rintro ⟨_,h⟩;rw[hk0]at h;cases h)])
      have n0:(xi==0)=true:=by simp;omega
      have n1:¬(0<d):=by omega
      clear e2
      go_wp2
      exact bodyPost_ret (v:=.tuple #[.int .i64 Y,.bool true]) (by simp[results,Tryz.results109,go_sem]) rfl (HEND.out _ _ ⟨HGR.out,by rw[HN.out];exact ⟨rfl,_,HDR.out.2,HDR.out.1,HWB.out⟩⟩)
    ·have HN:=h_ (show E=some (Y,T.drop (k+1)) by rw[HST.out,if_pos e1,if_neg (fun h=>e2 h.1)])
     have n0:0<d:=by omega
     go_wp2
     exact bodyPost_ret (v:=.tuple #[.int .i64 Y,.bool true]) (by simp[results,Tryz.results109,go_sem]) rfl (HEND.out _ _ ⟨HGR.out,by rw[HN.out];exact ⟨rfl,_,HDR.out.2,HDR.out.1,HWB.out⟩⟩)
   ·have HN:=h_ (show E=rdB (9 - (k+1)) ((k+1)==0) (128 ^ (k+1)) Y (T.drop (k+1)) by rw[HST.out,if_neg e1];rfl)
    go_wp2
    go_roundw
    case rel=>exact ⟨k+1,_,_,by have:=HXI.out;omega,by have:=HXI.out;omega,rfl,rfl,by first|rfl|trivial,HYB.out.1,HYB.out.2,HN.out⟩
    case measure=>have:=HXI.out;simp[intOf];omega
  ·have HN:=h_ (show E=none by
    rw[HS.out]
    have:=HFN.out;have:=HXI.out
    by_cases h9:k=9
    ·rw[h9];rfl
    ·rw[List.drop_of_length_le (by omega),rdB_nil])
   go_wp2
   exact bodyPost_ret (v:=.tuple #[.int .i64 0,.bool false]) (by simp[results,Tryz.results109,go_sem]) rfl (HEND.out _ _ ⟨⟨rfl,rfl,rfl,Nat.le_refl _,fun _ _ _=>rfl⟩,by rw[HN.out];exact ⟨_,rfl⟩⟩)
theorem OwnZ.keptB{w w':World}{base B:Nat}{v:Value}{zs:List Int}(h:OwnZ w base v zs)(hg:w.grownBy w' (some B))(hB:B<base):OwnZ w' base v zs:=by
 refine World.ownsRow.kept h hg ?_
 cases e:v.ownBlock with
 |none=>exact .inl rfl
 |some k=>exact .inr (fun q=>by have:=(World.ownsRow.lt h k e).1;have:=Option.some.inj q;omega)
theorem OwnZ.nilOk{w:World}{base:Nat}{v:Value}{zs:List Int}(h:OwnZ w base v zs):NilOk v:=by
 obtain ⟨_,h2⟩:=h
 rcases h2 with ⟨rfl,_⟩|⟨g,cap,cur,rfl,_⟩
 ·intro n k e
  injection e with e1 e2 e3
  exact ⟨e2.symm,e3.symm⟩
 ·exact fun n k e=>by injection e with e1;cases e1
def NumsEnd (w w':World) (B:Nat) (v:Value) (l:List Int) (a K:Nat) (e:Ending):Prop:=w.grownBy w' (some B)∧match rdNs K (l.drop a) with
 |none=>e=.returned (.tuple #[.slice none 0 0,.bool false])
 |some (hs,t)=>∃s a',e=.returned (.tuple #[s,.bool true])∧OwnZ w' w.heap.size s hs∧hs.length=K∧(∀x∈hs,0≤x∧x≤9223372036854775807)∧a'≤l.length∧t=l.drop a'∧WBk w' B #[v,.int .i64 (a':Int)] 159
set_option maxHeartbeats 8000000 in
set_option maxRecDepth 100000 in
theorem wnumbers_any(v:Value)(l:List Int)(B a K:Nat)(xa xk:Int)(w0 w:World)(hv:IsBys w0 v l)(h0:Below w0.heap.size w0 w)(hwB:w0.heap.size≤B)(hB:WBk w B #[v,.int .i64 xa] 159)(hxa:xa=(a:Int))(ha:a≤l.length)(hxk:xk=(K:Int))(hK:K≤288):Calls Tryz.prog 100 #[.pointer (some ⟨B,0,none⟩),.int .i64 xk] w (fun e w'=>NumsEnd w w' B v l a K e):=by
 obtain ⟨E,hE⟩:=gN (rdNs K (l.drop a))
 have HE:=h_ hE
 have HEND:=h_ (show ∀w' e,(w.grownBy w' (some B)∧match E with
   |none=>e=.returned (.tuple #[.slice none 0 0,.bool false])
   |some (hs,t)=>∃s a',e=.returned (.tuple #[s,.bool true])∧OwnZ w' w.heap.size s hs∧hs.length=K∧(∀x∈hs,0≤x∧x≤9223372036854775807)∧a'≤l.length∧t=l.drop a'∧WBk w' B #[v,.int .i64 (a':Int)] 159)→NumsEnd w w' B v l a K e from fun w' e h=>by
  unfold NumsEnd;rw[hE];exact h)
 have HV:=h_ hv
 have H0:=h_ h0
 have HWB:=h_ hwB
 have HLT:=h_ hB.lt
 have HXA:=h_ hxa
 have HBY:=h_ (show ∀d∈l,0≤d∧d<256 by obtain ⟨_,_,_,_,_,h,_⟩:=hv;exact h)
 obtain ⟨e0,he0,hz0,hz1,hz2⟩:=info_parts infoInt
 have HEI:=h_ (And.intro he0 (And.intro hz0 (And.intro hz1 hz2)))
 have HS0:=h_ (show OwnZ (w.alloc (.cells (zeros K) 3)) w.heap.size (.slice (some ⟨w.heap.size,0,none⟩) 0 K) [] from OwnZ.made w K (by omega))
 have hmk:=run_mk0 xk K hxk (by omega)
 have HB0:=h_ (show WBk (w.alloc (.cells (zeros K) 3)) B #[v,.int .i64 (a:Int)] 159 by rw[←hxa];exact hB.kept (o_ _ _))
 have HXK:=h_ hxk
 have HA:=h_ ha
 have hk0:0≤xk:=by omega
 have hk1:xk≤288:=by omega
 clear hE hv h0 hwB hB hxa hxk ha he0 hz0 hz1 hz2
 go_enter Tryz.func100,Tryz.ntmps100
 go_wp2
 clear hmk
 go_loopw [6,7,8,12] (fun lv _ _ iv wr=>∃(k b:Nat) (xi:Int) (hs:List Int),k≤K∧xi=(k:Int)∧iv=.int .i64 xi∧OwnZ wr w.heap.size lv hs∧Came l K k hs b a∧(∀x∈hs,0≤x∧x≤9223372036854775807)∧b≤l.length∧WBk wr B #[v,.int .i64 (b:Int)] 159∧w.grownBy wr (some B)) (fun _ _ _ iv _=>K - (intOf iv).toNat)
 case atStart=>exact ⟨0,a,0,[],Nat.zero_le _,rfl,rfl,HS0.out,Came.first _ _ _,(fun x h=>by simp at h),HA.out,HB0.out,World.grownBy_alloc _ _ _⟩
 case round=>
  obtain ⟨k,b,xi,hs,hk,hxi,rfl,hown,hcame,hbd,hbl,hbk,hgr⟩:=hrel
  have HO:=h_ hown
  have HC:=h_ hcame
  have HBD:=h_ hbd
  have HGR:=h_ hgr
  have HXI:=h_ hxi
  have HBL:=h_ hbl
  have hi0:0≤xi:=by omega
  have hi1:xi≤xk:=by have:=HXK.out;omega
  have HWR:=h_ (show Below w0.heap.size w0 wr from H0.out.grown hgr H0.out.size (fun k e=>by rw[←Option.some.inj e];exact HWB.out))
  have HNU:=h_ (wnumber_any v l B b (b:Int) wr (HV.out.u_ HWR.out) hbk rfl hbl)
  have HBK:=h_ hbk
  clear hown hcame hbd hgr hxi hbl hbk
  by_cases hlt:xi<xk
  ·have hkK:k<K:=by have:=HXI.out;have:=HXK.out;omega
   cases hr:rd1 (l.drop b) with
   |none=>
    have HN:=h_ (HC.out.no hkK hr)
    rw[HE.out]at HN
    have HR:=h_ hr
    clear hr
    go_wp2_with (go_at_call 109;refine HNU.out.mono ?_;intro e w2 hnu;obtain ⟨hg2,hnu⟩:=hnu;rw[HR.out]at hnu;obtain ⟨x,rfl⟩:=hnu;have HG2:=h_ hg2;clear hg2)
    exact bodyPost_ret (v:=.tuple #[.slice none 0 0,.bool false]) (by simp[results,Tryz.results100,go_sem]) rfl (HEND.out _ _ ⟨grw_trans HGR.out HG2.out (fun k e=>.inr (Option.some.inj e).symm),by rw[HN.out]⟩)
   |some p=>
    obtain ⟨x,t⟩:=p
    have HX:=h_ (rd1_at HBY.out hr)
    have HR:=h_ hr
    clear hr
    go_wp2_with (first
     |(go_at_call 109;refine HNU.out.mono ?_;intro e w2 hnu;obtain ⟨hg2,hnu⟩:=hnu;rw[HR.out]at hnu;obtain ⟨rfl,b',hb',ht',hw'⟩:=hnu;have HG2:=h_ hg2;have HB2:=h_ (And.intro hb' (And.intro ht' hw'));have HO2:=h_ (HO.out.keptB hg2 HLT.out);have HLN:=h_ HC.out.1;clear hg2 hb' ht' hw')
     |(at_builtin;refine wpList_append_own _ rfl _ _ 26 rfl w.heap.size 3 e0 (.int .i64 0) 1 8 Tryz.underlying26 HEI.out.1 HEI.out.2.1 HEI.out.2.2.1 HEI.out.2.2.2 rfl (by decide) _ _ _ rfl (HO2.out.alloc _) ⟨_,0,none⟩ 1 1 [.int .i64 x] rfl rfl (one_cells _ _) (one_one _) ?c3 ?c4 ?c5 ?_))
    case c3=>have:=HLN.out;unfold maxLen;omega
    case c4=>have:=HLN.out;omega
    case c5=>have h1:=HGR.out.size;have h2:=HG2.out.size;first|omega|(simp;omega)
    intro v' w3 hown' hg _
    have HO3:=h_ (OwnZ.step hown')
    have HG3:=h_ (show w.grownBy w3 (some B) from grw_trans (grw_trans (grw_trans HGR.out HG2.out (fun k e=>.inr (Option.some.inj e).symm)) (World.grownBy_alloc _ _ none) (fun k e=>by cases e)) hg (fun k e=>.inl (World.ownsRow.lt HO2.out k e).1))
    have HB3:=h_ (show WBk w3 B #[v,.int .i64 (b':Int)] 159 from by
     have h1:=HB2.out.2.2.kept (o_ w2 (.cells #[.int .i64 x] 3))
     refine (hg.block B h1.lt (fun e=>?_)).trans h1
     have:=(World.ownsRow.lt HO2.out B e.symm).1
     have:=HLT.out
     omega)
    have HR2:=h_ (show rd1 (l.drop b)=some (x,l.drop b') by rw[←HB2.out.2.1];exact HR.out)
    clear hown' hg
    go_wp2
    go_roundw
    case rel=>
     refine ⟨k+1,b',_,hs++[x],hkK,by have:=HXI.out;omega,rfl,HO3.out,HC.out.next hkK HR2.out,fun y hy=>?_,HB2.out.1,HB3.out,HG3.out⟩
     rcases List.mem_append.1 hy with q|q
     ·exact HBD.out y q
     ·obtain ⟨_,_,_,_,_,p,q'⟩:=HX.out
      simp at q
      rw[q]
      exact ⟨p,q'⟩
    case measure=>have:=HXI.out;have:=HXK.out;simp[intOf];omega
  ·have hkK:k=K:=by have:=HXI.out;have:=HXK.out;omega
   subst hkK
   have HN:=h_ (HC.out.done)
   rw[HE.out]at HN
   go_wp2
   exact bodyPost_ret (v:=.tuple #[u6,.bool true]) (by simp[results,Tryz.results100,go_sem]) rfl (HEND.out _ _ ⟨HGR.out,by rw[HN.out];exact ⟨_,b,rfl,HO.out,HC.out.1,HBD.out,HBL.out,rfl,HBK.out⟩⟩)
end Go.Proofs.YtniloklglpchfakGreat
/- Numbers and matrices are read: what is taken is just what is written of them. No program in sight. -/
namespace Go.Proofs.YtniloklglpchfakGreat
theorem rdB_canon:∀{j:Nat} {f:Bool} {P acc:Int} {l:List Int} {x:Int} {t:List Int},(∀d∈l,0≤d∧d<256)→rdB j f P acc l=some (x,t)→∃n:Nat,x=acc+(n:Int)*P∧l=sevF j n++t∧n<128 ^ j∧(f=true∨n≠0)
 |0,f,P,acc,l,x,t,_,h=>by simp[rdB]at h
 |j+1,f,P,acc,[],x,t,_,h=>by simp[rdB]at h
 |j+1,f,P,acc,d::l,x,t,hl,h=>by
  have hd:=hl d (by simp)
  have hp:1≤128 ^ j:=Nat.pos_of_ne_zero (by intro e;have:=Nat.pow_eq_zero.1 e;omega)
  unfold rdB at h
  by_cases c:d<128
  ·rw[if_pos c]at h
   by_cases e:d=0∧f=false
   ·rw[if_pos e]at h;cases h
   ·rw[if_neg e]at h
    obtain ⟨h1,h2⟩:=Prod.mk.inj (Option.some.inj h)
    refine ⟨d.toNat,?_,?_,by rw[Nat.pow_succ];omega,?_⟩
    ·rw[←h1,show d % 128=d by omega,show ((d.toNat:Nat):Int)=d by omega]
    ·rw[sevF,if_pos (by omega),show ((d.toNat:Nat):Int)=d by omega,h2];rfl
    ·cases f with
     |true=>exact .inl rfl
     |false=>exact .inr (fun q=>e ⟨by omega,rfl⟩)
  ·rw[if_neg c]at h
   obtain ⟨n,h1,h2,h3,h4⟩:=rdB_canon (fun d hd=>hl d (List.mem_cons_of_mem _ hd)) h
   have hn:n≠0:=h4.resolve_left (by simp)
   refine ⟨(d % 128).toNat+128*n,?_,?_,by rw[Nat.pow_succ];omega,.inr (by omega)⟩
   ·rw[h1,show (((d % 128).toNat+128*n:Nat):Int)=d % 128+128*(n:Int) by omega,Int.add_mul,show P*128=128*P from Int.mul_comm _ _,←Int.mul_assoc,Int.mul_comm (n:Int) 128,Int.add_assoc]
   ·rw[sevF,if_neg (by omega),show ((128+((d % 128).toNat+128*n) % 128:Nat):Int)=d by omega,show ((d % 128).toNat+128*n) / 128=n by omega,h2];rfl
def Canon {α:Type} (p:List Int→Option (α×List Int)) (enc:α→List Nat):Prop:=∀(b:List Int) (x:α) (t:List Int),(∀d∈b,0≤d∧d<256)→p b=some (x,t)→b=wrNs (enc x)++t∧∀t',p (wrNs (enc x)++t')=some (x,t')
theorem rd1_canon:Canon rd1 (fun x=>[x.toNat]):=by
 intro b x t hb h
 obtain ⟨n,h1,h2,h3,_⟩:=rdB_canon hb h
 have hx:x=(n:Int):=by omega
 subst hx
 have e:wrNs [((n:Int)).toNat]=sev n:=by rw[Int.toNat_natCast];simp[wrNs]
 dsimp only
 rw[e]
 exact ⟨h2,fun t'=>rd1_sev h3 t'⟩
theorem rd1_nn{b:List Int}{x:Int}{t:List Int}(hb:∀d∈b,0≤d∧d<256)(h:rd1 b=some (x,t)):0≤x∧okN x.toNat:=by
 obtain ⟨n,h1,h2,h3,_⟩:=rdB_canon hb h
 have hx:x=(n:Int):=by omega
 subst hx
 exact ⟨by omega,by rw[Int.toNat_natCast];exact h3⟩
theorem byte_tail{u t:List Int}(h:∀d∈u++t,0≤d∧d<256):∀d∈t,0≤d∧d<256:=fun d hd=>h d (List.mem_append_right _ hd)
theorem rdNs_len:∀{K:Nat} {b:List Int} {x:List Int} {t:List Int},rdNs K b=some (x,t)→x.length=K
 |0,b,x,t,h=>by simp only[rdNs]at h;rw[←(Prod.mk.inj (Option.some.inj h)).1];rfl
 |K+1,b,x,t,h=>by
  cases h1:rd1 b with
  |none=>rw[rdNs_no h1]at h;cases h
  |some p=>
   obtain ⟨y,u⟩:=p
   rw[rdNs_yes h1]at h
   cases h2:rdNs K u with
   |none=>rw[h2]at h;cases h
   |some q=>
    obtain ⟨ys,v⟩:=q
    rw[h2]at h
    dsimp only at h
    rw[←(Prod.mk.inj (Option.some.inj h)).1,List.length_cons,rdNs_len h2]
theorem rdNs_nn:∀{K:Nat} {b:List Int} {x:List Int} {t:List Int},(∀d∈b,0≤d∧d<256)→rdNs K b=some (x,t)→∀y∈x,0≤y∧okN y.toNat
 |0,b,x,t,_,h=>by simp only[rdNs]at h;rw[←(Prod.mk.inj (Option.some.inj h)).1];simp
 |K+1,b,x,t,hb,h=>by
  cases h1:rd1 b with
  |none=>rw[rdNs_no h1]at h;cases h
  |some p=>
   obtain ⟨y,u⟩:=p
   rw[rdNs_yes h1]at h
   obtain ⟨e1,_⟩:=rd1_canon b y u hb h1
   have hu:∀d∈u,0≤d∧d<256:=by rw[e1]at hb;exact byte_tail hb
   cases h2:rdNs K u with
   |none=>rw[h2]at h;cases h
   |some q=>
    obtain ⟨ys,v⟩:=q
    rw[h2]at h
    dsimp only at h
    rw[←(Prod.mk.inj (Option.some.inj h)).1]
    intro z hz
    rcases List.mem_cons.1 hz with e|e
    ·rw[e];exact rd1_nn hb h1
    ·exact rdNs_nn hu h2 z e
def mxN (m:Mx):List Nat:=m.rows.toNat::m.cols.toNat::m.cells.map zig
def rdM (b:List Int):Option (Mx×List Int):=
 match rdNs 2 b with
 |some ([r,c],t)=>if 24<r∨12<c then none else match rdNs (r*c).toNat t with
  |none=>none
  |some (zs,t')=>some (⟨r,c,zs.map unz⟩,t')
 |_=>none
theorem rdM_no{b:List Int}(h:rdNs 2 b=none):rdM b=none:=by unfold rdM;rw[h]
theorem rdM_two{b t:List Int}{r c:Int}(h:rdNs 2 b=some ([r,c],t)):rdM b=if 24<r∨12<c then none else match rdNs (r*c).toNat t with
  |none=>none
  |some (zs,t')=>some (⟨r,c,zs.map unz⟩,t'):=by unfold rdM;rw[h]
theorem twoI_of{l:List Int}(h:l.length=2):∃a b,l=[a,b]:=by
 match l,h with
 |[a,b],_=>exact ⟨a,b,rfl⟩
theorem rdNs_add:∀(a b:Nat) (l:List Int),rdNs (a+b) l=match rdNs a l with|none=>none|some (x,t)=>match rdNs b t with|none=>none|some (y,t')=>some (x++y,t')
 |0,b,l=>by
  rw[Nat.zero_add]
  simp only[rdNs]
  cases rdNs b l<;>rfl
 |a+1,b,l=>by
  rw[show a+1+b=(a+b)+1 by omega]
  cases h:rd1 l with
  |none=>rw[rdNs_no h,rdNs_no h]
  |some p=>
   obtain ⟨x,t⟩:=p
   rw[rdNs_yes h,rdNs_yes h,rdNs_add a b t]
   cases h2:rdNs a t with
   |none=>rfl
   |some q=>
    obtain ⟨y,u⟩:=q
    dsimp only
    cases h3:rdNs b u with
    |none=>rfl
    |some q=>rfl
theorem rdMsg_no{l:List Int}(h:rdNs 2 l=none):rdMsg l=none:=by
 unfold rdMsg
 rw[show (4:Nat)=2+2 from rfl,rdNs_add,h]
theorem rdMsg_two{l t:List Int}{k mi:Int}(h:rdNs 2 l=some ([k,mi],t)):rdMsg l=match rdM t with|none=>none|some (b,t')=>rdEnd l k mi b t':=by
 unfold rdMsg
 rw[show (4:Nat)=2+2 from rfl,rdNs_add,h]
 dsimp only
 cases h1:rdNs 2 t with
 |none=>rw[rdM_no h1]
 |some p=>
  obtain ⟨hs,u⟩:=p
  obtain ⟨r,c,rfl⟩:=twoI_of (rdNs_len h1)
  rw[rdM_two h1]
  dsimp only
  show rdMid l [k,mi,r,c] u=_
  unfold rdMid
  dsimp only
  by_cases hf:24<r∨12<c
  ·rw[if_pos hf,if_pos hf]
  ·rw[if_neg hf,if_neg hf]
   cases rdNs (r*c).toNat u with
   |none=>rfl
   |some q=>rfl
end Go.Proofs.YtniloklglpchfakGreat
/- What matrix of package wire's reader comes to, and ReadNumber and ReadMatrix. -/
namespace Go.Proofs.YtniloklglpchfakGreat
open Go.RowKit
theorem wcellof_any(x:Int)(w:World)(h0:0≤x)(h1:x≤9223372036854775807):Calls Tryz.prog 110 #[.int .i64 x] w fun e w'=>e=.returned (.int .i64 (unz x))∧w'=w:=by
 by_cases c:x % 2=1
 ·have HE:=h_ (show -(x / 2) - 1=unz x by unfold unz;rw[if_pos c])
  go_enter Tryz.func110,Tryz.ntmps110
  go_wp2
  go_ret
  exact ⟨i_ HE.out,rfl⟩
 ·have HE:=h_ (show x / 2=unz x by unfold unz;rw[if_neg c])
  go_enter Tryz.func110,Tryz.ntmps110
  go_wp2
  go_ret
  exact ⟨i_ HE.out,rfl⟩
def mixL (zs:List Int) (i:Nat):List Int:=unzL (zs.take i)++zs.drop i
theorem mixL_zero(zs:List Int):mixL zs 0=zs:=rfl
theorem mixL_all(zs:List Int){i:Nat}(h:zs.length≤i):mixL zs i=unzL zs:=by unfold mixL;rw[List.take_of_length_le h,List.drop_of_length_le h,List.append_nil]
theorem mixL_len(zs:List Int)(i:Nat):(mixL zs i).length=zs.length:=by
 unfold mixL
 rw[List.length_append,unzL_len,List.length_take,List.length_drop]
 omega
theorem mixL_at{zs:List Int}{i:Nat}{x:Int}(h:zs[i]?=some x):(mixL zs i)[i]?=some x:=by
 obtain ⟨hi,_⟩:=List.getElem?_eq_some_iff.1 h
 have hl:(unzL (zs.take i)).length=i:=by rw[unzL_len,List.length_take];omega
 unfold mixL
 rw[List.getElem?_append_right (by omega),hl,Nat.sub_self,List.getElem?_drop,Nat.add_zero]
 exact h
theorem mixL_next{zs:List Int}{i:Nat}{x:Int}(h:zs[i]?=some x):(mixL zs i).set i (unz x)=mixL zs (i+1):=by
 obtain ⟨hi,e⟩:=List.getElem?_eq_some_iff.1 h
 have hl:(unzL (zs.take i)).length=i:=by rw[unzL_len,List.length_take];omega
 unfold mixL
 rw[List.set_append_right _ _ (by omega),hl,Nat.sub_self,List.drop_eq_getElem_cons hi,List.set_cons_zero,List.take_succ_eq_append_getElem hi,unzL_snoc,e,List.append_assoc]
 rfl
theorem hv_bytes{w:World}{v:Value}{l:List Int}(h:IsBys w v l):∀x∈l,0≤x∧x<256:=by obtain ⟨_,_,_,_,_,h,_⟩:=h;exact h
theorem bk5{w:World}{R:Nat}{x0 x1 x2 x3 x4:Value}{t:TypeId}(h:WBk w R #[x0,x1,x2,x3,x4] t)(y0 y1 y2 y3 y4:Value):WBk (((((w.setCell ⟨R,0,none⟩ y0).setCell ⟨R,1,none⟩ y1).setCell ⟨R,2,none⟩ y2).setCell ⟨R,3,none⟩ y3).setCell ⟨R,4,none⟩ y4) R #[y0,y1,y2,y3,y4] t:=
 ((((h.set 0 y0).set 1 y1).set 2 y2).set 3 y3).set 4 y4
theorem WBk.c5{w:World}{R:Nat}{x0 x1 x2 x3 x4:Value}{t:TypeId}(h:WBk w R #[x0,x1,x2,x3,x4] t):w.cell? ⟨R,0,none⟩=some x0∧w.cell? ⟨R,1,none⟩=some x1∧w.cell? ⟨R,2,none⟩=some x2∧w.cell? ⟨R,3,none⟩=some x3∧w.cell? ⟨R,4,none⟩=some x4:=⟨h.c rfl,h.c rfl,h.c rfl,h.c rfl,h.c rfl⟩
theorem WBk.f5{w:World}{R:Nat}{cs:Array Value}{t:TypeId}(h:WBk w R cs t):w.frozen? ⟨R,0,none⟩=false∧w.frozen? ⟨R,1,none⟩=false∧w.frozen? ⟨R,2,none⟩=false∧w.frozen? ⟨R,3,none⟩=false∧w.frozen? ⟨R,4,none⟩=false:=⟨h.f 0,h.f 1,h.f 2,h.f 3,h.f 4⟩
theorem grw5(w:World)(R:Nat)(y0 y1 y2 y3 y4:Value):w.grownBy (((((w.setCell ⟨R,0,none⟩ y0).setCell ⟨R,1,none⟩ y1).setCell ⟨R,2,none⟩ y2).setCell ⟨R,3,none⟩ y3).setCell ⟨R,4,none⟩ y4) (some R):=by
 have q:∀k,some R=some k→w.heap.size≤k∨k=R:=fun k e=>.inr (Option.some.inj e).symm
 exact grw_trans (grw_trans (grw_trans (grw_trans (grw_set w R 0 y0) (grw_set _ R 1 y1) q) (grw_set _ R 2 y2) q) (grw_set _ R 3 y3) q) (grw_set _ R 4 y4) q
theorem OwnZ.base{w:World}{base base':Nat}{v:Value}{zs:List Int}(h:OwnZ w base v zs)(hb:base'≤base):OwnZ w base' v zs:=Joins.ownsRow_le h hb
theorem grw_bel{w w1 w2:World}{B N:Nat}(h:w.grownBy w1 (some B))(hb:Below N w1 w2)(hN:w.heap.size≤N):w.grownBy w2 (some B):=
 ⟨hb.os.trans h.os,hb.tape.trans h.tape,hb.output.trans h.output,Nat.le_trans h.size hb.size,fun k hk hne=>(hb.block k (Nat.lt_of_lt_of_le hk hN)).trans (h.block k hk hne)⟩
theorem bk3{w:World}{R:Nat}{x0 x1 x2:Value}{t:TypeId}(h:WBk w R #[x0,x1,x2] t)(y0 y1 y2:Value):WBk (((w.setCell ⟨R,0,none⟩ y0).setCell ⟨R,1,none⟩ y1).setCell ⟨R,2,none⟩ y2) R #[y0,y1,y2] t:=
 ((h.set 0 y0).set 1 y1).set 2 y2
theorem WBk.q3{w:World}{R:Nat}{x0 x1 x2:Value}{t:TypeId}(h:WBk w R #[x0,x1,x2] t):w.cell? ⟨R,0,none⟩=some x0∧w.cell? ⟨R,1,none⟩=some x1∧w.cell? ⟨R,2,none⟩=some x2:=⟨h.c rfl,h.c rfl,h.c rfl⟩
theorem WBk.f3{w:World}{R:Nat}{cs:Array Value}{t:TypeId}(h:WBk w R cs t):w.frozen? ⟨R,0,none⟩=false∧w.frozen? ⟨R,1,none⟩=false∧w.frozen? ⟨R,2,none⟩=false:=⟨h.f 0,h.f 1,h.f 2⟩
theorem grw3(w:World)(R:Nat)(y0 y1 y2:Value):w.grownBy (((w.setCell ⟨R,0,none⟩ y0).setCell ⟨R,1,none⟩ y1).setCell ⟨R,2,none⟩ y2) (some R):=by
 have q:∀k,some R=some k→w.heap.size≤k∨k=R:=fun k e=>.inr (Option.some.inj e).symm
 exact grw_trans (grw_trans (grw_set w R 0 y0) (grw_set _ R 1 y1) q) (grw_set _ R 2 y2) q
def MatEnd (w w':World) (B:Nat) (v:Value) (l:List Int) (a:Nat) (e:Ending):Prop:=w.grownBy w' (some B)∧((e=.returned (.tuple #[.agg #[.int .i64 0,.int .i64 0,.slice none 0 0],.bool false])∧rdM (l.drop a)=none)∨∃b s a',e=.returned (.tuple #[.agg #[.int .i64 b.rows,.int .i64 b.cols,s],.bool true])∧OwnZ w' w.heap.size s b.cells∧a'≤l.length∧WBk w' B #[v,.int .i64 (a':Int)] 159∧rdM (l.drop a)=some (b,l.drop a'))
set_option maxHeartbeats 16000000 in
set_option maxRecDepth 100000 in
theorem wmatrix_any(v:Value)(l:List Int)(B a:Nat)(xa:Int)(w0 w:World)(hv:IsBys w0 v l)(h0:Below w0.heap.size w0 w)(hwB:w0.heap.size≤B)(hB:WBk w B #[v,.int .i64 xa] 159)(hxa:xa=(a:Int))(ha:a≤l.length):Calls Tryz.prog 101 #[.pointer (some ⟨B,0,none⟩)] w (fun e w'=>MatEnd w w' B v l a e):=by
 have HV:=h_ hv
 have H0:=h_ h0
 have HWB:=h_ hwB
 have HLT:=h_ hB.lt
 obtain ⟨T,hT⟩:=gN (l.drop a)
 have HT:=h_ hT
 obtain ⟨W1,hW1⟩:=gM (w.alloc (.cells #[.int .i64 0,.int .i64 0,.slice none 0 0] 28))
 have HW1:=h_ hW1
 have HS1:=h_ (show W1.heap.size=w.heap.size+1 by rw[hW1,World.size_alloc])
 have HR1:=h_ (show WBk W1 w.heap.size #[.int .i64 0,.int .i64 0,.slice none 0 0] 28 by rw[hW1];exact WBk.new _ _ _)
 have HB1:=h_ (show WBk W1 B #[v,.int .i64 xa] 159 by rw[hW1];exact hB.kept (o_ _ _))
 have HG1:=h_ (show w.grownBy W1 (some B) by rw[hW1];exact World.grownBy_alloc _ _ _)
 have HL1:=h_ (show Below w0.heap.size w0 W1 by rw[hW1];exact bel_on h0 (o_ _ _))
 have HN1:=h_ (wnumbers_any v l B a 2 xa 2 w0 W1 hv HL1.out hwB HB1.out hxa ha rfl (by omega))
 unfold NumsEnd at HN1
 rw[hT]at HN1
 have HQ:=h_ (show ∀k:Nat,some B=some k→w.heap.size≤k∨k=B from fun k e=>.inr (Option.some.inj e).symm)
 have HQR:=h_ (show ∀k:Nat,some w.heap.size=some k→w.heap.size≤k∨k=B from fun k e=>.inl (by rw[Option.some.inj e];exact Nat.le_refl _))
 have HNN:=h_ (fun x hx=>hv_bytes hv x (List.mem_of_mem_drop (show x∈l.drop a by rw[hT];exact hx)))
 clear hv h0 hwB hB hW1 hxa ha hT
 cases h4:rdNs 2 T with
 |none=>
  rw[h4]at HN1
  have HNO:=h_ (rdM_no h4)
  clear h4
  go_enter Tryz.func101,Tryz.ntmps101
  go_wp2_with (go_at_call 100;rw[←HW1.out];refine HN1.out.mono ?_;rintro e w2 ⟨hg2,rfl⟩;have HG2:=h_ hg2;have HR2:=h_ (show WBk w2 w.heap.size #[.int .i64 0,.int .i64 0,.slice none 0 0] 28 from (hg2.block _ HR1.out.lt (fun e=>by have:=Option.some.inj e;have:=HLT.out;omega)).trans HR1.out);obtain ⟨z0,z1,z2⟩:=HR2.out.f3;obtain ⟨y0,y1,y2⟩:=HR2.out.q3;clear hg2)
  have HF:=h_ (bk3 HR2.out (.int .i64 0) (.int .i64 0) (.slice none 0 0))
  obtain ⟨q0,q1,q2⟩:=HF.out.q3
  exact bodyPost_ret (v:=.tuple #[.agg #[.int .i64 0,.int .i64 0,.slice none 0 0],.bool false]) (by simp[results,Tryz.results101,go_sem,q0,q1,q2]) rfl ⟨grw_trans (grw_trans HG1.out HG2.out HQ.out) (grw3 _ _ _ _ _) HQR.out,.inl ⟨rfl,by rw[HT.out];exact HNO.out⟩⟩
 |some p=>
  obtain ⟨hs,t⟩:=p
  rw[h4]at HN1
  have H4:=h_ h4
  have HP4:=h_ (rdNs_nn HNN.out h4)
  clear h4
  go_enter Tryz.func101,Tryz.ntmps101
  go_wp2_with (go_at_call 100;rw[←HW1.out];refine HN1.out.mono ?_;rintro e w2 ⟨hg2,hd,a1,rfl,ho2,hl2,hb2,ha1,ht1,hk2⟩;obtain ⟨r,c,rfl⟩:=twoI_of hl2;have HG2:=h_ hg2;have HO2:=h_ ho2;have HB2:=h_ hb2;have HA1:=h_ ha1;have HT1:=h_ ht1;have HK2:=h_ hk2;have HR2:=h_ (show WBk w2 w.heap.size #[.int .i64 0,.int .i64 0,.slice none 0 0] 28 from (hg2.block _ HR1.out.lt (fun e=>by have:=Option.some.inj e;have:=HLT.out;omega)).trans HR1.out);obtain ⟨hg,hcap,rfl⟩:=Joins.ownsRow_form (show w2.ownsRow W1.heap.size 3 1 hd 2 ([r,c].map (Value.int .i64)) from ho2) (by omega);clear hg2 ho2 hl2 hb2 ha1 ht1 hk2)
  have hbk:=HB2.out
  have hr0:=hbk r (by simp)
  have hc0:=hbk c (by simp)
  have HOW:=h_ (show w2.ownsRow W1.heap.size 3 1 (.slice (some ⟨hg,0,none⟩) 2 hcap) 2 ([r,c].map (Value.int .i64)) from HO2.out)
  have j0:w2.cell? ⟨hg,0,none⟩=some (.int .i64 r):=World.ownsRow.cellAt HOW.out 0 (by omega)
  have j1:w2.cell? ⟨hg,1,none⟩=some (.int .i64 c):=World.ownsRow.cellAt HOW.out 1 (by omega)
  obtain ⟨wd,hwd⟩:=gM (w2.drew)
  have HRD:=h_ (show WBk wd w.heap.size #[.int .i64 0,.int .i64 0,.slice none 0 0] 28 by rw[hwd];exact HR2.out)
  have HKD:=h_ (show WBk wd B #[v,.int .i64 (a1:Int)] 159 by rw[hwd];exact HK2.out)
  have HGD:=h_ (show w.grownBy wd (some B) by rw[hwd];exact grown_drew (grw_trans HG1.out HG2.out HQ.out))
  have HLD:=h_ (show Below w0.heap.size w0 wd by rw[hwd];exact (HL1.out.grown HG2.out HL1.out.size (fun k e=>by rw[←Option.some.inj e];exact HWB.out)).drew)
  have HWD:=h_ hwd
  clear hbk hwd
  go_region
  rw[←HWD.out]
  clear j0 j1
  obtain ⟨z0,z1,z2⟩:=HRD.out.f3
  obtain ⟨y0,y1,y2⟩:=HRD.out.q3
  have HF2:=h_ (bk3 HRD.out (.int .i64 0) (.int .i64 0) (.slice none 0 0))
  by_cases hfar:24<r∨12<c
  ·have HNO:=h_ (show rdM T=none by rw[rdM_two H4.out,if_pos hfar])
   obtain ⟨q0,q1,q2⟩:=HF2.out.q3
   by_cases f1:24<r
   ·go_wp2
    exact bodyPost_ret (v:=.tuple #[.agg #[.int .i64 0,.int .i64 0,.slice none 0 0],.bool false]) (by simp[results,Tryz.results101,go_sem,q0,q1,q2]) rfl ⟨grw_trans HGD.out (grw3 _ _ _ _ _) HQR.out,.inl ⟨rfl,by rw[HT.out];exact HNO.out⟩⟩
   ·have f2:12<c:=hfar.resolve_left f1
    go_wp2
    exact bodyPost_ret (v:=.tuple #[.agg #[.int .i64 0,.int .i64 0,.slice none 0 0],.bool false]) (by simp[results,Tryz.results101,go_sem,q0,q1,q2]) rfl ⟨grw_trans HGD.out (grw3 _ _ _ _ _) HQR.out,.inl ⟨rfl,by rw[HT.out];exact HNO.out⟩⟩
  ·have f1:¬24<r:=fun h=>hfar (.inl h)
   have f2:¬12<c:=fun h=>hfar (.inr h)
   have hrc:=rc_bd r c ⟨by omega,by omega,by omega,by omega⟩
   obtain ⟨rc,hrce⟩:=gN (r*c)
   rw[hrce]at hrc
   have hwrc:IntKind.i64.wrap (r*c)=rc:=by rw[hrce,IntKind.wrap_i64];omega
   have HNE:=h_ (show rdM T=match rdNs rc.toNat t with|none=>none|some (zs,t')=>some (⟨r,c,unzL zs⟩,t') by rw[rdM_two H4.out,if_neg hfar,hrce];rfl)
   have HRC:=h_ hrce
   have HN2:=h_ (wnumbers_any v l B a1 rc.toNat (a1:Int) rc w0 wd HV.out HLD.out HWB.out HKD.out rfl HA1.out (by omega) (by omega))
   unfold NumsEnd at HN2
   rw[←HT1.out]at HN2
   clear hfar hrce
   cases hz:rdNs rc.toNat t with
   |none=>
    rw[hz]at HN2 HNE
    clear hz
    go_wp2_with (go_at_call 100;refine HN2.out.mono ?_;rintro e w3 ⟨hg3,rfl⟩;have HG3:=h_ hg3;have HR3:=h_ (show WBk w3 w.heap.size #[.int .i64 0,.int .i64 0,.slice none 0 0] 28 from (hg3.block _ HRD.out.lt (fun e=>by have:=Option.some.inj e;have:=HLT.out;omega)).trans HRD.out);obtain ⟨u0,u1,u2⟩:=HR3.out.f3;obtain ⟨x0,x1,x2⟩:=HR3.out.q3;clear hg3)
    have HF:=h_ (bk3 HR3.out (.int .i64 0) (.int .i64 0) (.slice none 0 0))
    obtain ⟨q0,q1,q2⟩:=HF.out.q3
    exact bodyPost_ret (v:=.tuple #[.agg #[.int .i64 0,.int .i64 0,.slice none 0 0],.bool false]) (by simp[results,Tryz.results101,go_sem,q0,q1,q2]) rfl ⟨grw_trans (grw_trans HGD.out HG3.out HQ.out) (grw3 _ _ _ _ _) HQR.out,.inl ⟨rfl,by rw[HT.out];exact HNE.out⟩⟩
   |some p=>
    obtain ⟨zs,t'⟩:=p
    rw[hz]at HN2 HNE
    clear hz
    obtain ⟨n,hn⟩:=gN (rc.toNat)
    rw[hn]at HN2
    have hn288:n≤288:=by omega
    clear hn
    go_wp2_with (go_at_call 100;refine HN2.out.mono ?_;rintro e w3 ⟨hg3,sv,a2,rfl,ho3,hl3,hb3,ha2,ht2,hk3⟩;have HG3:=h_ hg3;have HO3:=h_ ho3;have HB3:=h_ hb3;have HA2:=h_ ha2;have HT2:=h_ ht2;have HK3:=h_ hk3;have HL3:=h_ hl3;obtain ⟨sa,sk,hse⟩:=ho3.shape;rw[hl3]at hse;subst hse;clear hg3 ho3 hl3 hb3 ha2 ht2 hk3)
    have HR3:=h_ (show WBk w3 w.heap.size #[.int .i64 0,.int .i64 0,.slice none 0 0] 28 from (HG3.out.block _ HRD.out.lt (fun e=>by have:=Option.some.inj e;have:=HLT.out;omega)).trans HRD.out)
    have HGW:=h_ (grw_trans HGD.out HG3.out HQ.out)
    clear z0 z1 z2 y0 y1 y2
    go_loopw [9,10,45] (fun _ _ iv wr=>∃(i:Nat) (xi:Int),i≤n∧xi=(i:Int)∧iv=.int .i64 xi∧OwnZ wr wd.heap.size (.slice sa n sk) (mixL zs i)∧Below wd.heap.size w3 wr) (fun _ _ iv _=>n - (intOf iv).toNat)
    case atStart=>exact ⟨0,0,Nat.zero_le _,rfl,rfl,by rw[mixL_zero];exact HO3.out,Below.refl _ _⟩
    case round=>
     obtain ⟨i,xi,hi,hxi,rfl,hown,hbel⟩:=hrel
     have HO:=h_ hown
     have HBL:=h_ hbel
     have HXI:=h_ hxi
     have hi0:0≤xi:=by omega
     have hi1:xi≤288:=by omega
     clear hown hbel hxi
     by_cases hlt:xi<(n:Int)
     ·obtain ⟨x,hx⟩:∃x,zs[i]?=some x:=⟨_,List.getElem?_eq_getElem (by rw[HL3.out];have:=HXI.out;omega)⟩
      have hxb:=HB3.out x (List.mem_of_getElem? hx)
      have HCO:=fun W=>wcellof_any x W hxb.1 hxb.2
      have HML:=h_ (show (mixL zs i).length=n by rw[mixL_len,HL3.out])
      have hown:wr.ownsRow wd.heap.size 3 1 (.slice sa n sk) n ((mixL zs i).map (Value.int .i64)):=by have:=HO.out;unfold OwnZ at this;rw[HML.out]at this;exact this
      obtain ⟨g,gc,he⟩:=Joins.ownsRow_form hown (by have:=HXI.out;omega)
      injection he with he1 he2 he3
      subst he1 he3
      have d1:wr.cell? ⟨g,i,none⟩=some (.int .i64 x):=by
       rw[World.ownsRow.cellAt hown i (by have:=HXI.out;omega),List.getElem?_map,mixL_at hx]
       rfl
      have d2:=World.ownsRow.frozenAt hown i
      have HST:=h_ (World.ownsRow.stored hown i (.int .i64 (unz x)))
      have HGB:=h_ (World.ownsRow.lt hown g rfl)
      have HNX:=h_ (mixL_next hx)
      rw[show i=xi.toNat by have:=HXI.out;omega]at d1 d2
      obtain ⟨ux,hux⟩:=gN (unz x)
      rw[hux]at HST HNX
      have HCO2:=h_ (HCO wr)
      rw[hux]at HCO2
      clear hown hx hux HCO hxb
      go_wp2_with (go_at_call 110;refine HCO2.out.mono ?_;rintro e w4 ⟨rfl,rfl⟩)
      go_roundw
      case rel=>
       have hii:xi.toNat=i:=by have:=HXI.out;omega
       refine ⟨i+1,_,by have:=HXI.out;omega,by have:=HXI.out;omega,rfl,?_,?_⟩
       ·rw[hii]
        unfold OwnZ
        rw[←HNX.out,List.length_set,HML.out,List.map_set]
        exact HST.out.1
       ·rw[hii]
        exact HBL.out.grown HST.out.2 (Nat.le_trans HG3.out.size HBL.out.size) (fun k e=>by rw[←Option.some.inj e];exact HGB.out.1)
      case measure=>have:=HXI.out;simp[intOf];omega
     ·have HOF:=h_ (show OwnZ wr wd.heap.size (.slice sa n sk) (unzL zs) by rw[←mixL_all zs (i:=i) (by rw[HL3.out];have:=HXI.out;omega)];exact HO.out)
      have HBD:=h_ (show WBk wr w.heap.size #[.int .i64 0,.int .i64 0,.slice none 0 0] 28 from HR3.out.bel HBL.out HRD.out.lt)
      have HKR:=h_ (show WBk wr B #[v,.int .i64 (a2:Int)] 159 from HK3.out.bel HBL.out HKD.out.lt)
      obtain ⟨z0,z1,z2⟩:=HBD.out.f3
      obtain ⟨y0,y1,y2⟩:=HBD.out.q3
      have HFB:=h_ (bk3 HBD.out (.int .i64 r) (.int .i64 c) (.slice sa n sk))
      obtain ⟨q0,q1,q2⟩:=HFB.out.q3
      go_wp2
      have HG5:=h_ (grw3 wr w.heap.size (.int .i64 r) (.int .i64 c) (.slice sa n sk))
      refine bodyPost_ret (v:=.tuple #[.agg #[.int .i64 r,.int .i64 c,.slice sa n sk],.bool true]) (by simp[results,Tryz.results101,go_sem,q0,q1,q2]) rfl ⟨?_,.inr ⟨⟨r,c,unzL zs⟩,_,a2,rfl,?_,HA2.out,?_,?_⟩⟩
      ·exact grw_trans (grw_bel HGW.out HBL.out HGD.out.size) HG5.out HQR.out
      ·exact (HOF.out.keptB HG5.out HRD.out.lt).base HGD.out.size
      ·exact (HG5.out.block B HKR.out.lt (fun e=>by have:=Option.some.inj e;have:=HLT.out;omega)).trans HKR.out
      ·rw[HT.out,←HT2.out]
       exact HNE.out
end Go.Proofs.YtniloklglpchfakGreat
