/- What matrixOf and SaveOf of the document's answer come to: a state's bytes. -/
import Derived.Test.YtaajlggpjholeajDoorKpS3
import Derived.Test.YtaajlggpjholeajDoorWrR1
namespace Go.Proofs.YtaajlggpjholeajDoor
open Go.RowKit
theorem mxN_take{m:Mx}{i:Nat}{x:Int}(h:m.cells[i]?=some x):wrI (mxN m) (2+(i+1))=wrI (mxN m) (2+i)++sev (zig x):=by
 unfold wrI
 rw[←Nat.add_assoc]
 exact wr_take (mxN_cell h)
set_option maxHeartbeats 16000000 in
set_option maxRecDepth 100000 in
theorem rmatof_any(mv:Value)(m:Mx)(w:World)(hm:M_ w mv m)(hf:q_ m=0):Calls Tryd.prog 21 #[mv] w fun e w'=>∃s,e=.returned s∧OwnY w' w.heap.size s (wrNs (mxN m))∧Below w.heap.size w w':=by
 obtain ⟨s,rfl,hs⟩:=hm
 obtain ⟨⟨r1,r2,r3,r4⟩,hcl,hce⟩:=fault_zero hf
 have hrc:=rc_bd m.rows m.cols ⟨r1,r2,r3,r4⟩
 have HOK:=h_ (mxN_ok hf)
 have HLE:=h_ (mxN_le hf)
 obtain ⟨r,hr⟩:=gN (m.rows)
 obtain ⟨c,hc⟩:=gN (m.cols)
 obtain ⟨a,cap,rfl,h2,h3,h4⟩:=hs
 obtain ⟨n,hn⟩:=gN (m.cells.length)
 have hn288:n≤288:=by omega
 have H4:=h_ h4
 have HN:=h_ hn
 have HCE:=h_ hce
 have HL:=h_ (show (mxN m).length=2+n by rw[mxN_len,hn];omega)
 have HH:=h_ (show (mxN m)[0]?=some r.toNat∧(mxN m)[1]?=some c.toNat from ⟨by rw[←hr];rfl,by rw[←hc];rfl⟩)
 rw[hn]at h2 ⊢
 rw[hr,hc]
 rw[hr]at r1 r2
 rw[hc]at r3 r4
 obtain ⟨W1,hW1⟩:=gM (w.alloc (.cells #[.int .i64 r,.int .i64 c,.slice a n cap] 51))
 have HW1:=h_ hW1
 have HB1:=h_ (show Below w.heap.size w W1 by rw[hW1];exact o_ _ _)
 have HM1:=h_ (show WBk W1 w.heap.size #[.int .i64 r,.int .i64 c,.slice a n cap] 51 by rw[hW1];exact WBk.new _ _ _)
 have HC1:=h_ (rseven_any 9 r.toNat r W1 (by omega) (HOK.out _ (List.mem_of_getElem? HH.out.1)) (by decide) (by decide))
 have hcn:0≤c:=r3
 obtain ⟨x0,_,_⟩:=HM1.out.c3
 clear h4 hn hce hcl hrc hr hc hf hW1 r1 r2 r4
 go_enter Tryd.func21,Tryd.ntmps21
 go_wp2_with fail
 rw[←HW1.out]
 refine HC1.out.mono ?_
 rintro e w2 ⟨s2,rfl,ho2,hb2⟩
 have HKw2:=h_ (show OwnY w2 W1.heap.size s2 (sev r.toNat)∧Below W1.heap.size W1 w2 from ⟨ho2,hb2⟩)
 have HC2:=h_ (rseven_any 9 c.toNat c w2 (by omega) (HOK.out _ (List.mem_of_getElem? HH.out.2)) (by decide) (by decide))
 clear x0 ho2 hb2
 obtain ⟨_,x1,_⟩:=(HM1.out.kept HKw2.out.2).c3
 go_wp2_with (first
  |(go_at_call 20;refine HC2.out.mono ?_;rintro e w3 ⟨sv,rfl,ho,hb⟩;have HOw3:=h_ ho;have HJw3:=h_ (show OwnY w3 W1.heap.size s2 (sev r.toNat)∧Below W1.heap.size W1 w3∧Below w2.heap.size w2 w3 from ⟨HKw2.out.1.u_ hb,bel_on HKw2.out.2 hb,hb⟩);clear ho hb)
  |(at_builtin;refine app_bysW rfl _ _ rfl W1.heap.size s2 sv (sev r.toNat) (sevF 9 c.toNat) rfl HJw3.out.1 rfl HOw3.out.isBys HOw3.out.nilOk ?h1w4 ?h2w4 ?_))
 case h1w4=>have h1:(sev r.toNat).length≤9:=sevF_len 9 _;have h2:(sevF 9 c.toNat).length≤9:=sevF_len 9 _;omega
 case h2w4=>exact HJw3.out.2.1.size
 intro vw4 w4 hown hgr has hsz
 have HKw4:=h_ (show OwnY w4 W1.heap.size vw4 (wrI (mxN m) (2+0))∧Below W1.heap.size W1 w4 from ⟨by
  have e:wrI (mxN m) (2+0)=sev r.toNat++sevF 9 c.toNat:=by
   show wrI (mxN m) 2=_
   unfold wrI
   rw[wr_take HH.out.2,wr_take HH.out.1]
   simp[wrNs]
   rfl
  rw[e]
  exact hown,hgr W1 HJw3.out.2.1 (Nat.le_refl _)⟩)
 clear hown hgr has hsz x1
 go_wp2
 go_loopw [3,4,5,6] (fun bv _ q _ wr=>∃(i:Nat) (xi:Int),i≤n∧xi=(i:Int)∧q=.int .i64 xi∧OwnY wr W1.heap.size bv (wrI (mxN m) (2+i))∧Below W1.heap.size W1 wr) (fun _ _ q _ _=>n - (intOf q).toNat)
 case atStart=>exact ⟨0,0,Nat.zero_le _,rfl,rfl,HKw4.out⟩
 case round=>
  obtain ⟨i,xi,hi,hxi,rfl,hown,hbw⟩:=hrel
  obtain ⟨V,hV⟩:=gM (wr)
  subst hV
  obtain ⟨bv,hbv⟩:=gM (u3)
  subst hbv
  have HXI:=h_ hxi
  have HKV:=h_ (And.intro hown hbw)
  have hxi0:0≤xi:=by omega
  have hxi1:xi≤288:=by omega
  obtain ⟨_,_,x2⟩:=(HM1.out.kept hbw).c3
  clear hxi hown hbw
  by_cases hlt:xi<(n:Int)
  ·obtain ⟨x,hx⟩:∃x,m.cells[i]?=some x:=⟨_,List.getElem?_eq_getElem (by rw[HN.out];have:=HXI.out;omega)⟩
   obtain ⟨b1,o1,ha1,hc1⟩:=H4.out.resolve_left (fun e=>by rw[e]at hx;simp at hx)
   subst ha1
   have d1:=((b_ HB1.out HKV.out.2).cell (World.block_lt_of_cell? w _ (hc1 i x hx))).trans (hc1 i x hx)
   rw[show i=xi.toNat by have:=HXI.out;omega]at d1
   obtain ⟨e1,e2⟩:=HCE.out x (List.mem_of_getElem? hx)
   have HNX:=h_ (mxN_take hx)
   have HZC:=h_ (zig_cast x)
   have HOZ:=h_ (HOK.out _ (List.mem_of_getElem? (mxN_cell hx)))
   clear hc1 hx
   have hw2:IntKind.i64.wrap (2*x)=2*x:=by rw[IntKind.wrap_i64];omega
   by_cases c1:0≤x
   ·have c2:¬x<0:=by omega
    have HCV:=h_ (rseven_any 9 (zig x) (2*x) V (by rw[HZC.out,if_pos c1]) HOZ.out (by decide) (by decide))
    go_wp2_with (first
     |(go_at_call 20;refine HCV.out.mono ?_;rintro e w9 ⟨sv,rfl,ho,hb⟩;have HOw9:=h_ ho;have HJw9:=h_ (show OwnY w9 W1.heap.size bv (wrI (mxN m) (2+i))∧Below W1.heap.size W1 w9∧Below V.heap.size V w9 from ⟨HKV.out.1.u_ hb,bel_on HKV.out.2 hb,hb⟩);clear ho hb)
     |(at_builtin;refine app_bysW rfl _ _ rfl W1.heap.size bv sv (wrI (mxN m) (2+i)) (sevF 9 (zig x)) rfl HJw9.out.1 rfl HOw9.out.isBys HOw9.out.nilOk ?h1wt ?h2wt ?_))
    case h1wt=>have h1:=wrI_len (mxN m) (2+i);have h2:(sevF 9 (zig x)).length≤9:=sevF_len 9 _;have:=HXI.out;omega
    case h2wt=>exact HJw9.out.2.1.size
    intro vwt wt hown hgr has hsz
    have HKwt:=h_ (show OwnY wt W1.heap.size vwt (wrI (mxN m) (2+(i+1)))∧Below W1.heap.size W1 wt from ⟨by rw[HNX.out];exact hown,hgr W1 HJw9.out.2.1 (Nat.le_refl _)⟩)
    clear hown hgr has hsz
    go_wp2
    go_roundw
    case rel=>exact ⟨i+1,_,by have:=HXI.out;omega,by have:=HXI.out;omega,rfl,HKwt.out.1,HKwt.out.2⟩
    case measure=>have:=HXI.out;simp[intOf];omega
   ·have c2:x<0:=by omega
    have hw3:IntKind.i64.wrap (-(2*x))=-(2*x):=by rw[IntKind.wrap_i64];omega
    have hw4:IntKind.i64.wrap (-(2*x) - 1)=-(2*x) - 1:=by rw[IntKind.wrap_i64];omega
    have HCV:=h_ (rseven_any 9 (zig x) (-(2*x) - 1) V (by rw[HZC.out,if_neg c1];omega) HOZ.out (by decide) (by decide))
    go_wp2_with (first
     |(go_at_call 20;refine HCV.out.mono ?_;rintro e w9 ⟨sv,rfl,ho,hb⟩;have HOw9:=h_ ho;have HJw9:=h_ (show OwnY w9 W1.heap.size bv (wrI (mxN m) (2+i))∧Below W1.heap.size W1 w9∧Below V.heap.size V w9 from ⟨HKV.out.1.u_ hb,bel_on HKV.out.2 hb,hb⟩);clear ho hb)
     |(at_builtin;refine app_bysW rfl _ _ rfl W1.heap.size bv sv (wrI (mxN m) (2+i)) (sevF 9 (zig x)) rfl HJw9.out.1 rfl HOw9.out.isBys HOw9.out.nilOk ?h1wt ?h2wt ?_))
    case h1wt=>have h1:=wrI_len (mxN m) (2+i);have h2:(sevF 9 (zig x)).length≤9:=sevF_len 9 _;have:=HXI.out;omega
    case h2wt=>exact HJw9.out.2.1.size
    intro vwt wt hown hgr has hsz
    have HKwt:=h_ (show OwnY wt W1.heap.size vwt (wrI (mxN m) (2+(i+1)))∧Below W1.heap.size W1 wt from ⟨by rw[HNX.out];exact hown,hgr W1 HJw9.out.2.1 (Nat.le_refl _)⟩)
    clear hown hgr has hsz
    go_wp2
    go_roundw
    case rel=>exact ⟨i+1,_,by have:=HXI.out;omega,by have:=HXI.out;omega,rfl,HKwt.out.1,HKwt.out.2⟩
    case measure=>have:=HXI.out;simp[intOf];omega
  ·have HKB:=h_ (show OwnY V W1.heap.size bv (wrNs (mxN m)) by
    rw[←wrI_all (L:=mxN m) (i:=2+i) (by rw[HL.out];have:=HXI.out;omega)]
    exact HKV.out.1)
   go_wp2
   exact bodyPost_ret (v:=bv) (by simp[results,Tryd.results21,go_sem]) rfl ⟨bv,rfl,HKB.out.base HB1.out.size,b_ HB1.out HKV.out.2⟩
end Go.Proofs.YtaajlggpjholeajDoor
