/- What trainFact of the laws comes to: a scale of 1 that ought to double learns. -/
import Derived.Test.YtpniemnfdleiialGreatTrC5
import Derived.Test.YtpniemnfdleiialGreatTrC2
import Derived.Test.YtpniemnfdleiialGreatPkPnF
import Derived.Test.YtpniemnfdleiialGreatPkPlC
import Derived.Shelf.Abstract
namespace Go.Proofs.YtpniemnfdleiialGreat
open Go.RowKit
def tfL:List Ly:=[⟨3,⟨1,1,[256]⟩,noMx⟩]
def tfB:Mx×Mx:=(⟨1,1,[256]⟩,⟨1,1,[512]⟩)
theorem tf_E:oneE tfL (zeroD tfL) 0 tfB 1 128 0=0:=by kernel_rfl
theorem tf_S:(stepS ⟨tfL,zeroD tfL,0⟩ tfB 1 128 0).net=[⟨3,⟨1,1,[384]⟩,noMx⟩]:=by kernel_rfl
theorem tf_n:(stepS ⟨tfL,zeroD tfL,0⟩ tfB 1 128 0).n=1:=by kernel_rfl
theorem tf_K:stepK ⟨tfL,zeroD tfL,0⟩ tfB 1 128 0=128:=by kernel_rfl
theorem tf_made(w:World):Y_ ((w.alloc (.cells #[.int .i64 256] 3)).alloc (.cells #[.int .i64 3,.int .i64 1,.int .i64 1,.slice (some ⟨w.heap.size,0,none⟩) 1 1,.int .i64 0,.int .i64 0,.slice none 0 0] 61)) (.slice (some ⟨w.heap.size+1,0,none⟩) 1 1) tfL:=by
 have h:=Owns.made (lo:=0) (base:=0) (w:=w.alloc (.cells #[.int .i64 256] 3)) (e:=61) (size:=7) (n:=1) (cs:=[.int .i64 3,.int .i64 1,.int .i64 1,.slice (some ⟨w.heap.size,0,none⟩) 1 1,.int .i64 0,.int .i64 0,.slice none 0 0]) (sp:=lyS ⟨3,⟨1,1,[256]⟩,noMx⟩) (Nat.zero_le _) (by unfold maxLen;omega) rfl
  (enc_ly2 (l:=⟨3,⟨1,1,[256]⟩,noMx⟩) ⟨ints_new w [256] (by decide) 3,.inr fun b _ hb=>by omega⟩ ⟨I_.nil _,.inl rfl⟩)
 rw[World.size_alloc]at h
 exact h.reads
set_option maxHeartbeats 8000000 in
set_option maxRecDepth 100000 in
theorem topone_any(w:World):Calls Tryz.prog 5 #[] w fun e w'=>e=.returned (.bool true)∧Below w.heap.size w w':=by
 obtain ⟨V,hV⟩:=gM ((w.alloc (.cells #[.int .i64 256] 3)).alloc (.cells #[.int .i64 3,.int .i64 1,.int .i64 1,.slice (some ⟨w.heap.size,0,none⟩) 1 1,.int .i64 0,.int .i64 0,.slice none 0 0] 61))
 have HV:=h_ hV
 have HWV:Hid (Below w.heap.size w V):=by rw[hV];exact h_ (a_ (o_ _ _))
 have HL:Hid (Y_ V (.slice (some ⟨w.heap.size+1,0,none⟩) 1 1) tfL):=by rw[hV];exact h_ (tf_made w)
 have HC:=h_ (trbegin_any _ tfL V HL.out (by decide) (fun l hl=>by
  have e:l=⟨3,⟨1,1,[256]⟩,noMx⟩:=by simpa [tfL] using hl
  subst e;exact ⟨by decide,by decide⟩))
 clear hV
 go_enter Tryz.func5,Tryz.ntmps5
 go_wp2_with fail
 rw[←HV.out]
 refine HC.out.mono ?_
 rintro e w1 ⟨u,t,rfl,ho1,ho2,hb1⟩
 have H1:=h_ (show Y_ w1 u tfL from ho1.reads)
 have H2:=h_ (show D_ w1 t (zeroD tfL) from ho2.reads)
 obtain ⟨ua,uk,rfl,_,_⟩:=H1.out.shape
 obtain ⟨va,vk,rfl,_,_⟩:=H2.out.shape
 have HW1:=h_ (b_ HWV.out hb1)
 obtain ⟨un,eun⟩:=gN (tfL.length)
 obtain ⟨vn,evn⟩:=gN ((zeroD tfL).length)
 rw[eun]at H1 ⊢
 rw[evn]at H2 ⊢
 clear ho1 ho2 hb1 eun evn HC
 obtain ⟨Z,hZ⟩:=gM ((((w1.alloc (.cells #[.slice ua un uk,.slice va vn vk,.int .i64 0] 34)).alloc (.cells #[.int .i64 256] 3)).alloc (.cells #[.int .i64 512] 3)).alloc (.cells #[.int .i64 1,.int .i64 1,.slice (some ⟨w1.heap.size+1,0,none⟩) 1 1,.int .i64 1,.int .i64 1,.slice (some ⟨w1.heap.size+1+1,0,none⟩) 1 1] 30))
 have HZ:=h_ hZ
 have H1Z:Hid (Below w1.heap.size w1 Z):=by rw[hZ];exact h_ (a_ (a_ (a_ (o_ _ _))))
 have J1:Hid (I_ Z (.slice (some ⟨w1.heap.size+1,0,none⟩) 1 1) tfB.1.cells):=by
  rw[hZ];exact h_ ((ints_newB (w1.alloc (.cells #[.slice ua un uk,.slice va vn vk,.int .i64 0] 34)) [256] (by decide) 3 (B:=w1.heap.size+1) (by simp)).u_ (a_ (o_ _ _)))
 have J2:Hid (I_ Z (.slice (some ⟨w1.heap.size+1+1,0,none⟩) 1 1) tfB.2.cells):=by
  rw[hZ];exact h_ ((ints_newB ((w1.alloc (.cells #[.slice ua un uk,.slice va vn vk,.int .i64 0] 34)).alloc (.cells #[.int .i64 256] 3)) [512] (by decide) 3 (B:=w1.heap.size+1+1) (by simp)).u_ (o_ _ _))
 have HO:=h_ (trone_any (.slice ua un uk) (.slice va vn vk) tfL (zeroD tfL) 0 tfB 1 128 0 (some ⟨w1.heap.size+1,0,none⟩) 1 1 (some ⟨w1.heap.size+1+1,0,none⟩) 1 1 Z (H1.out.u_ H1Z.out) (H2.out.u_ H1Z.out) J1.out J2.out)
 rw[tf_E,tf_S,tf_n,tf_K,e_ rfl]at HO
 clear hZ
 go_wp2_with fail
 rw[←HZ.out]
 refine HO.out.mono ?_
 rintro e w2 ⟨hb2,u2,t2,rfl,ho1,ho2⟩
 have H3:=h_ (show Y_ w2 u2 [⟨3,⟨1,1,[384]⟩,noMx⟩] from ho1.reads)
 obtain ⟨va2,vk2,rfl,_,_,_⟩:=ho2.reads
 obtain ⟨vn2,evn2⟩:=gN ((stepS ⟨tfL,zeroD tfL,0⟩ tfB 1 128 0).spd.length)
 rw[evn2]
 obtain ⟨b,off,cp,sa,sn,sk,ta,tn,tk,rfl,_,_,_,c3,_,_,_,hly⟩:=H3.out.at (i:=0) (l:=⟨3,⟨1,1,[384]⟩,noMx⟩) rfl
 have hi:=(Y_.ints hly).1
 obtain ⟨a',cap',ei,_,_,h4⟩:=hi
 obtain ⟨ib,io,rfl,hic⟩:=h4.resolve_left (by decide)
 obtain ⟨ea,en,ek⟩:=Value.slice.inj ei
 subst ea en ek
 have hbx:=o_ w2 (.cells #[.slice (some ⟨b,off,none⟩) 1 cp,.slice va2 vn2 vk2,.int .i64 1] 34)
 have i0:=c_ hbx (show w2.cell? ⟨ib,io,none⟩=some (.int .i64 384) by simpa using hic 0 384 rfl)
 have c3':=c_ hbx (show w2.cell? ⟨b,off+1+2,none⟩=some (.slice (some ⟨ib,io,none⟩) 1 sk) by simpa using c3)
 have HW2:=h_ (b_ (b_ HW1.out H1Z.out) hb2)
 clear hb2 ho1 ho2 evn2 c3 hly ei h4 hic HO hbx
 go_wp2
 go_ret
 exact ⟨rfl,a_ HW2.out⟩
theorem OwnA.u_{w w':World}{base:Nat}{v:Value}{l:List (Int×Int)}(h:OwnA w base v l)(hb:Below w.heap.size w w'):OwnA w' base v l:=by
 refine World.ownsRow.kept (row:=none) h ⟨hb.os,hb.tape,hb.output,hb.size,fun k hk _=>hb.block k hk⟩ ?_
 cases e:v.ownBlock with
 |none=>exact .inl rfl
 |some k=>exact .inr (by simp)
theorem run_mkp(e s size bytes:Nat)(z:Value)(hu:Tryz.prog.underlying s=some (.slice e))(hi:(Tryz.prog.info? e).map (fun i=>(i.zero,i.size,i.bytes))=some (some z,size,bytes))(L:Int)(n:Nat)(hL:L=(n:Int))(hn:bytes*n≤281474976710656)(hm:n≤9223372036854775807)(W:World):
  (Instr.makeSlice s (.int .i64 0) (.int .i64 L)).run Tryz.prog W=.ok (.slice (some ⟨W.heap.size,0,none⟩) 0 n) (W.alloc (.cells (madeCells z.cells (n*size)) e)):=by
 obtain ⟨i0,hi0,hz0,hz1,hz2⟩:=info_parts hi
 subst hL
 have hr:=run_make (P:=Tryz.prog) W s e i0 z hu hi0 hz0 .i64 .i64 0 (n:Int) (by omega) (by omega) (by rw[hz2];omega) (by omega)
 simpa [hz1] using hr
theorem OwnA.made{base cap:Nat}{w:World}(cs:Array Value)(hb:base≤w.heap.size)(hc:cap≤maxLen)(hs:cs.size=cap*2):OwnA (w.alloc (.cells cs 105)) base (.slice (some ⟨w.heap.size,0,none⟩) 0 cap) []:=
 ⟨by simp[cellsA],.inr ⟨w.heap.size,cap,cs,rfl,hb,heap_alloc_new w _,Nat.zero_le _,hc,hs,by simp[cellsA]⟩⟩
theorem OwnP.made{base cap:Nat}{w:World}(cs:Array Value)(hb:base≤w.heap.size)(hc:cap≤maxLen)(hs:cs.size=cap*1):OwnP (w.alloc (.cells cs 97)) base (.slice (some ⟨w.heap.size,0,none⟩) 0 cap) []:=
 ⟨[],⟨by simp,.inr ⟨w.heap.size,cap,cs,rfl,hb,heap_alloc_new w _,Nat.zero_le _,hc,hs,by simp⟩⟩,fun i l h=>by simp at h⟩
theorem turnL_len2(first M:Nat)(i:Nat)(hi:i≤12)(hf:first≤12):(fwdL first++turnL first M i).length≤36:=by
 have:=turnL_len first M i
 rw[List.length_append,fwdL_len];omega
set_option maxHeartbeats 8000000 in
set_option maxRecDepth 100000 in
theorem taket_any(first M:Nat)(xf m:Int)(w:World)(hxf:xf=(first:Int))(hm:m=(M:Int))(hf:first≤12)(hM:M≤12):Calls Tryz.prog 73 #[.int .i64 xf,.int .i64 m] w fun e w'=>∃s,e=.returned s∧OwnA w' w.heap.size s (fwdL first++turnL first M M)∧Below w.heap.size w w':=by
 have HXF:=h_ hxf
 have HMM:=h_ hm
 have hf0:0≤xf:=by omega
 have hf1:xf≤12:=by omega
 have hm0:0≤m:=by omega
 have hm1:m≤12:=by omega
 have hmk:=run_mkp 105 97 2 16 (.agg #[.int .i64 0,.int .i64 0]) Tryz.underlying97 infoAct (2*m) (2*M) (by omega) (by omega) (by omega)
 have HO0:=h_ (OwnA.made (w:=w) (base:=w.heap.size) (cap:=2*M) (madeCells (Value.agg #[.int .i64 0,.int .i64 0]).cells (2*M*2)) (Nat.le_refl _) (by unfold maxLen;omega) (size_madeCells _ _))
 have HB0:=h_ (o_ w (.cells (madeCells (Value.agg #[.int .i64 0,.int .i64 0]).cells (2*M*2)) 105))
 obtain ⟨W0,hW0⟩:=gM (w.alloc (.cells (madeCells (Value.agg #[.int .i64 0,.int .i64 0]).cells (2*M*2)) 105))
 rw[←hW0]at HO0 HB0
 replace hmk:=(hmk w).trans (by rw[←hW0])
 clear hxf hm hW0
 go_enter Tryz.func73,Tryz.ntmps73
 go_wp2
 clear hmk
 go_loopw [5,12] (fun av iv wr=>∃(k:Nat) (xi:Int),k≤first∧xi=(k:Int)∧iv=.int .i64 xi∧OwnA wr w.heap.size av (fwdL k)∧Below w.heap.size w wr) (fun _ iv _=>first - (intOf iv).toNat)
 case atStart=>exact ⟨0,0,Nat.zero_le _,rfl,rfl,HO0.out,HB0.out⟩
 case round=>
  obtain ⟨k,xi,hk,hxi,rfl,hro,hbw⟩:=hrel
  have HRO:=h_ hro
  have HBW:=h_ hbw
  have HXI:=h_ hxi
  have hx0:0≤xi:=by omega
  have hx1:xi≤12:=by omega
  obtain ⟨sa,sk,hse⟩:=hro.shape
  rw[fwdL_len]at hse
  subst hse
  clear hro hbw hxi
  by_cases hlt:xi<xf
  ·go_wp2_with (first|(go_at_call 93;refine (fwd_any _ _).mono ?_;rintro e w1 ⟨rfl,hb1⟩;have HR1:=h_ (HRO.out.u_ hb1);have HB1:=h_ (below_go HBW.out hb1);clear hb1)|(at_builtin;refine app_act rfl _ _ rfl w.heap.size _ (fwdL k) 1 xi rfl ?h1 rfl ?h2 ?h3 ?_))
   case h1=>exact HR1.out.alloc _
   case h2=>rw[fwdL_len];omega
   case h3=>exact HB1.out.size
   intro v' w2 hown hgr
   have HO2:=h_ (show OwnA w2 w.heap.size v' (fwdL (k+1)) by rw[fwdL_succ,←HXI.out];exact hown)
   have HB2:=h_ (hgr w (below_go HB1.out (o_ _ _)) (Nat.le_refl _))
   clear hown hgr
   go_wp2
   go_roundw
   case rel=>exact ⟨k+1,_,by have:=HXI.out;have:=HXF.out;omega,by have:=HXI.out;omega,rfl,HO2.out,HB2.out⟩
   case measure=>have:=HXI.out;have:=HXF.out;simp[intOf];omega
  ·obtain rfl:k=first:=by have:=HXI.out;have:=HXF.out;omega
   have HO1:=h_ (show OwnA wr w.heap.size (.slice sa k sk) (fwdL k++turnL k M 0) by unfold turnL;rw[List.append_nil];exact HRO.out)
   go_wp2
   go_loopw [5,22] (fun av iv w2=>∃(j:Nat) (xj:Int),j≤M∧xj=(j:Int)∧iv=.int .i64 xj∧OwnA w2 w.heap.size av (fwdL k++turnL k M j)∧Below w.heap.size w w2) (fun _ iv _=>M - (intOf iv).toNat)
   case atStart=>exact ⟨0,0,Nat.zero_le _,rfl,rfl,HO1.out,HBW.out⟩
   case round=>
    obtain ⟨j,xj,hj,hxj,rfl,hro,hbw⟩:=hrel
    have HR2:=h_ hro
    have HB2:=h_ hbw
    have HXJ:=h_ hxj
    have hy0:0≤xj:=by omega
    have hy1:xj≤12:=by omega
    have HLEN:=h_ (turnL_len2 k M j (by omega) hf)
    obtain ⟨sa2,sk2,hse⟩:=hro.shape
    obtain ⟨LN,hLN⟩:=gN ((fwdL k++turnL k M j).length)
    rw[hLN]at hse HLEN
    subst hse
    obtain ⟨LL,hLL⟩:=gN (fwdL k++turnL k M j)
    rw[hLL]at HR2 hLN
    have HLL:=h_ hLL
    have HLN:=h_ hLN
    clear hro hbw hxj hLN hLL
    by_cases hlt2:xj<m
    ·by_cases hc:xf+xj<m
     ·have HT:=h_ (show fwdL k++turnL k M (j+1)=LL++[(1,xf+xj)]++[(2,xj)] by
       unfold turnL
       rw[if_pos (by have:=HXF.out;have:=HXJ.out;have:=HMM.out;omega),←List.append_assoc,←List.append_assoc,HLL.out,show ((k+j:Nat):Int)=xf+xj by have:=HXF.out;have:=HXJ.out;omega,HXJ.out])
      go_wp2_with (first|(go_at_call 93;refine (fwd_any _ _).mono ?_;rintro e w1 ⟨rfl,hb1⟩;have HR3:=h_ (HR2.out.u_ hb1);have HB3:=h_ (below_go HB2.out hb1);clear hb1)|(at_builtin;refine app_act rfl _ _ rfl w.heap.size _ LL 1 (xf+xj) rfl ?h1 rfl ?h2 ?h3 ?_))
      case h1=>exact HR3.out.alloc _
      case h2=>have:=HLEN.out;have:=HLN.out;omega
      case h3=>exact HB3.out.size
      intro v' w2 hown hgr
      have HO4:=h_ hown
      have HB4:=h_ (hgr w (below_go HB3.out (o_ _ _)) (Nat.le_refl _))
      clear hown hgr
      go_wp2_with (first|(go_at_call 94;refine (bwd_any _ _).mono ?_;rintro e w3 ⟨rfl,hb1⟩;have HR5:=h_ (HO4.out.u_ hb1);have HB5:=h_ (below_go HB4.out hb1);clear hb1)|(at_builtin;refine app_act rfl _ _ rfl w.heap.size _ (LL++[(1,xf+xj)]) 2 xj rfl ?h1 rfl ?h2 ?h3 ?_))
      case h1=>exact HR5.out.alloc _
      case h2=>rw[List.length_append];have:=HLEN.out;have:=HLN.out;simp;omega
      case h3=>exact HB5.out.size
      intro v6 w6 hown hgr
      have HO6:=h_ (show OwnA w6 w.heap.size v6 (fwdL k++turnL k M (j+1)) by rw[HT.out,List.append_assoc];exact hown)
      have HB6:=h_ (hgr w (below_go HB5.out (o_ _ _)) (Nat.le_refl _))
      clear hown hgr
      go_wp2
      go_roundw
      case rel=>exact ⟨j+1,_,by have:=HXJ.out;have:=HMM.out;omega,by have:=HXJ.out;omega,rfl,HO6.out,HB6.out⟩
      case measure=>have:=HXJ.out;have:=HMM.out;simp[intOf];omega
     ·have HT:=h_ (show fwdL k++turnL k M (j+1)=LL++[(2,xj)] by
       unfold turnL
       rw[if_neg (by have:=HXF.out;have:=HXJ.out;have:=HMM.out;omega),List.append_nil,←List.append_assoc,HLL.out,HXJ.out])
      go_wp2_with (first|(go_at_call 94;refine (bwd_any _ _).mono ?_;rintro e w3 ⟨rfl,hb1⟩;have HR5:=h_ (HR2.out.u_ hb1);have HB5:=h_ (below_go HB2.out hb1);clear hb1)|(at_builtin;refine app_act rfl _ _ rfl w.heap.size _ LL 2 xj rfl ?h1 rfl ?h2 ?h3 ?_))
      case h1=>exact HR5.out.alloc _
      case h2=>have:=HLEN.out;have:=HLN.out;omega
      case h3=>exact HB5.out.size
      intro v6 w6 hown hgr
      have HO6:=h_ (show OwnA w6 w.heap.size v6 (fwdL k++turnL k M (j+1)) by rw[HT.out];exact hown)
      have HB6:=h_ (hgr w (below_go HB5.out (o_ _ _)) (Nat.le_refl _))
      clear hown hgr
      go_wp2
      go_roundw
      case rel=>exact ⟨j+1,_,by have:=HXJ.out;have:=HMM.out;omega,by have:=HXJ.out;omega,rfl,HO6.out,HB6.out⟩
      case measure=>have:=HXJ.out;have:=HMM.out;simp[intOf];omega
    ·have HE:=h_ (show OwnA wr w.heap.size (.slice sa2 LN sk2) (fwdL k++turnL k M M) by
      have h:=HR2.out
      rw[←HLL.out,show j=M by have:=HXJ.out;have:=HMM.out;omega]at h
      exact h)
     go_wp2
     exact bodyPost_ret (v:=.slice sa2 LN sk2) (by simp[results,Tryz.results73,go_sem]) rfl ⟨_,rfl,HE.out,HB2.out⟩
end Go.Proofs.YtpniemnfdleiialGreat
