/- What message of package wire's reader comes to. -/
import Derived.Test.YtflbmhilkkhhlakGreatPkHdC
import Derived.Lib.SmallJoins
namespace Go.Proofs.YtflbmhilkkhhlakGreat
open Go.RowKit
theorem wcellof_any(x:Int)(w:World)(h0:0≤x)(h1:x≤9223372036854775807):Calls Tryz.prog 143 #[.int .i64 x] w fun e w'=>e=.returned (.int .i64 (unz x))∧w'=w:=by
 by_cases c:x % 2=1
 ·have HE:=h_ (show -(x / 2) - 1=unz x by unfold unz;rw[if_pos c])
  go_enter Tryz.func143,Tryz.ntmps143
  go_wp2
  go_ret
  exact ⟨i_ HE.out,rfl⟩
 ·have HE:=h_ (show x / 2=unz x by unfold unz;rw[if_neg c])
  go_enter Tryz.func143,Tryz.ntmps143
  go_wp2
  go_ret
  exact ⟨i_ HE.out,rfl⟩
def mixL (zs:List Int) (i:Nat):List Int:=unzL (zs.take i)++zs.drop i
theorem mixL_zero(zs:List Int):mixL zs 0=zs:=rfl
theorem mixL_all(zs:List Int){i:Nat}(h:zs.length≤i):mixL zs i=unzL zs:=by unfold mixL;rw[List.take_of_length_le h,List.drop_of_length_le h,List.append_nil]
theorem mixL_len(zs:List Int)(i:Nat):(mixL zs i).length=zs.length:=by
 unfold mixL
 rw[List.length_append,unzL_len,List.length_take,List.length_drop]
 omega
theorem mixL_at{zs:List Int}{i:Nat}{x:Int}(h:zs[i]?=some x):(mixL zs i)[i]?=some x:=by
 obtain ⟨hi,_⟩:=List.getElem?_eq_some_iff.1 h
 have hl:(unzL (zs.take i)).length=i:=by rw[unzL_len,List.length_take];omega
 unfold mixL
 rw[List.getElem?_append_right (by omega),hl,Nat.sub_self,List.getElem?_drop,Nat.add_zero]
 exact h
theorem mixL_next{zs:List Int}{i:Nat}{x:Int}(h:zs[i]?=some x):(mixL zs i).set i (unz x)=mixL zs (i+1):=by
 obtain ⟨hi,e⟩:=List.getElem?_eq_some_iff.1 h
 have hl:(unzL (zs.take i)).length=i:=by rw[unzL_len,List.length_take];omega
 unfold mixL
 rw[List.set_append_right _ _ (by omega),hl,Nat.sub_self,List.drop_eq_getElem_cons hi,List.set_cons_zero,List.take_succ_eq_append_getElem hi,unzL_snoc,e,List.append_assoc]
 rfl
theorem bk5{w:World}{R:Nat}{x0 x1 x2 x3 x4:Value}{t:TypeId}(h:WBk w R #[x0,x1,x2,x3,x4] t)(y0 y1 y2 y3 y4:Value):WBk (((((w.setCell ⟨R,0,none⟩ y0).setCell ⟨R,1,none⟩ y1).setCell ⟨R,2,none⟩ y2).setCell ⟨R,3,none⟩ y3).setCell ⟨R,4,none⟩ y4) R #[y0,y1,y2,y3,y4] t:=
 ((((h.set 0 y0).set 1 y1).set 2 y2).set 3 y3).set 4 y4
theorem WBk.c5{w:World}{R:Nat}{x0 x1 x2 x3 x4:Value}{t:TypeId}(h:WBk w R #[x0,x1,x2,x3,x4] t):w.cell? ⟨R,0,none⟩=some x0∧w.cell? ⟨R,1,none⟩=some x1∧w.cell? ⟨R,2,none⟩=some x2∧w.cell? ⟨R,3,none⟩=some x3∧w.cell? ⟨R,4,none⟩=some x4:=⟨h.c rfl,h.c rfl,h.c rfl,h.c rfl,h.c rfl⟩
theorem WBk.f5{w:World}{R:Nat}{cs:Array Value}{t:TypeId}(h:WBk w R cs t):w.frozen? ⟨R,0,none⟩=false∧w.frozen? ⟨R,1,none⟩=false∧w.frozen? ⟨R,2,none⟩=false∧w.frozen? ⟨R,3,none⟩=false∧w.frozen? ⟨R,4,none⟩=false:=⟨h.f 0,h.f 1,h.f 2,h.f 3,h.f 4⟩
theorem grw5(w:World)(R:Nat)(y0 y1 y2 y3 y4:Value):w.grownBy (((((w.setCell ⟨R,0,none⟩ y0).setCell ⟨R,1,none⟩ y1).setCell ⟨R,2,none⟩ y2).setCell ⟨R,3,none⟩ y3).setCell ⟨R,4,none⟩ y4) (some R):=by
 have q:∀k,some R=some k→w.heap.size≤k∨k=R:=fun k e=>.inr (Option.some.inj e).symm
 exact grw_trans (grw_trans (grw_trans (grw_trans (grw_set w R 0 y0) (grw_set _ R 1 y1) q) (grw_set _ R 2 y2) q) (grw_set _ R 3 y3) q) (grw_set _ R 4 y4) q
theorem OwnZ.base{w:World}{base base':Nat}{v:Value}{zs:List Int}(h:OwnZ w base v zs)(hb:base'≤base):OwnZ w base' v zs:=Joins.ownsRow_le h hb
theorem four_of{hs:List Int}(h:hs.length=4):∃a b c d,hs=[a,b,c,d]:=by
 match hs,h with
 |[a,b,c,d],_=>exact ⟨a,b,c,d,rfl⟩
theorem grw_bel{w w1 w2:World}{B N:Nat}(h:w.grownBy w1 (some B))(hb:Below N w1 w2)(hN:w.heap.size≤N):w.grownBy w2 (some B):=
 ⟨hb.os.trans h.os,hb.tape.trans h.tape,hb.output.trans h.output,Nat.le_trans h.size hb.size,fun k hk hne=>(hb.block k (Nat.lt_of_lt_of_le hk hN)).trans (h.block k hk hne)⟩
def MsgEnd (w w':World) (B:Nat) (v:Value) (l:List Int) (e:Ending):Prop:=w.grownBy w' (some B)∧((e=.returned (.tuple #[.agg #[.int .i64 0,.int .i64 0,.int .i64 0,.int .i64 0,.slice none 0 0],.bool false])∧rdMsg l=none)∨∃k mi b s a',e=.returned (.tuple #[.agg #[.int .i64 k,.int .i64 mi,.int .i64 b.rows,.int .i64 b.cols,s],.bool true])∧OwnZ w' w.heap.size s b.cells∧a'≤l.length∧WBk w' B #[v,.int .i64 (a':Int)] 190∧rdMsg l=rdEnd l k mi b (l.drop a'))
set_option maxHeartbeats 16000000 in
set_option maxRecDepth 100000 in
theorem wmessage_any(v:Value)(l:List Int)(B:Nat)(w0 w:World)(hv:IsBys w0 v l)(h0:Below w0.heap.size w0 w)(hwB:w0.heap.size≤B)(hB:WBk w B #[v,.int .i64 0] 190):Calls Tryz.prog 99 #[.pointer (some ⟨B,0,none⟩)] w (fun e w'=>MsgEnd w w' B v l e):=by
 have HV:=h_ hv
 have H0:=h_ h0
 have HWB:=h_ hwB
 have HLT:=h_ hB.lt
 obtain ⟨W1,hW1⟩:=gM (w.alloc (.cells #[.int .i64 0,.int .i64 0,.int .i64 0,.int .i64 0,.slice none 0 0] 82))
 have HW1:=h_ hW1
 have HS1:=h_ (show W1.heap.size=w.heap.size+1 by rw[hW1,World.size_alloc])
 have HR1:=h_ (show WBk W1 w.heap.size #[.int .i64 0,.int .i64 0,.int .i64 0,.int .i64 0,.slice none 0 0] 82 by rw[hW1];exact WBk.new _ _ _)
 have HB1:=h_ (show WBk W1 B #[v,.int .i64 0] 190 by rw[hW1];exact hB.kept (o_ _ _))
 have HG1:=h_ (show w.grownBy W1 (some B) by rw[hW1];exact World.grownBy_alloc _ _ _)
 have HL1:=h_ (show Below w0.heap.size w0 W1 by rw[hW1];exact bel_on h0 (o_ _ _))
 have HN1:=h_ (wnumbers_any v l B 0 4 0 4 w0 W1 hv HL1.out hwB HB1.out rfl (Nat.zero_le _) rfl (by omega))
 unfold NumsEnd at HN1
 rw[List.drop_zero]at HN1
 -- what is wrong with the first four
 have HQ:=h_ (show ∀k:Nat,some B=some k→w.heap.size≤k∨k=B from fun k e=>.inr (Option.some.inj e).symm)
 have HQR:=h_ (show ∀k:Nat,some w.heap.size=some k→w.heap.size≤k∨k=B from fun k e=>.inl (by rw[Option.some.inj e];exact Nat.le_refl _))
 clear hv h0 hwB hB hW1
 cases h4:rdNs 4 l with
 |none=>
  rw[h4]at HN1
  have HNO:=h_ (rd_none h4)
  clear h4
  go_enter Tryz.func99,Tryz.ntmps99
  go_wp2_with (go_at_call 142;rw[←HW1.out];refine HN1.out.mono ?_;rintro e w2 ⟨hg2,rfl⟩;have HG2:=h_ hg2;have HR2:=h_ (show WBk w2 w.heap.size #[.int .i64 0,.int .i64 0,.int .i64 0,.int .i64 0,.slice none 0 0] 82 from (hg2.block _ HR1.out.lt (fun e=>by have:=Option.some.inj e;have:=HLT.out;omega)).trans HR1.out);obtain ⟨z0,z1,z2,z3,z4⟩:=HR2.out.f5;obtain ⟨y0,y1,y2,y3,y4⟩:=HR2.out.c5;clear hg2)
  have HF:=h_ (bk5 HR2.out (.int .i64 0) (.int .i64 0) (.int .i64 0) (.int .i64 0) (.slice none 0 0))
  obtain ⟨q0,q1,q2,q3,q4⟩:=HF.out.c5
  exact bodyPost_ret (v:=.tuple #[.agg #[.int .i64 0,.int .i64 0,.int .i64 0,.int .i64 0,.slice none 0 0],.bool false]) (by simp[results,Tryz.results99,go_sem,q0,q1,q2,q3,q4]) rfl ⟨grw_trans (grw_trans HG1.out HG2.out HQ.out) (grw5 _ _ _ _ _ _ _) HQR.out,.inl ⟨rfl,HNO.out⟩⟩
 |some p=>
  obtain ⟨hs,t⟩:=p
  rw[h4]at HN1
  have H4:=h_ h4
  clear h4
  go_enter Tryz.func99,Tryz.ntmps99
  go_wp2_with (go_at_call 142;rw[←HW1.out];refine HN1.out.mono ?_;rintro e w2 ⟨hg2,hd,a1,rfl,ho2,hl2,hb2,ha1,ht1,hk2⟩;obtain ⟨k,mi,r,c,rfl⟩:=four_of hl2;have HG2:=h_ hg2;have HO2:=h_ ho2;have HB2:=h_ hb2;have HA1:=h_ ha1;have HT1:=h_ ht1;have HK2:=h_ hk2;have HR2:=h_ (show WBk w2 w.heap.size #[.int .i64 0,.int .i64 0,.int .i64 0,.int .i64 0,.slice none 0 0] 82 from (hg2.block _ HR1.out.lt (fun e=>by have:=Option.some.inj e;have:=HLT.out;omega)).trans HR1.out);obtain ⟨hg,hcap,rfl⟩:=Joins.ownsRow_form (show w2.ownsRow W1.heap.size 3 1 hd 4 ([k,mi,r,c].map (Value.int .i64)) from ho2) (by omega);clear hg2 ho2 hl2 hb2 ha1 ht1 hk2)
  have hbk:=HB2.out
  have hk0:=hbk k (by simp)
  have hm0:=hbk mi (by simp)
  have hr0:=hbk r (by simp)
  have hc0:=hbk c (by simp)
  have HOW:=h_ (show w2.ownsRow W1.heap.size 3 1 (.slice (some ⟨hg,0,none⟩) 4 hcap) 4 ([k,mi,r,c].map (Value.int .i64)) from HO2.out)
  have j2:w2.cell? ⟨hg,2,none⟩=some (.int .i64 r):=World.ownsRow.cellAt HOW.out 2 (by omega)
  have j3:w2.cell? ⟨hg,3,none⟩=some (.int .i64 c):=World.ownsRow.cellAt HOW.out 3 (by omega)
  obtain ⟨wd,hwd⟩:=gM (w2.drew)
  have HRD:=h_ (show WBk wd w.heap.size #[.int .i64 0,.int .i64 0,.int .i64 0,.int .i64 0,.slice none 0 0] 82 by rw[hwd];exact HR2.out)
  have HKD:=h_ (show WBk wd B #[v,.int .i64 (a1:Int)] 190 by rw[hwd];exact HK2.out)
  have HGD:=h_ (show w.grownBy wd (some B) by rw[hwd];exact grown_drew (grw_trans HG1.out HG2.out HQ.out))
  have HLD:=h_ (show Below w0.heap.size w0 wd by rw[hwd];exact (HL1.out.grown HG2.out HL1.out.size (fun k e=>by rw[←Option.some.inj e];exact HWB.out)).drew)
  have HOD:=h_ (show wd.ownsRow W1.heap.size 3 1 (.slice (some ⟨hg,0,none⟩) 4 hcap) 4 ([k,mi,r,c].map (Value.int .i64)) by rw[hwd];exact HOW.out)
  have HGL:=h_ (World.ownsRow.lt HOD.out hg rfl)
  have HWD:=h_ hwd
  clear hbk hwd
  go_region
  rw[←HWD.out]
  clear j2 j3
  obtain ⟨z0,z1,z2,z3,z4⟩:=HRD.out.f5
  obtain ⟨y0,y1,y2,y3,y4⟩:=HRD.out.c5
  have HF2:=h_ (bk5 HRD.out (.int .i64 0) (.int .i64 0) (.int .i64 0) (.int .i64 0) (.slice none 0 0))
  by_cases hfar:24<r∨12<c
  ·have HNO:=h_ (rd_far H4.out hfar)
   obtain ⟨q0,q1,q2,q3,q4⟩:=HF2.out.c5
   by_cases f1:24<r
   ·go_wp2
    exact bodyPost_ret (v:=.tuple #[.agg #[.int .i64 0,.int .i64 0,.int .i64 0,.int .i64 0,.slice none 0 0],.bool false]) (by simp[results,Tryz.results99,go_sem,q0,q1,q2,q3,q4]) rfl ⟨grw_trans HGD.out (grw5 _ _ _ _ _ _ _) HQR.out,.inl ⟨rfl,HNO.out⟩⟩
   ·have f2:12<c:=hfar.resolve_left f1
    go_wp2
    exact bodyPost_ret (v:=.tuple #[.agg #[.int .i64 0,.int .i64 0,.int .i64 0,.int .i64 0,.slice none 0 0],.bool false]) (by simp[results,Tryz.results99,go_sem,q0,q1,q2,q3,q4]) rfl ⟨grw_trans HGD.out (grw5 _ _ _ _ _ _ _) HQR.out,.inl ⟨rfl,HNO.out⟩⟩
  ·have f1:¬24<r:=fun h=>hfar (.inl h)
   have f2:¬12<c:=fun h=>hfar (.inr h)
   have hrc:=rc_bd r c ⟨by omega,by omega,by omega,by omega⟩
   obtain ⟨rc,hrce⟩:=gN (r*c)
   rw[hrce]at hrc
   have hwrc:IntKind.i64.wrap (r*c)=rc:=by rw[hrce,IntKind.wrap_i64];omega
   have HNE:=h_ (rd_near H4.out hfar)
   rw[hrce]at HNE
   have HRC:=h_ hrce
   have HN2:=h_ (wnumbers_any v l B a1 rc.toNat (a1:Int) rc w0 wd HV.out HLD.out HWB.out HKD.out rfl HA1.out (by omega) (by omega))
   unfold NumsEnd at HN2
   rw[←HT1.out]at HN2
   clear hfar hrce
   cases hz:rdNs rc.toNat t with
   |none=>
    rw[hz]at HN2 HNE
    clear hz
    go_wp2_with (go_at_call 142;refine HN2.out.mono ?_;rintro e w3 ⟨hg3,rfl⟩;have HG3:=h_ hg3;have HR3:=h_ (show WBk w3 w.heap.size #[.int .i64 0,.int .i64 0,.int .i64 0,.int .i64 0,.slice none 0 0] 82 from (hg3.block _ HRD.out.lt (fun e=>by have:=Option.some.inj e;have:=HLT.out;omega)).trans HRD.out);obtain ⟨u0,u1,u2,u3,u4⟩:=HR3.out.f5;obtain ⟨x0,x1,x2,x3,x4⟩:=HR3.out.c5;clear hg3)
    have HF:=h_ (bk5 HR3.out (.int .i64 0) (.int .i64 0) (.int .i64 0) (.int .i64 0) (.slice none 0 0))
    obtain ⟨q0,q1,q2,q3,q4⟩:=HF.out.c5
    exact bodyPost_ret (v:=.tuple #[.agg #[.int .i64 0,.int .i64 0,.int .i64 0,.int .i64 0,.slice none 0 0],.bool false]) (by simp[results,Tryz.results99,go_sem,q0,q1,q2,q3,q4]) rfl ⟨grw_trans (grw_trans HGD.out HG3.out HQ.out) (grw5 _ _ _ _ _ _ _) HQR.out,.inl ⟨rfl,HNE.out⟩⟩
   |some p=>
    obtain ⟨zs,t'⟩:=p
    rw[hz]at HN2 HNE
    clear hz
    obtain ⟨n,hn⟩:=gN (rc.toNat)
    rw[hn]at HN2
    have HN:=h_ (show rc=(n:Int) by omega)
    have hn288:n≤288:=by omega
    clear hn
    go_wp2_with (go_at_call 142;refine HN2.out.mono ?_;rintro e w3 ⟨hg3,sv,a2,rfl,ho3,hl3,hb3,ha2,ht2,hk3⟩;have HG3:=h_ hg3;have HO3:=h_ ho3;have HB3:=h_ hb3;have HA2:=h_ ha2;have HT2:=h_ ht2;have HK3:=h_ hk3;have HL3:=h_ hl3;obtain ⟨sa,sk,hse⟩:=ho3.shape;rw[hl3]at hse;subst hse;clear hg3 ho3 hl3 hb3 ha2 ht2 hk3)
    have HR3:=h_ (show WBk w3 w.heap.size #[.int .i64 0,.int .i64 0,.int .i64 0,.int .i64 0,.slice none 0 0] 82 from (HG3.out.block _ HRD.out.lt (fun e=>by have:=Option.some.inj e;have:=HLT.out;omega)).trans HRD.out)
    have HOH:=h_ (show w3.ownsRow W1.heap.size 3 1 (.slice (some ⟨hg,0,none⟩) 4 hcap) 4 ([k,mi,r,c].map (Value.int .i64)) from World.ownsRow.kept HOD.out HG3.out (.inr (fun e=>by have e2:hg=B:=Option.some.inj e;have:=HGL.out.1;have:=HS1.out;have:=HLT.out;omega)))
    have HGW:=h_ (grw_trans HGD.out HG3.out HQ.out)
    go_loopw [9,10,46] (fun _ _ iv wr=>∃(i:Nat) (xi:Int),i≤n∧xi=(i:Int)∧iv=.int .i64 xi∧OwnZ wr wd.heap.size (.slice sa n sk) (mixL zs i)∧Below wd.heap.size w3 wr) (fun _ _ iv _=>n - (intOf iv).toNat)
    case atStart=>exact ⟨0,0,Nat.zero_le _,rfl,rfl,by rw[mixL_zero];exact HO3.out,Below.refl _ _⟩
    case round=>
     obtain ⟨i,xi,hi,hxi,rfl,hown,hbel⟩:=hrel
     have HO:=h_ hown
     have HBL:=h_ hbel
     have HXI:=h_ hxi
     have hi0:0≤xi:=by omega
     have hi1:xi≤288:=by omega
     clear hown hbel hxi
     by_cases hlt:xi<(n:Int)
     ·obtain ⟨x,hx⟩:∃x,zs[i]?=some x:=⟨_,List.getElem?_eq_getElem (by rw[HL3.out];have:=HXI.out;omega)⟩
      have hxb:=HB3.out x (List.mem_of_getElem? hx)
      have HCO:=fun W=>wcellof_any x W hxb.1 hxb.2
      have HML:=h_ (show (mixL zs i).length=n by rw[mixL_len,HL3.out])
      have hown:wr.ownsRow wd.heap.size 3 1 (.slice sa n sk) n ((mixL zs i).map (Value.int .i64)):=by have:=HO.out;unfold OwnZ at this;rw[HML.out]at this;exact this
      obtain ⟨g,gc,he⟩:=Joins.ownsRow_form hown (by have:=HXI.out;omega)
      injection he with he1 he2 he3
      subst he1 he3
      have d1:wr.cell? ⟨g,i,none⟩=some (.int .i64 x):=by
       rw[World.ownsRow.cellAt hown i (by have:=HXI.out;omega),List.getElem?_map,mixL_at hx]
       rfl
      have d2:=World.ownsRow.frozenAt hown i
      have HST:=h_ (World.ownsRow.stored hown i (.int .i64 (unz x)))
      have HGB:=h_ (World.ownsRow.lt hown g rfl)
      have HNX:=h_ (mixL_next hx)
      rw[show i=xi.toNat by have:=HXI.out;omega]at d1 d2
      obtain ⟨ux,hux⟩:=gN (unz x)
      rw[hux]at HST HNX
      have HCO2:=h_ (HCO wr)
      rw[hux]at HCO2
      clear hown hx hux HCO hxb
      go_wp2_with (go_at_call 143;refine HCO2.out.mono ?_;rintro e w4 ⟨rfl,rfl⟩)
      go_roundw
      case rel=>
       have hii:xi.toNat=i:=by have:=HXI.out;omega
       refine ⟨i+1,_,by have:=HXI.out;omega,by have:=HXI.out;omega,rfl,?_,?_⟩
       ·rw[hii]
        unfold OwnZ
        rw[←HNX.out,List.length_set,HML.out,List.map_set]
        exact HST.out.1
       ·rw[hii]
        exact HBL.out.grown HST.out.2 (Nat.le_trans HG3.out.size HBL.out.size) (fun k e=>by rw[←Option.some.inj e];exact HGB.out.1)
      case measure=>have:=HXI.out;simp[intOf];omega
     ·have HOF:=h_ (show OwnZ wr wd.heap.size (.slice sa n sk) (unzL zs) by rw[←mixL_all zs (i:=i) (by rw[HL3.out];have:=HXI.out;omega)];exact HO.out)
      have HWS:=h_ (show W1.heap.size≤wd.heap.size by have h1:=HRD.out.lt;have h2:=HGD.out.size;have h3:=HS1.out;omega)
      have HBD:=h_ (show WBk wr w.heap.size #[.int .i64 0,.int .i64 0,.int .i64 0,.int .i64 0,.slice none 0 0] 82 from HR3.out.bel HBL.out HRD.out.lt)
      have HKR:=h_ (show WBk wr B #[v,.int .i64 (a2:Int)] 190 from HK3.out.bel HBL.out HKD.out.lt)
      obtain ⟨wb,hwb⟩:=gM ((wr.alloc (.cells #[.int .i64 r,.int .i64 c,.slice sa n sk] 41)).drew)
      have HWBB:=h_ hwb
      have hbb:Below wr.heap.size wr wb:=by rw[hwb];exact (o_ _ _).drew
      have HBB:=h_ hbb
      have HNB:=h_ (show WBk wb wr.heap.size #[.int .i64 r,.int .i64 c,.slice sa n sk] 41 by rw[hwb];exact WBk.new wr _ _)
      have hcl:∀(j:Nat) (x:Value),([k,mi,r,c].map (Value.int .i64))[j]?=some x→j<4→wb.cell? ⟨hg,j,none⟩=some x:=fun j x h1 h2=>(hbb.cell (p:=⟨hg,j,none⟩) (Nat.lt_of_lt_of_le HGL.out.2 (Nat.le_trans HG3.out.size HBL.out.size))).trans ((HBL.out.cell (p:=⟨hg,j,none⟩) HGL.out.2).trans ((World.ownsRow.cellAt HOH.out j (by omega)).trans h1))
      have j0:=hcl 0 (.int .i64 k) rfl (by omega)
      have j1:=hcl 1 (.int .i64 mi) rfl (by omega)
      have j4:=HNB.out.c (i:=0) rfl
      have j5:=HNB.out.c (i:=1) rfl
      have j6:=HNB.out.c (i:=2) rfl
      have HRB:=h_ (HBD.out.kept hbb)
      obtain ⟨z0,z1,z2,z3,z4⟩:=HRB.out.f5
      obtain ⟨y0,y1,y2,y3,y4⟩:=HRB.out.c5
      have HFB:=h_ (bk5 HRB.out (.int .i64 k) (.int .i64 mi) (.int .i64 r) (.int .i64 c) (.slice sa n sk))
      obtain ⟨q0,q1,q2,q3,q4⟩:=HFB.out.c5
      clear hcl hwb hbb
      go_wp2
      refine region_tail 8 (by kernel_rfl) (by kernel_rfl) ?_
      rw[←HWBB.out]
      simp only[List.take,List.drop]
      repeat still_step
      refine wpStill_nil ?_
      go_wp2
      have HG5:=h_ (grw5 wb w.heap.size (.int .i64 k) (.int .i64 mi) (.int .i64 r) (.int .i64 c) (.slice sa n sk))
      refine bodyPost_ret (v:=.tuple #[.agg #[.int .i64 k,.int .i64 mi,.int .i64 r,.int .i64 c,.slice sa n sk],.bool true]) (by simp[results,Tryz.results99,go_sem,q0,q1,q2,q3,q4]) rfl ⟨?_,.inr ⟨k,mi,⟨r,c,unzL zs⟩,_,a2,rfl,?_,HA2.out,?_,?_⟩⟩
      ·exact grw_trans (grw_bel (grw_bel HGW.out HBL.out HGD.out.size) HBB.out (Nat.le_trans HGW.out.size HBL.out.size)) HG5.out HQR.out
      ·exact ((HOF.out.u_ HBB.out).keptB HG5.out HRD.out.lt).base HGD.out.size
      ·have h1:=HKR.out.kept HBB.out
       exact (HG5.out.block B h1.lt (fun e=>by have:=Option.some.inj e;have:=HLT.out;omega)).trans h1
      ·rw[←HT2.out]
       exact HNE.out
def numL (k mi:Int) (b:Mx):List Nat:=headN k mi b++cellN b
theorem head_at(k mi r c:Int)(W:World):(Instr.index 185 (.agg #[.int .i64 k,.int .i64 mi,.int .i64 r,.int .i64 c]) (.int .i64 0)).run Tryz.prog W=.ok (.int .i64 k) W∧(Instr.index 185 (.agg #[.int .i64 k,.int .i64 mi,.int .i64 r,.int .i64 c]) (.int .i64 1)).run Tryz.prog W=.ok (.int .i64 mi) W∧(Instr.index 185 (.agg #[.int .i64 k,.int .i64 mi,.int .i64 r,.int .i64 c]) (.int .i64 2)).run Tryz.prog W=.ok (.int .i64 r) W∧(Instr.index 185 (.agg #[.int .i64 k,.int .i64 mi,.int .i64 r,.int .i64 c]) (.int .i64 3)).run Tryz.prog W=.ok (.int .i64 c) W:=by
 refine ⟨?_,?_,?_,?_⟩<;>kernel_rfl
theorem two_bys(w:World)(s0 s1:Int)(t:TypeId)(h0:0≤s0)(h1:s0<255)(h2:0≤s1)(h3:s1<255):IsBys (w.alloc (.cells #[.int .u8 s0,.int .u8 s1] t)) (.slice (some ⟨w.heap.size,0,none⟩) 2 2) [s0,s1]:=by
 refine ⟨_,2,rfl,Nat.le_refl _,by unfold maxLen;omega,fun x hx=>by simp at hx;omega,.inr ⟨w.heap.size,0,rfl,fun i x hx=>?_⟩⟩
 have hb:=WBk.new w #[.int .u8 s0,.int .u8 s1] t
 match i,hx with
 |0,hx=>obtain rfl:=Option.some.inj hx;exact hb.c rfl
 |1,hx=>obtain rfl:=Option.some.inj hx;exact hb.c rfl
theorem some_nilOk(a:Addr)(n k:Nat):NilOk (.slice (some a) n k):=by
 intro n k e
 injection e with e1
 cases e1
theorem numL_len{k mi:Int}{b:Mx}:(numL k mi b).length=4+b.cells.length:=by simp[numL,headN,cellN];omega
theorem numL_cell{k mi:Int}{b:Mx}{i:Nat}{x:Int}(h:b.cells[i]?=some x):(numL k mi b)[4+i]?=some (zig x):=by
 unfold numL
 rw[List.getElem?_append_right (by simp[headN]),show 4+i - (headN k mi b).length=i by simp[headN]]
 simp[cellN,h]
theorem wrI_len(L:List Nat)(i:Nat):(wrI L i).length≤9*i:=by
 have:=wr_len (L.take i)
 have h2:(L.take i).length≤i:=List.length_take_le _ _
 unfold wrI
 omega
theorem wrI_all{L:List Nat}{i:Nat}(h:L.length≤i):wrI L i=wrNs L:=by unfold wrI;rw[List.take_of_length_le h]
set_option maxHeartbeats 16000000 in
set_option maxRecDepth 100000 in
theorem wenc_any(v:Value)(k mi:Int)(b:Mx)(w:World)(hv:IsMsg w v k mi b):Calls Tryz.prog 59 #[v] w (fun e w'=>EncEnd w w' k mi b e):=by
 obtain ⟨s,rfl,hs⟩:=id hv
 obtain ⟨r,hr⟩:=gN (b.rows)
 obtain ⟨c,hc⟩:=gN (b.cols)
 obtain ⟨a,cap,rfl,h2,h3,h4⟩:=hs
 obtain ⟨n,hn⟩:=gN (b.cells.length)
 have H4:=h_ h4
 have HN:=h_ hn
 have HRC:=h_ (And.intro hr hc)
 have HB0:=h_ (o_ w (.cells #[.int .i64 k,.int .i64 mi,.int .i64 r,.int .i64 c,.slice a n cap] 82))
 have HCH:=h_ (wchk_any _ k mi b (w.alloc (.cells #[.int .i64 k,.int .i64 mi,.int .i64 r,.int .i64 c,.slice a n cap] 82)) (hv.u_ HB0.out))
 have HM0:=h_ (Blk5.new w (.int .i64 k) (.int .i64 mi) (.int .i64 r) (.int .i64 c) (.slice a n cap))
 rw[hr,hc,hn]at HCH
 rw[hn]at h2 ⊢
 rw[hr,hc]
 have HSA:=h_ (show (w.alloc (.cells #[.int .i64 k,.int .i64 mi,.int .i64 r,.int .i64 c,.slice a n cap] 82)).heap.size=w.heap.size+1 by rw[World.size_alloc])
 clear h4 hv hr hc hn
 by_cases hm:msgF k mi b=0
 ·obtain ⟨k1,k2,m1,m2,hf0⟩:=msgF_in hm
  obtain ⟨⟨r1,r2,r3,r4⟩,hcl,hce⟩:=fault_zero hf0
  have hrc:=rc_bd b.rows b.cols ⟨r1,r2,r3,r4⟩
  have hn288:n≤288:=by have:=HN.out;omega
  have HCE:=h_ hce
  have HOK:=h_ (show ∀x∈numL k mi b,okN x from fun x hx=>by
   rcases List.mem_append.1 hx with q|q
   ·exact (msg_okN hm).1 x q
   ·exact (msg_okN hm).2 x q)
  have HL:=h_ (show (numL k mi b).length=4+n by rw[numL_len,HN.out])
  have HEN:=h_ (show errV (msgF k mi b)=.nilIface by rw[hm,e_ rfl])
  have HX:=h_ (show encX k mi b=wrNs (numL k mi b)++sumsG 0 0 (wrNs (numL k mi b)) by unfold encX;rw[if_pos hm];rfl)
  have HH:=h_ (show (numL k mi b)[0]?=some k.toNat∧(numL k mi b)[1]?=some mi.toNat∧(numL k mi b)[2]?=some r.toNat∧(numL k mi b)[3]?=some c.toNat from ⟨rfl,rfl,by rw[←HRC.out.1];rfl,by rw[←HRC.out.2];rfl⟩)
  have hr0:0≤r:=by rw[←HRC.out.1];exact r1
  have hc0:0≤c:=by rw[←HRC.out.2];exact r3
  rw[HEN.out]at HCH
  obtain ⟨L,hL⟩:=gN (numL k mi b)
  rw[hL]at HOK HL HX HH
  have HLE:=h_ hL
  clear hrc hce hcl hf0 hm hL r1 r2 r3 r4
  go_enter Tryz.func59,Tryz.ntmps59
  go_wp2_with (go_at_call 95;refine HCH.out.mono ?_;rintro e w1 ⟨rfl,hb1⟩;have hm1:=HM0.out.bel hb1 HM0.out.lt;obtain ⟨q0,q1,q2,q3,q4⟩:=hm1.c;have HM1:=h_ hm1;have HB1:=h_ (bel_on HB0.out hb1);clear hm1 hb1)
  go_loopw [5,7,27] (fun bv _ iv wr=>∃(i:Nat) (xi:Int),i≤4∧xi=(i:Int)∧iv=.int .i64 xi∧OwnY wr w1.heap.size bv (wrI L i)∧Below w1.heap.size w1 wr) (fun _ _ iv _=>4 - (intOf iv).toNat)
  case atStart=>exact ⟨0,0,Nat.zero_le _,rfl,rfl,OwnY.nil _ _,Below.refl _ _⟩
  case round=>
   obtain ⟨i,xi,hi,hxi,rfl,hro,hbw⟩:=hrel
   have HRO:=h_ hro
   have HBW:=h_ hbw
   have HXI:=h_ hxi
   clear hro hbw
   by_cases hlt:xi<4
   ·have h4:i=0∨i=1∨i=2∨i=3:=by omega
    clear hxi
    rcases h4 with rfl|rfl|rfl|rfl
    ·obtain rfl:xi=0:=by have:=HXI.out;omega
     have HC:=h_ (wappnum_any u5 (wrI L 0) w1.heap.size k.toNat k wr HRO.out HBW.out.size (by omega) (HOK.out _ (List.mem_of_getElem? HH.out.1)) (by have:=wrI_len L 0;omega))
     obtain ⟨i0,i1,i2,i3⟩:=head_at k mi r c wr
     go_wp2_with (go_at_call 96;refine HC.out.mono ?_;rintro e w2 ⟨sv,rfl,ho2,hs2,hb2⟩;have HO2:=h_ ho2;have HB2:=h_ (hb2 w1 HBW.out (Nat.le_refl _));clear ho2 hs2 hb2)
     go_wp2
     go_roundw
     case rel=>exact ⟨0+1,_,by omega,by first|rfl|omega,rfl,by unfold wrI at HO2 ⊢;rw[wr_take HH.out.1];exact HO2.out,HB2.out⟩
     case measure=>simp[intOf]
    ·obtain rfl:xi=1:=by have:=HXI.out;omega
     have HC:=h_ (wappnum_any u5 (wrI L 1) w1.heap.size mi.toNat mi wr HRO.out HBW.out.size (by omega) (HOK.out _ (List.mem_of_getElem? HH.out.2.1)) (by have:=wrI_len L 1;omega))
     obtain ⟨i0,i1,i2,i3⟩:=head_at k mi r c wr
     go_wp2_with (go_at_call 96;refine HC.out.mono ?_;rintro e w2 ⟨sv,rfl,ho2,hs2,hb2⟩;have HO2:=h_ ho2;have HB2:=h_ (hb2 w1 HBW.out (Nat.le_refl _));clear ho2 hs2 hb2)
     go_wp2
     go_roundw
     case rel=>exact ⟨1+1,_,by omega,by first|rfl|omega,rfl,by unfold wrI at HO2 ⊢;rw[wr_take HH.out.2.1];exact HO2.out,HB2.out⟩
     case measure=>simp[intOf]
    ·obtain rfl:xi=2:=by have:=HXI.out;omega
     have HC:=h_ (wappnum_any u5 (wrI L 2) w1.heap.size r.toNat r wr HRO.out HBW.out.size (by omega) (HOK.out _ (List.mem_of_getElem? HH.out.2.2.1)) (by have:=wrI_len L 2;omega))
     obtain ⟨i0,i1,i2,i3⟩:=head_at k mi r c wr
     go_wp2_with (go_at_call 96;refine HC.out.mono ?_;rintro e w2 ⟨sv,rfl,ho2,hs2,hb2⟩;have HO2:=h_ ho2;have HB2:=h_ (hb2 w1 HBW.out (Nat.le_refl _));clear ho2 hs2 hb2)
     go_wp2
     go_roundw
     case rel=>exact ⟨2+1,_,by omega,by first|rfl|omega,rfl,by unfold wrI at HO2 ⊢;rw[wr_take HH.out.2.2.1];exact HO2.out,HB2.out⟩
     case measure=>simp[intOf]
    ·obtain rfl:xi=3:=by have:=HXI.out;omega
     have HC:=h_ (wappnum_any u5 (wrI L 3) w1.heap.size c.toNat c wr HRO.out HBW.out.size (by omega) (HOK.out _ (List.mem_of_getElem? HH.out.2.2.2)) (by have:=wrI_len L 3;omega))
     obtain ⟨i0,i1,i2,i3⟩:=head_at k mi r c wr
     go_wp2_with (go_at_call 96;refine HC.out.mono ?_;rintro e w2 ⟨sv,rfl,ho2,hs2,hb2⟩;have HO2:=h_ ho2;have HB2:=h_ (hb2 w1 HBW.out (Nat.le_refl _));clear ho2 hs2 hb2)
     go_wp2
     go_roundw
     case rel=>exact ⟨3+1,_,by omega,by first|rfl|omega,rfl,by unfold wrI at HO2 ⊢;rw[wr_take HH.out.2.2.2];exact HO2.out,HB2.out⟩
     case measure=>simp[intOf]
   ·obtain rfl:xi=4:=by omega
    obtain rfl:i=4:=by omega
    have hmw:=HM1.out.bel HBW.out HM1.out.lt
    obtain ⟨_,_,_,_,z4⟩:=hmw.c
    clear hmw hi hxi hlt
    go_wp2
    go_loopw [5,9,38] (fun bv _ iv wr=>∃(i:Nat) (xi:Int),i≤n∧xi=(i:Int)∧iv=.int .i64 xi∧OwnY wr w1.heap.size bv (wrI L (4+i))∧Below w1.heap.size w1 wr) (fun _ _ iv _=>n - (intOf iv).toNat)
    case atStart=>exact ⟨0,0,Nat.zero_le _,rfl,rfl,HRO.out,HBW.out⟩
    case round=>
     obtain ⟨i,xi,hi,hxi,rfl,hro,hbw⟩:=hrel
     have HRZ:=h_ hro
     have HBZ:=h_ hbw
     have HXI:=h_ hxi
     have hx0:0≤xi:=by omega
     have hx1:xi≤288:=by omega
     clear hro hbw hxi
     by_cases hlt:xi<(n:Int)
     ·obtain ⟨x,hx⟩:∃x,b.cells[i]?=some x:=⟨_,List.getElem?_eq_getElem (by rw[HN.out];have:=HXI.out;omega)⟩
      obtain ⟨b1,o1,ha1,hc1⟩:=H4.out.resolve_left (fun e=>by rw[e]at hx;simp at hx)
      subst ha1
      have hbl:=bel_on HB1.out HBZ.out
      have d1:=(hbl.cell (World.block_lt_of_cell? w _ (hc1 i x hx))).trans (hc1 i x hx)
      rw[show i=xi.toNat by have:=HXI.out;omega]at d1
      obtain ⟨e1,e2⟩:=HCE.out x (List.mem_of_getElem? hx)
      have HG:=h_ (show L[4+i]?=some (zig x) by rw[←HLE.out];exact numL_cell hx)
      have HC:=h_ (wappnum_any u5 (wrI L (4+i)) w1.heap.size (zig x) (zig x:Int) wr HRZ.out HBZ.out.size rfl (HOK.out _ (List.mem_of_getElem? HG.out)) (by have:=wrI_len L (4+i);omega))
      have HNO:=h_ (wnumof_any x wr e1 e2)
      obtain ⟨zx,hzx⟩:=gN ((zig x:Int))
      rw[hzx]at HC HNO
      clear hc1 hx hbl hzx e1 e2
      go_wp2_with (first
       |(go_at_call 97;refine HNO.out.mono ?_;rintro e w2 ⟨rfl,rfl⟩)
       |(go_at_call 96;refine HC.out.mono ?_;rintro e w2 ⟨sv,rfl,ho2,hs2,hb2⟩;have HO2:=h_ ho2;have HB2:=h_ (hb2 w1 HBZ.out (Nat.le_refl _));clear ho2 hs2 hb2))
      go_roundw
      case rel=>exact ⟨i+1,_,by have:=HXI.out;omega,by have:=HXI.out;omega,rfl,by unfold wrI at HO2 ⊢;rw[←Nat.add_assoc,wr_take HG.out];exact HO2.out,HB2.out⟩
      case measure=>have:=HXI.out;simp[intOf];omega
     ·have HW:=h_ (show OwnY wr w1.heap.size u5 (wrNs L) by rw[←wrI_all (i:=4+i) (by rw[HL.out];have:=HXI.out;omega)];exact HRZ.out)
      have HWL:=h_ (show (wrNs L).length≤2628 by have:=wr_len L;have:=HL.out;omega)
      have HSU:=h_ (wsums_any u5 (wrNs L) wr HW.out.isBys)
      obtain ⟨Z,hZ⟩:=gN (wrNs L)
      rw[hZ]at HX HW HWL HSU
      clear hZ
      go_wp2_with (first
       |(go_at_call 98;refine HSU.out.mono ?_;rintro e w2 ⟨s0,s1,rfl,hs,p0,p1,p2,p3,hb2⟩;have HS:=h_ hs;have HB2:=h_ hb2;have HU:=h_ (two_bys w2 s0 s1 187 p0 p1 p2 p3);clear hs hb2)
       |(at_builtin;refine app_bys rfl _ _ rfl w1.heap.size u5 (.slice (some ⟨w2.heap.size,0,none⟩) 2 2) Z [s0,s1] rfl (HW.out.u_ (bel_on HB2.out (o_ _ _))) rfl HU.out (some_nilOk _ _ _) ?h1 ?h2 ?_))
      case h1=>have:=HWL.out;simp;omega
      case h2=>have h1:=HBZ.out.size;have h2:=HB2.out.size;first|omega|(rw[World.size_alloc];omega)
      intro v' w3 hown hgr
      have HR:=h_ (show OwnY w3 w1.heap.size v' (encX k mi b) by rw[HX.out,HS.out];exact hown)
      have HBF:=h_ (bel_on HB1.out (hgr w1 (bel_on (bel_on HBZ.out HB2.out) (o_ _ _)) (Nat.le_refl _)))
      clear hown hgr
      go_wp2
      exact bodyPost_ret (v:=.tuple #[v',.nilIface]) (by simp[results,Tryz.results59,go_sem]) rfl ⟨v',by rw[HEN.out],HR.out.isBys,HR.out.nilOk,HBF.out⟩
 ·have HX:=h_ (show encX k mi b=[] by unfold encX;rw[if_neg hm])
  have HEN:=h_ (n_ hm)
  obtain ⟨E,hE⟩:=gN (msgF k mi b)
  rw[hE]at HEN
  have HE:=h_ hE
  rw[hE,HEN.out]at HCH
  clear hm hE
  go_enter Tryz.func59,Tryz.ntmps59
  go_wp2_with (go_at_call 95;refine HCH.out.mono ?_;rintro e w1 ⟨rfl,hb1⟩;have HB1:=h_ (bel_on HB0.out hb1);clear hb1)
  exact bodyPost_ret (v:=.tuple #[.slice none 0 0,.iface 104 (.int .i64 E)]) (by simp[results,Tryz.results59,go_sem]) rfl ⟨_,by rw[HE.out,HEN.out],by rw[HX.out];exact IsBys.nil _,fun n k e=>by injection e with e1 e2 e3;exact ⟨e2.symm,e3.symm⟩,HB1.out⟩
end Go.Proofs.YtflbmhilkkhhlakGreat
