/- What message of package wire's reader comes to. -/
import Derived.Test.YtniloklglpchfakGreatPkWrC4
import Derived.Test.YtniloklglpchfakGreatPkHdM
namespace Go.Proofs.YtniloklglpchfakGreat
open Go.RowKit
def MsgEnd (w w':World) (B:Nat) (v:Value) (l:List Int) (e:Ending):Prop:=w.grownBy w' (some B)∧((e=.returned (.tuple #[.agg #[.int .i64 0,.int .i64 0,.int .i64 0,.int .i64 0,.slice none 0 0],.bool false])∧rdMsg l=none)∨∃k mi b s a',e=.returned (.tuple #[.agg #[.int .i64 k,.int .i64 mi,.int .i64 b.rows,.int .i64 b.cols,s],.bool true])∧OwnZ w' w.heap.size s b.cells∧a'≤l.length∧WBk w' B #[v,.int .i64 (a':Int)] 159∧rdMsg l=rdEnd l k mi b (l.drop a'))
set_option maxHeartbeats 16000000 in
set_option maxRecDepth 100000 in
theorem wmessage_any(v:Value)(l:List Int)(B:Nat)(w0 w:World)(hv:IsBys w0 v l)(h0:Below w0.heap.size w0 w)(hwB:w0.heap.size≤B)(hB:WBk w B #[v,.int .i64 0] 159):Calls Tryz.prog 68 #[.pointer (some ⟨B,0,none⟩)] w (fun e w'=>MsgEnd w w' B v l e):=by
 have HV:=h_ hv
 have H0:=h_ h0
 have HWB:=h_ hwB
 have HLT:=h_ hB.lt
 obtain ⟨W1,hW1⟩:=gM (w.alloc (.cells #[.int .i64 0,.int .i64 0,.int .i64 0,.int .i64 0,.slice none 0 0] 63))
 have HW1:=h_ hW1
 have HS1:=h_ (show W1.heap.size=w.heap.size+1 by rw[hW1,World.size_alloc])
 have HR1:=h_ (show WBk W1 w.heap.size #[.int .i64 0,.int .i64 0,.int .i64 0,.int .i64 0,.slice none 0 0] 63 by rw[hW1];exact WBk.new _ _ _)
 have HB1:=h_ (show WBk W1 B #[v,.int .i64 0] 159 by rw[hW1];exact hB.kept (o_ _ _))
 have HG1:=h_ (show w.grownBy W1 (some B) by rw[hW1];exact World.grownBy_alloc _ _ _)
 have HL1:=h_ (show Below w0.heap.size w0 W1 by rw[hW1];exact bel_on h0 (o_ _ _))
 have HN1:=h_ (wnumbers_any v l B 0 2 0 2 w0 W1 hv HL1.out hwB HB1.out rfl (Nat.zero_le _) rfl (by omega))
 unfold NumsEnd at HN1
 rw[List.drop_zero]at HN1
 have HQ:=h_ (show ∀k:Nat,some B=some k→w.heap.size≤k∨k=B from fun k e=>.inr (Option.some.inj e).symm)
 have HQR:=h_ (show ∀k:Nat,some w.heap.size=some k→w.heap.size≤k∨k=B from fun k e=>.inl (by rw[Option.some.inj e];exact Nat.le_refl _))
 clear hv h0 hwB hB hW1
 cases h4:rdNs 2 l with
 |none=>
  rw[h4]at HN1
  have HNO:=h_ (rdMsg_no h4)
  clear h4
  go_enter Tryz.func68,Tryz.ntmps68
  go_wp2_with (go_at_call 100;rw[←HW1.out];refine HN1.out.mono ?_;rintro e w2 ⟨hg2,rfl⟩;have HG2:=h_ hg2;have HR2:=h_ (show WBk w2 w.heap.size #[.int .i64 0,.int .i64 0,.int .i64 0,.int .i64 0,.slice none 0 0] 63 from (hg2.block _ HR1.out.lt (fun e=>by have:=Option.some.inj e;have:=HLT.out;omega)).trans HR1.out);obtain ⟨z0,z1,z2,z3,z4⟩:=HR2.out.f5;obtain ⟨y0,y1,y2,y3,y4⟩:=HR2.out.c5;clear hg2)
  have HF:=h_ (bk5 HR2.out (.int .i64 0) (.int .i64 0) (.int .i64 0) (.int .i64 0) (.slice none 0 0))
  obtain ⟨q0,q1,q2,q3,q4⟩:=HF.out.c5
  exact bodyPost_ret (v:=.tuple #[.agg #[.int .i64 0,.int .i64 0,.int .i64 0,.int .i64 0,.slice none 0 0],.bool false]) (by simp[results,Tryz.results68,go_sem,q0,q1,q2,q3,q4]) rfl ⟨grw_trans (grw_trans HG1.out HG2.out HQ.out) (grw5 _ _ _ _ _ _ _) HQR.out,.inl ⟨rfl,HNO.out⟩⟩
 |some p=>
  obtain ⟨hs,t⟩:=p
  rw[h4]at HN1
  have H4:=h_ h4
  clear h4
  go_enter Tryz.func68,Tryz.ntmps68
  go_wp2_with (go_at_call 100;rw[←HW1.out];refine HN1.out.mono ?_;rintro e w2 ⟨hg2,hd,a1,rfl,ho2,hl2,hb2,ha1,ht1,hk2⟩;obtain ⟨k,mi,rfl⟩:=twoI_of hl2;have HG2:=h_ (grw_trans HG1.out hg2 HQ.out);have HO2:=h_ ho2;have HA1:=h_ ha1;have HT1:=h_ ht1;have HL2:=h_ (show Below w0.heap.size w0 w2 from HL1.out.grown hg2 HL1.out.size (fun k e=>by rw[←Option.some.inj e];exact HWB.out));have HR2:=h_ (show WBk w2 w.heap.size #[.int .i64 0,.int .i64 0,.int .i64 0,.int .i64 0,.slice none 0 0] 63 from (hg2.block _ HR1.out.lt (fun e=>by have:=Option.some.inj e;have:=HLT.out;omega)).trans HR1.out);have HME:=h_ (wmatrix_any v l B a1 (a1:Int) w0 w2 HV.out HL2.out HWB.out hk2 rfl ha1);obtain ⟨hg,hcap,rfl⟩:=Joins.ownsRow_form (show w2.ownsRow W1.heap.size 3 1 hd 2 ([k,mi].map (Value.int .i64)) from ho2) (by omega);clear hg2 ho2 hl2 hb2 ha1 ht1 hk2)
  have HOW:=h_ (show w2.ownsRow W1.heap.size 3 1 (.slice (some ⟨hg,0,none⟩) 2 hcap) 2 ([k,mi].map (Value.int .i64)) from HO2.out)
  have HGL:=h_ (World.ownsRow.lt HOW.out hg rfl)
  have HTW:=h_ (show rdMsg l=match rdM (l.drop a1) with|none=>none|some (b,t')=>rdEnd l k mi b t' by rw[←HT1.out];exact rdMsg_two H4.out)
  refine HME.out.mono ?_
  rintro e w3 ⟨hg3,he3⟩
  have HG3:=h_ (grw_trans HG2.out hg3 HQ.out)
  have HR3:=h_ (show WBk w3 w.heap.size #[.int .i64 0,.int .i64 0,.int .i64 0,.int .i64 0,.slice none 0 0] 63 from (hg3.block _ HR2.out.lt (fun e=>by have:=Option.some.inj e;have:=HLT.out;omega)).trans HR2.out)
  have HOH:=h_ (show w3.ownsRow W1.heap.size 3 1 (.slice (some ⟨hg,0,none⟩) 2 hcap) 2 ([k,mi].map (Value.int .i64)) from World.ownsRow.kept HOW.out hg3 (.inr (fun e=>by have e2:hg=B:=Option.some.inj e;have:=HGL.out.1;have:=HS1.out;have:=HLT.out;omega)))
  have HW23:=h_ hg3.size
  clear hg3
  rcases he3 with ⟨rfl,hno⟩|⟨b,s,a2,rfl,hs,ha2,hk3,hyes⟩
  ·have HNO:=h_ (show rdMsg l=none by rw[HTW.out,hno])
   have HR4:=h_ (HR3.out.kept (o_ w3 (.cells #[.int .i64 0,.int .i64 0,.slice none 0 0] 28)))
   have HG4:=h_ (grw_bel HG3.out (o_ w3 (.cells #[.int .i64 0,.int .i64 0,.slice none 0 0] 28)) HG3.out.size)
   obtain ⟨z0,z1,z2,z3,z4⟩:=HR4.out.f5
   obtain ⟨y0,y1,y2,y3,y4⟩:=HR4.out.c5
   have HF:=h_ (bk5 HR4.out (.int .i64 0) (.int .i64 0) (.int .i64 0) (.int .i64 0) (.slice none 0 0))
   obtain ⟨q0,q1,q2,q3,q4⟩:=HF.out.c5
   clear hno
   go_wp2
   exact bodyPost_ret (v:=.tuple #[.agg #[.int .i64 0,.int .i64 0,.int .i64 0,.int .i64 0,.slice none 0 0],.bool false]) (by simp[results,Tryz.results68,go_sem,q0,q1,q2,q3,q4]) rfl ⟨grw_trans HG4.out (grw5 _ _ _ _ _ _ _) HQR.out,.inl ⟨rfl,HNO.out⟩⟩
  ·have HYE:=h_ (show rdMsg l=rdEnd l k mi b (l.drop a2) by rw[HTW.out,hyes])
   obtain ⟨sa,sk,hse⟩:=hs.shape
   obtain ⟨sn,hsn⟩:=gN (b.cells.length)
   rw[hsn]at hse
   subst hse
   obtain ⟨r,hr⟩:=gN (b.rows)
   obtain ⟨c,hc⟩:=gN (b.cols)
   rw[hr,hc]
   have HRC:=h_ (And.intro hr hc)
   have HA2:=h_ ha2
   obtain ⟨wb,hwb⟩:=gM ((w3.alloc (.cells #[.int .i64 r,.int .i64 c,.slice sa sn sk] 28)).drew)
   have HWBB:=h_ hwb
   have hbb:Below w3.heap.size w3 wb:=by rw[hwb];exact (o_ _ _).drew
   have HBB:=h_ hbb
   have HNB:=h_ (show WBk wb w3.heap.size #[.int .i64 r,.int .i64 c,.slice sa sn sk] 28 by rw[hwb];exact WBk.new w3 _ _)
   have hcl:∀(j:Nat) (x:Value),([k,mi].map (Value.int .i64))[j]?=some x→j<2→wb.cell? ⟨hg,j,none⟩=some x:=fun j x h1 h2=>(hbb.cell (p:=⟨hg,j,none⟩) (Nat.lt_of_lt_of_le HGL.out.2 HW23.out)).trans ((World.ownsRow.cellAt HOH.out j (by omega)).trans h1)
   have j0:=hcl 0 (.int .i64 k) rfl (by omega)
   have j1:=hcl 1 (.int .i64 mi) rfl (by omega)
   obtain ⟨j4,j5,j6⟩:=HNB.out.q3
   have HRB:=h_ (HR3.out.kept hbb)
   have HKR:=h_ (hk3.kept hbb)
   have HSS:=h_ (hs.u_ hbb)
   have HGW:=h_ (grw_bel HG3.out hbb HG3.out.size)
   obtain ⟨z0,z1,z2,z3,z4⟩:=HRB.out.f5
   obtain ⟨y0,y1,y2,y3,y4⟩:=HRB.out.c5
   have HFB:=h_ (bk5 HRB.out (.int .i64 k) (.int .i64 mi) (.int .i64 r) (.int .i64 c) (.slice sa sn sk))
   obtain ⟨q0,q1,q2,q3,q4⟩:=HFB.out.c5
   clear hcl hwb hbb hs ha2 hk3 hyes hr hc hsn
   go_wp2
   refine region_tail 8 (by kernel_rfl) (by kernel_rfl) ?_
   rw[←HWBB.out]
   simp only[List.take,List.drop]
   repeat still_step
   refine wpStill_nil ?_
   go_wp2
   have HG5:=h_ (grw5 wb w.heap.size (.int .i64 k) (.int .i64 mi) (.int .i64 r) (.int .i64 c) (.slice sa sn sk))
   refine bodyPost_ret (v:=.tuple #[.agg #[.int .i64 k,.int .i64 mi,.int .i64 r,.int .i64 c,.slice sa sn sk],.bool true]) (by simp[results,Tryz.results68,go_sem,q0,q1,q2,q3,q4]) rfl ⟨?_,.inr ⟨k,mi,b,_,a2,by rw[HRC.out.1,HRC.out.2],?_,HA2.out,?_,HYE.out⟩⟩
   ·exact grw_trans HGW.out HG5.out HQR.out
   ·exact (HSS.out.keptB HG5.out HR2.out.lt).base HG2.out.size
   ·exact (HG5.out.block B HKR.out.lt (fun e=>by have:=Option.some.inj e;have:=HLT.out;omega)).trans HKR.out
def numL (k mi:Int) (b:Mx):List Nat:=headN k mi b++cellN b
theorem two_bys(w:World)(s0 s1:Int)(t:TypeId)(h0:0≤s0)(h1:s0<255)(h2:0≤s1)(h3:s1<255):IsBys (w.alloc (.cells #[.int .u8 s0,.int .u8 s1] t)) (.slice (some ⟨w.heap.size,0,none⟩) 2 2) [s0,s1]:=by
 refine ⟨_,2,rfl,Nat.le_refl _,by unfold maxLen;omega,fun x hx=>by simp at hx;omega,.inr ⟨w.heap.size,0,rfl,fun i x hx=>?_⟩⟩
 have hb:=WBk.new w #[.int .u8 s0,.int .u8 s1] t
 match i,hx with
 |0,hx=>obtain rfl:=Option.some.inj hx;exact hb.c rfl
 |1,hx=>obtain rfl:=Option.some.inj hx;exact hb.c rfl
theorem some_nilOk(a:Addr)(n k:Nat):NilOk (.slice (some a) n k):=by
 intro n k e
 injection e with e1
 cases e1
theorem numL_len{k mi:Int}{b:Mx}:(numL k mi b).length=4+b.cells.length:=by simp[numL,headN,cellN];omega
theorem wrI_len(L:List Nat)(i:Nat):(wrI L i).length≤9*i:=by
 have:=wr_len (L.take i)
 have h2:(L.take i).length≤i:=List.length_take_le _ _
 unfold wrI
 omega
theorem wrI_all{L:List Nat}{i:Nat}(h:L.length≤i):wrI L i=wrNs L:=by unfold wrI;rw[List.take_of_length_le h]
theorem OwnY.apart{w:World}{base:Nat}{v:Value}{l:List Int}(h:OwnY w base v l):v.ownBlock≠some w.heap.size:=fun e=>by
 have:=(World.ownsRow.lt h.1 _ e).2
 omega
theorem WBk.asideY{w w':World}{B:Nat}{cs:Array Value}{t:TypeId}{v s:Value}(h:WBk w B cs t)(ha:AsideY w w' v s)(hne:v.ownBlock≠some B):WBk w' B cs t:=(ha B h.lt hne).1.trans h
theorem mxN_cell{m:Mx}{i:Nat}{x:Int}(h:m.cells[i]?=some x):(mxN m)[2+i]?=some (zig x):=by
 unfold mxN
 rw[show 2+i=i+1+1 by omega,List.getElem?_cons_succ,List.getElem?_cons_succ,List.getElem?_map,h]
 rfl
theorem mxN_len(m:Mx):(mxN m).length=m.cells.length+2:=by simp[mxN]
theorem mxN_ok{m:Mx}(h:q_ m=0):∀n∈mxN m,okN n:=by
 obtain ⟨⟨r1,r2,r3,r4⟩,_,hc⟩:=fault_zero h
 intro n hn
 unfold mxN at hn
 have h1:n≤5000000000:=by
  rcases List.mem_cons.1 hn with e|hn
  ·omega
  rcases List.mem_cons.1 hn with e|hn
  ·omega
  obtain ⟨x,hx,rfl⟩:=List.mem_map.1 hn
  have:=hc x hx
  unfold zig
  split<;>omega
 unfold okN
 exact Nat.lt_of_le_of_lt h1 (by decide)
set_option maxHeartbeats 16000000 in
set_option maxRecDepth 100000 in
theorem wappmat_any(v:Value)(l:List Int)(base:Nat)(mv:Value)(m:Mx)(w0 w:World)(hv:OwnY w base v l)(hbs:base≤w.heap.size)(hm:M_ w0 mv m)(h0:Below w0.heap.size w0 w)(h0b:w0.heap.size≤base)(hf:q_ m=0)(hl:l.length≤100):Calls Tryz.prog 66 #[v,mv] w fun e w'=>∃s,e=.returned s∧OwnY w' base s (l++wrNs (mxN m))∧base≤w'.heap.size∧∀w0:World,Below w0.heap.size w0 w→w0.heap.size≤base→Below w0.heap.size w0 w':=by
 obtain ⟨s,rfl,hs⟩:=hm
 obtain ⟨⟨r1,r2,r3,r4⟩,hcl,hce⟩:=fault_zero hf
 have hrc:=rc_bd m.rows m.cols ⟨r1,r2,r3,r4⟩
 obtain ⟨r,hr⟩:=gN (m.rows)
 obtain ⟨c,hc⟩:=gN (m.cols)
 obtain ⟨a,cap,rfl,h2,h3,h4⟩:=hs
 obtain ⟨n,hn⟩:=gN (m.cells.length)
 have hn288:n≤288:=by omega
 have H4:=h_ h4
 have HN:=h_ hn
 have HCE:=h_ hce
 have HOK:=h_ (mxN_ok hf)
 have HL:=h_ (show (mxN m).length=2+n by rw[mxN_len,hn];omega)
 have HH:=h_ (show (mxN m)[0]?=some r.toNat∧(mxN m)[1]?=some c.toNat from ⟨by rw[←hr];rfl,by rw[←hc];rfl⟩)
 rw[hn]at h2 ⊢
 rw[hr,hc]
 rw[hr]at r1 r2
 rw[hc]at r3 r4
 obtain ⟨L,hL⟩:=gN (mxN m)
 rw[hL]at HOK HL HH ⊢
 have HLE:=h_ hL
 have HLL:=h_ hl
 obtain ⟨W1,hW1⟩:=gM (w.alloc (.cells #[.int .i64 r,.int .i64 c,.slice a n cap] 28))
 have HW1:=h_ hW1
 have hb1:Below w.heap.size w W1:=by rw[hW1];exact o_ _ _
 have HM1:=h_ (show WBk W1 w.heap.size #[.int .i64 r,.int .i64 c,.slice a n cap] 28 by rw[hW1];exact WBk.new _ _ _)
 have HO1:=h_ (hv.u_ hb1)
 have HAP:=h_ hv.apart
 have HB0:=h_ (bel_on h0 hb1)
 have HBS:=h_ hbs
 have H0B:=h_ h0b
 have HK:=h_ (show ∀w0:World,Below w0.heap.size w0 w→w0.heap.size≤base→Below w0.heap.size w0 W1 from fun w0 h _=>bel_on h hb1)
 have HS1:=h_ (Nat.le_trans hbs hb1.size)
 have HC1:=h_ (wappnum_any v l base r.toNat r W1 HO1.out HS1.out (by omega) (HOK.out _ (List.mem_of_getElem? HH.out.1)) (by omega))
 obtain ⟨y0,y1,y2⟩:W1.cell? ⟨w.heap.size,0,none⟩=some (.int .i64 r)∧W1.cell? ⟨w.heap.size,1,none⟩=some (.int .i64 c)∧W1.cell? ⟨w.heap.size,2,none⟩=some (.slice a n cap):=⟨HM1.out.c rfl,HM1.out.c rfl,HM1.out.c rfl⟩
 clear h4 hn hce hcl hrc hr hc hL hW1 hv hbs h0 h0b hb1 hf hl
 go_enter Tryz.func66,Tryz.ntmps66
 go_wp2_with fail
 rw[←HW1.out]
 refine HC1.out.mono ?_
 rintro e w2 ⟨s2,rfl,ho2,hs2,hb2,ha2,hz2⟩
 have HM2:=h_ (HM1.out.asideY ha2 HAP.out)
 have HAP2:=h_ ((ha2 _ HM1.out.lt HAP.out).2)
 have HO2:=h_ ho2
 have HS2:=h_ hs2
 have HB2:=h_ hb2
 have HZ2:=h_ hz2
 obtain ⟨z0,z1,z2⟩:w2.cell? ⟨w.heap.size,0,none⟩=some (.int .i64 r)∧w2.cell? ⟨w.heap.size,1,none⟩=some (.int .i64 c)∧w2.cell? ⟨w.heap.size,2,none⟩=some (.slice a n cap):=⟨HM2.out.c rfl,HM2.out.c rfl,HM2.out.c rfl⟩
 have HC2:=h_ (wappnum_any s2 _ base c.toNat c w2 HO2.out HS2.out (by omega) (HOK.out _ (List.mem_of_getElem? HH.out.2)) (by rw[List.length_append];have:=HLL.out;have:(sev r.toNat).length≤9:=sevF_len 9 _;omega))
 clear ho2 hs2 hb2 ha2 hz2
 go_wp2_with fail
 refine HC2.out.mono ?_
 rintro e w3 ⟨s3,rfl,ho3,hs3,hb3,ha3,hz3⟩
 have HM3:=h_ (HM2.out.asideY ha3 HAP2.out)
 have HO3:=h_ (show OwnY w3 base s3 (l++wrI L 2) by
  have e:wrI L 2=sev r.toNat++sev c.toNat:=by
   unfold wrI
   rw[wr_take HH.out.2,wr_take HH.out.1]
   simp[wrNs]
  rw[e,←List.append_assoc]
  exact ho3)
 have HS3:=h_ hs3
 have HB3:=h_ (show ∀w0:World,Below w0.heap.size w0 w→w0.heap.size≤base→Below w0.heap.size w0 w3 from fun w0 h1 h2=>hb3 w0 (HB2.out w0 (HK.out w0 h1 h2) h2) h2)
 have HB03:=h_ (show Below w0.heap.size w0 w3 from hb3 w0 (HB2.out w0 HB0.out H0B.out) H0B.out)
 obtain ⟨x0,x1,x2⟩:w3.cell? ⟨w.heap.size,0,none⟩=some (.int .i64 r)∧w3.cell? ⟨w.heap.size,1,none⟩=some (.int .i64 c)∧w3.cell? ⟨w.heap.size,2,none⟩=some (.slice a n cap):=⟨HM3.out.c rfl,HM3.out.c rfl,HM3.out.c rfl⟩
 clear ho3 hs3 hb3 ha3 hz3 y0 y1 y2 z0 z1 z2
 go_wp2
 go_loopw [0,6,18] (fun bv _ iv wr=>∃(i:Nat) (xi:Int),i≤n∧xi=(i:Int)∧iv=.int .i64 xi∧OwnY wr base bv (l++wrI L (2+i))∧base≤wr.heap.size∧Below w0.heap.size w0 wr∧∀w0:World,Below w0.heap.size w0 w→w0.heap.size≤base→Below w0.heap.size w0 wr) (fun _ _ iv _=>n - (intOf iv).toNat)
 case atStart=>exact ⟨0,0,Nat.zero_le _,rfl,rfl,HO3.out,HS3.out,HB03.out,HB3.out⟩
 case round=>
  obtain ⟨i,xi,hi,hxi,rfl,hro,hsz,hbw,hbk⟩:=hrel
  have HRZ:=h_ hro
  have HBZ:=h_ hbw
  have HBK:=h_ hbk
  have HSZ:=h_ hsz
  have HXI:=h_ hxi
  have hx0:0≤xi:=by omega
  have hx1:xi≤288:=by omega
  clear hro hbw hbk hsz hxi
  by_cases hlt:xi<(n:Int)
  ·obtain ⟨x,hx⟩:∃x,m.cells[i]?=some x:=⟨_,List.getElem?_eq_getElem (by rw[HN.out];have:=HXI.out;omega)⟩
   obtain ⟨b1,o1,ha1,hc1⟩:=H4.out.resolve_left (fun e=>by rw[e]at hx;simp at hx)
   subst ha1
   have d1:=(HBZ.out.cell (World.block_lt_of_cell? w0 _ (hc1 i x hx))).trans (hc1 i x hx)
   rw[show i=xi.toNat by have:=HXI.out;omega]at d1
   obtain ⟨e1,e2⟩:=HCE.out x (List.mem_of_getElem? hx)
   have HG:=h_ (show L[2+i]?=some (zig x) by rw[←HLE.out];exact mxN_cell hx)
   have HC:=h_ (wappnum_any u0 (l++wrI L (2+i)) base (zig x) (zig x:Int) wr HRZ.out HSZ.out rfl (HOK.out _ (List.mem_of_getElem? HG.out)) (by rw[List.length_append];have:=wrI_len L (2+i);have:=HLL.out;omega))
   have HNO:=h_ (wnumof_any x wr e1 e2)
   obtain ⟨zx,hzx⟩:=gN ((zig x:Int))
   rw[hzx]at HC HNO
   clear hc1 hx hzx e1 e2
   go_wp2_with (first
    |(go_at_call 99;refine HNO.out.mono ?_;rintro e w2 ⟨rfl,rfl⟩)
    |(go_at_call 65;refine HC.out.mono ?_;rintro e w4 ⟨sv,rfl,ho4,hs4,hb4,_,_⟩;have HO4:=h_ ho4;have HB4:=h_ (And.intro (hb4 w0 HBZ.out H0B.out) (And.intro hs4 (show ∀w0:World,Below w0.heap.size w0 w→w0.heap.size≤base→Below w0.heap.size w0 w4 from fun w0 h1 h2=>hb4 w0 (HBK.out w0 h1 h2) h2)));clear ho4 hs4 hb4))
   go_roundw
   case rel=>exact ⟨i+1,_,by have:=HXI.out;omega,by have:=HXI.out;omega,rfl,by have h:=HO4.out;unfold wrI at h ⊢;rw[←Nat.add_assoc,wr_take HG.out,←List.append_assoc];exact h,HB4.out.2.1,HB4.out.1,HB4.out.2.2⟩
   case measure=>have:=HXI.out;simp[intOf];omega
  ·have HW:=h_ (show OwnY wr base u0 (l++wrNs L) by rw[←wrI_all (L:=L) (i:=2+i) (by rw[HL.out];have:=HXI.out;omega)];exact HRZ.out)
   go_wp2
   exact bodyPost_ret (v:=u0) (by simp[results,Tryz.results66,go_sem]) rfl ⟨u0,rfl,HW.out,HSZ.out,HBK.out⟩
set_option maxHeartbeats 16000000 in
set_option maxRecDepth 100000 in
theorem wenc_any(v:Value)(k mi:Int)(b:Mx)(w:World)(hv:IsMsg w v k mi b):Calls Tryz.prog 35 #[v] w (fun e w'=>EncEnd w w' k mi b e):=by
 obtain ⟨s,rfl,hs⟩:=id hv
 obtain ⟨r,hr⟩:=gN (b.rows)
 obtain ⟨c,hc⟩:=gN (b.cols)
 obtain ⟨a,cap,rfl,h2,h3,h4⟩:=hs
 obtain ⟨n,hn⟩:=gN (b.cells.length)
 have H4:=h_ h4
 have HN:=h_ hn
 have HRC:=h_ (And.intro hr hc)
 have HB0:=h_ (o_ w (.cells #[.int .i64 k,.int .i64 mi,.int .i64 r,.int .i64 c,.slice a n cap] 63))
 have HCH:=h_ (wchk_any _ k mi b (w.alloc (.cells #[.int .i64 k,.int .i64 mi,.int .i64 r,.int .i64 c,.slice a n cap] 63)) (hv.u_ HB0.out))
 have HM0:=h_ (Blk5.new w (.int .i64 k) (.int .i64 mi) (.int .i64 r) (.int .i64 c) (.slice a n cap))
 rw[hr,hc,hn]at HCH
 rw[hn]at h2 ⊢
 rw[hr,hc]
 have HSA:=h_ (show (w.alloc (.cells #[.int .i64 k,.int .i64 mi,.int .i64 r,.int .i64 c,.slice a n cap] 63)).heap.size=w.heap.size+1 by rw[World.size_alloc])
 clear h4 hv hr hc hn
 by_cases hm:msgF k mi b=0
 ·obtain ⟨k1,k2,m1,m2,hf0⟩:=msgF_in hm
  obtain ⟨⟨r1,r2,r3,r4⟩,hcl,hce⟩:=fault_zero hf0
  have hrc:=rc_bd b.rows b.cols ⟨r1,r2,r3,r4⟩
  have hn288:n≤288:=by have:=HN.out;omega
  have HCE:=h_ hce
  have HOK:=h_ (show ∀x∈numL k mi b,okN x from fun x hx=>by
   rcases List.mem_append.1 hx with q|q
   ·exact (msg_okN hm).1 x q
   ·exact (msg_okN hm).2 x q)
  have HL:=h_ (show (numL k mi b).length=4+n by rw[numL_len,HN.out])
  have HEN:=h_ (show errV (msgF k mi b)=.nilIface by rw[hm,e_ rfl])
  have HX:=h_ (show encX k mi b=wrNs (numL k mi b)++sumsG 0 0 (wrNs (numL k mi b)) by unfold encX;rw[if_pos hm];rfl)
  have HH:=h_ (show (numL k mi b)[0]?=some k.toNat∧(numL k mi b)[1]?=some mi.toNat∧(numL k mi b)[2]?=some r.toNat∧(numL k mi b)[3]?=some c.toNat from ⟨rfl,rfl,by rw[←HRC.out.1];rfl,by rw[←HRC.out.2];rfl⟩)
  have hr0:0≤r:=by rw[←HRC.out.1];exact r1
  have hc0:0≤c:=by rw[←HRC.out.2];exact r3
  rw[HEN.out]at HCH
  have HFT:=h_ hf0
  have HLN:=h_ (show (wrNs (numL k mi b)).length≤2628 by have:=wr_len (numL k mi b);have:=HL.out;omega)
  have HZ:=h_ (show sev k.toNat++sev mi.toNat++wrNs (mxN b)=wrNs (numL k mi b) by unfold numL headN cellN mxN;simp[wrNs])
  obtain ⟨Z,hZ⟩:=gN (wrNs (numL k mi b))
  rw[hZ]at HX HLN HZ
  have HK0:=h_ (HOK.out _ (List.mem_of_getElem? HH.out.1))
  have HK1:=h_ (HOK.out _ (List.mem_of_getElem? HH.out.2.1))
  have HMB:=h_ (show M_ w (.agg #[.int .i64 r,.int .i64 c,.slice a n cap]) b from ⟨_,by rw[HRC.out.1,HRC.out.2],⟨a,cap,by rw[HN.out],by rw[HN.out];exact h2,h3,H4.out⟩⟩)
  clear hrc hce hcl hf0 hm r1 r2 r3 r4 hZ
  go_enter Tryz.func35,Tryz.ntmps35
  go_wp2_with fail
  refine HCH.out.mono ?_
  rintro e w1 ⟨rfl,hb1⟩
  have HM1:=h_ (HM0.out.bel hb1 HM0.out.lt)
  have HB1:=h_ (bel_on HB0.out hb1)
  have HWS:=h_ (show w.heap.size+1≤w1.heap.size by have:=hb1.size;have:=HSA.out;omega)
  have HC1:=h_ (wappnum_any (.slice none 0 0) [] w1.heap.size k.toNat k w1 (OwnY.nil _ _) (Nat.le_refl _) (by omega) HK0.out (by simp))
  obtain ⟨q0,q1,q2,q3,q4⟩:=HM1.out.c
  clear hb1
  go_wp2_with fail
  refine HC1.out.mono ?_
  rintro e w2 ⟨s2,rfl,ho2,hs2,hb2,_,_⟩
  have HO2:=h_ ho2
  have HB2:=h_ (hb2 w1 (Below.refl _ _) (Nat.le_refl _))
  have HC2:=h_ (wappnum_any s2 _ w1.heap.size mi.toNat mi w2 ho2 hs2 (by omega) HK1.out (by have:(sev k.toNat).length≤9:=sevF_len 9 _;simp;omega))
  have HM2:=h_ (HM1.out.bel HB2.out HM1.out.lt)
  obtain ⟨y0,y1,y2,y3,y4⟩:=HM2.out.c
  clear ho2 hs2 hb2 q0 q1 q2 q3 q4
  go_wp2_with fail
  refine HC2.out.mono ?_
  rintro e w3 ⟨s3,rfl,ho3,hs3,hb3,_,_⟩
  have HO3:=h_ ho3
  have HB3:=h_ (hb3 w1 HB2.out (Nat.le_refl _))
  have HC3:=h_ (wappmat_any s3 _ w1.heap.size _ b w w3 ho3 hs3 HMB.out (bel_on HB1.out HB3.out) HB1.out.size HFT.out (by have h1:(sev k.toNat).length≤9:=sevF_len 9 _;have h2:(sev mi.toNat).length≤9:=sevF_len 9 _;simp;omega))
  have HM3:=h_ (HM1.out.bel HB3.out HM1.out.lt)
  obtain ⟨x0,x1,x2,x3,x4⟩:=HM3.out.c
  clear ho3 hs3 hb3 y0 y1 y2 y3 y4
  go_wp2_with fail
  refine HC3.out.mono ?_
  rintro e w4 ⟨s4,rfl,ho4,hs4,hb4⟩
  have HW:=h_ (show OwnY w4 w1.heap.size s4 Z by rw[←HZ.out];simpa using ho4)
  have HBZ:=h_ (hb4 w1 HB3.out (Nat.le_refl _))
  have HSU:=h_ (wsums_any s4 Z w4 HW.out.isBys)
  clear ho4 hs4 hb4 x0 x1 x2 x3 x4
  go_wp2_with (first
   |(go_at_call 67;refine HSU.out.mono ?_;rintro e w5 ⟨s0,s1,rfl,hs,p0,p1,p2,p3,hb5⟩;have HS:=h_ hs;have HB5:=h_ hb5;have HU:=h_ (two_bys w5 s0 s1 156 p0 p1 p2 p3);clear hs hb5)
   |(at_builtin;refine app_bys rfl _ _ rfl w1.heap.size s4 (.slice (some ⟨w5.heap.size,0,none⟩) 2 2) Z [s0,s1] rfl (HW.out.u_ (bel_on HB5.out (o_ _ _))) rfl HU.out (some_nilOk _ _ _) ?h1 ?h2 ?_))
  case h1=>have:=HLN.out;simp;omega
  case h2=>have h1:=HBZ.out.size;have h2:=HB5.out.size;first|omega|(rw[World.size_alloc];omega)
  intro v' w6 hown hgr
  have HR:=h_ (show OwnY w6 w1.heap.size v' (encX k mi b) by rw[HX.out,HS.out];exact hown)
  have HBF:=h_ (bel_on HB1.out (hgr w1 (bel_on (bel_on HBZ.out HB5.out) (o_ _ _)) (Nat.le_refl _)))
  clear hown hgr
  go_wp2
  exact bodyPost_ret (v:=.tuple #[v',.nilIface]) (by simp[results,Tryz.results35,go_sem]) rfl ⟨v',by rw[HEN.out],HR.out.isBys,HR.out.nilOk,HBF.out⟩
 ·have HX:=h_ (show encX k mi b=[] by unfold encX;rw[if_neg hm])
  have HEN:=h_ (n_ hm)
  obtain ⟨E,hE⟩:=gN (msgF k mi b)
  rw[hE]at HEN
  have HE:=h_ hE
  rw[hE,HEN.out]at HCH
  clear hm hE
  go_enter Tryz.func35,Tryz.ntmps35
  go_wp2_with (go_at_call 64;refine HCH.out.mono ?_;rintro e w1 ⟨rfl,hb1⟩;have HB1:=h_ (bel_on HB0.out hb1);clear hb1)
  exact bodyPost_ret (v:=.tuple #[.slice none 0 0,.iface 94 (.int .i64 E)]) (by simp[results,Tryz.results35,go_sem]) rfl ⟨_,by rw[HE.out,HEN.out],by rw[HX.out];exact IsBys.nil _,fun n k e=>by injection e with e1 e2 e3;exact ⟨e2.symm,e3.symm⟩,HB1.out⟩
end Go.Proofs.YtniloklglpchfakGreat
