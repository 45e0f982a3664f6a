/- What Back of package net comes to at a net that has layers: the loop from the last one on; and what it comes to, whatever it is given. -/
import Derived.Test.YtniloklglpchfakGreatPkNetBk
namespace Go.Proofs.YtniloklglpchfakGreat
open Go.RowKit Go.Shelf
attribute [local go_sem] Oper.semAt_some
theorem raw_list(N:Nat):(rawCells (.agg #[.int .i64 0,.int .i64 0,.slice none 0 0,.int .i64 0,.int .i64 0,.slice none 0 0]) (N*6)).toList=(List.replicate N [Value.int .i64 0,.int .i64 0,.slice none 0 0,.int .i64 0,.int .i64 0,.slice none 0 0]).flatten:=by
 unfold rawCells madeCells
 simp only[Array.toList_map,Array.toList_range]
 induction N with
 |zero=>rfl
 |succ N ih=>
  rw[List.replicate_succ',List.flatten_append,←ih,Nat.succ_mul,show N*6+6=N*6+1+1+1+1+1+1 by omega]
  simp only[List.range_succ,List.map_append,List.append_assoc]
  congr 1
  have e:∀q,q<6→(N*6+q) % 6=q:=fun q hq=>by omega
  simp[Value.cells,e 1 (by omega),e 2 (by omega),e 3 (by omega),e 4 (by omega),e 5 (by omega)]
theorem run_mkG(N:Nat)(hN:N≤12)(W:World):(Instr.makeSlice 23 (.int .i64 (N:Int)) (.int .i64 (N:Int))).run Tryz.prog W=.ok (.slice (some ⟨W.heap.size,0,none⟩) N N) (W.alloc (.cells (rawCells (.agg #[.int .i64 0,.int .i64 0,.slice none 0 0,.int .i64 0,.int .i64 0,.slice none 0 0]) (N*6)) 109)):=by
 obtain ⟨i0,hi0,hz0,hz1,hz2⟩:=info_parts infoGd
 have hr:=run_make (P:=Tryz.prog) W 23 109 i0 _ Tryz.underlying23 hi0 hz0 .i64 .i64 (N:Int) (N:Int) (by omega) (by omega) (by rw[hz2];omega) (by omega)
 simpa [hz1,rawCells] using hr
set_option maxHeartbeats 8000000 in
set_option maxRecDepth 100000 in
theorem nback_main(N:Nat)(a:Option Addr)(cap:Nat)(sa:Option Addr)(scap:Nat)(za:Option Addr)(zn zk:Nat)(r c:Int)(ls:List Ly)(ms:List Mx)(g:Mx)(hr:g.rows=r)(hc:g.cols=c)(w:World)(hN0:0<N)(h12:N≤12)(hv:Y_ w (.slice a N cap) ls)(hN:ls.length=N)(hm:IsMxs w (.slice sa (N+1) scap) ms)(hml:ms.length=N+1)(tp lo:Nat)(hlo:lo≤w.heap.size)(hg:P_ w (fun b=>(b<tp∨lo≤b)∧b<w.heap.size) (.inr g.cells) (.slice za zn zk)):
  Calls Tryz.prog 18 #[.slice a N cap,.slice sa (N+1) scap,.agg #[.int .i64 r,.int .i64 c,.slice za zn zk]] w fun e w'=>Below w.heap.size w w'∧
   ((∃T ts D vd,bkE ls.reverse (ms.take N).reverse g=0∧bkX ls.reverse (ms.take N).reverse g=T∧bkD ls.reverse (ms.take N).reverse g=D∧e=.returned (.tuple #[.agg #[.int .i64 T.rows,.int .i64 T.cols,ts],vd,.nilIface])∧Hold (fun b=>(b<tp∨lo≤b)∧b<w.heap.size) w' (fun X=>I_ X ts T.cells∧D_ X vd D))∨
   (∃E,E≠0∧bkE ls.reverse (ms.take N).reverse g=E∧e=.returned (.tuple #[.agg #[.int .i64 0,.int .i64 0,.slice none 0 0],.slice none 0 0,.iface 94 (.int .i64 E)]))):=by
 have HC:=h_ (fun W=>count_any a N cap W (by unfold maxLen;omega))
 rw[if_neg (by omega),e_ rfl]at HC
 have hn0:((N:Int)==0)=false:=by simp;omega
 have h12':(N:Int)≤12:=by omega
 have hmk:=run_mkG N h12
 have HV:=h_ hv
 have HN:=h_ hN
 have HM:=h_ hm
 have HML:=h_ hml
 have HG:=h_ hg
 have HRC:=h_ (And.intro hr hc)
 clear hv hN hm hml hg hr hc
 refine (callsIn_wide (n:=3)).1 ?_
 refine callsIn_of_wp_marks Tryz.func18 rfl trivial ?_ rfl
 simp only[Tryz.ntmps18,List.size_toArray,List.length_cons,List.length_nil,Nat.reduceAdd,Nat.reduceSub,Array.replicate_succ,Array.replicate_zero,List.push_toArray,List.append_toArray,List.nil_append,List.cons_append]
 gi_wp2_with fail
 refine ⟨trivial,?_⟩
 gi_at_call 32
 refine (callsIn_wide.2 (HC.out _)).mono ?_
 rintro e w1 ⟨rfl,rfl⟩
 gi_wp2_with (refine ⟨trivial,?_⟩;gi_at_call 43;refine (callsIn_wide.2 (backward_any _ _ _ _)).mono ?_;rintro e w2 ⟨rfl,rfl⟩)
 obtain ⟨Z,hZ⟩:=gM ((((((((((w.alloc (.cells #[.slice sa (N+1) scap] 55)).alloc (.cells #[.int .i64 r,.int .i64 c,.slice za zn zk] 28)).alloc (.cells #[.int .i64 0,.int .i64 0,.slice none 0 0] 28)).alloc (.cells #[.slice none 0 0] 23)).alloc (.cells #[.nilIface] 38)).alloc (.cells (rawCells (.agg #[.int .i64 0,.int .i64 0,.slice none 0 0,.int .i64 0,.int .i64 0,.slice none 0 0]) (N*6)) 109)).alloc (.cells #[.slice (some ⟨w.heap.size+1+1+1+1+1,0,none⟩) N N] 23)).alloc (.cells #[.int .i64 r,.int .i64 c,.slice za zn zk] 28)).alloc (.cells #[.slice a N cap] 22)))
 have HWZ:Hid (Below w.heap.size w Z):=by rw[hZ];exact h_ (a_ (a_ (a_ (a_ (a_ (a_ (a_ (a_ (a_ (Below.refl _ _))))))))))
 have HZS:Hid (Z.heap.size=w.heap.size+9):=by rw[hZ];exact h_ (by simp)
 have HZB:Hid (Blk Z (w.heap.size+1+1+1+1+1+1+1+1) #[.slice a N cap] 22):=by rw[hZ];exact h_ (Blk.new _ _ _ (by simp))
 have HST:Hid (NbSt tp lo w Z N (.slice sa (N+1) scap) g (.slice za zn zk) (List.replicate N (noMx,noMx)) (List.replicate N [Value.int .i64 0,.int .i64 0,.slice none 0 0,.int .i64 0,.int .i64 0,.slice none 0 0]).flatten):=by
  refine h_ ⟨?_,?_,?_,?_,?_,?_,?_,part_lo HG.out HWZ.out,enc_none _ _ _,by simp,HWZ.out,hlo⟩
  ·rw[hZ];exact ((((((((Blk.new _ _ _ rfl).alloc _).alloc _).alloc _).alloc _).alloc _).alloc _).alloc _).alloc _
  ·rw[hZ];exact ((((((Blk.new _ _ _ (by simp)).alloc _).alloc _).alloc _).alloc _).alloc _).alloc _
  ·rw[hZ];exact (((((Blk.new _ _ _ (by simp)).alloc _).alloc _).alloc _).alloc _).alloc _
  ·rw[hZ];exact ((((Blk.new _ _ _ (by simp)).alloc _).alloc _).alloc _).alloc _
  ·rw[hZ,←raw_list,Array.toArray_toList];exact (((Blk.new _ _ _ (by simp)).alloc _).alloc _).alloc _
  ·rw[hZ];exact ((Blk.new _ _ _ (by simp)).alloc _).alloc _
  ·rw[hZ,HRC.out.1,HRC.out.2];exact (Blk.new _ _ _ (by simp)).alloc _
 rw[←hZ]
 clear hZ hmk
 refine wpIn_rangeFunc_ownH rfl (by omega) (gf:=76) (lb:=#[.pointer (some ⟨w.heap.size+1+1+1+1+1+1+1+1,0,none⟩)]) rfl trivial (enters_of Tryz.func76 (by kernel_rfl) rfl)
  (backward_stops _ (by omega) (w.heap.size+1+1+1+1+1+1+1+1) N a cap ls w Z HV.out HN.out h12 HWZ.out HZB.out) KeepL.trans (KeepL.put HWZ.out.size) (Below.refl _ _) (fun _=>rfl)
  (fun pre W=>∃T ta tn tk D cs,NbSt tp lo w W N (.slice sa (N+1) scap) T (.slice ta tn tk) D cs∧∀k,k≤N→pre.map Item.i=down N k→Rel ls ms g N k T D)
  (fun c pre W=>c=Code.ret∧∃E:Int,E≠0∧(∀k,k≤N→pre.map Item.i=down N k→bkE ls.reverse (ms.take N).reverse g=E)∧Blk W (w.heap.size+1+1) #[.int .i64 0,.int .i64 0,.slice none 0 0] 28∧Blk W (w.heap.size+1+1+1) #[.slice none 0 0] 23∧Blk W (w.heap.size+1+1+1+1) #[.iface 94 (.int .i64 E)] 38∧Below w.heap.size w W)
  (fun pre W W' row hs hg' hr'=>by
   obtain ⟨T,ta,tn,tk,D,cs,h1,h2⟩:=hs
   exact ⟨T,ta,tn,tk,D,cs,h1.own HWZ.out.size hg' hr',h2⟩)
  (fun c0 pre W W' row hs hg' hr'=>by
   obtain ⟨h0,E,h1,h2,h3,h4,h5,h6⟩:=hs
   have kb:∀{b:Nat} {c:Array Value} {t:TypeId},Blk W b c t→Blk W' b c t:=fun {b c t} hb=>Blk.own (β:=Unit) b c t () W W' row hb hg' (fun r e=>(hr' r e).2)
   exact ⟨h0,E,h1,h2,kb h3,kb h4,kb h5,h6.grown hg' h6.size (fun k e=>Nat.le_trans HWZ.out.size (hr' k e).1)⟩)
  ⟨g,za,zn,zk,_,_,HST.out,fun k hk hk'=>by
   obtain rfl:k=0:=by have:=congrArg List.length hk';rw[down_len]at this;simpa using this.symm
   exact rel_start HN.out (by simp)⟩
  (fun x a' W=>∃Bx,w.heap.size+8≤Bx∧Blk W Bx #[.int .i64 x.l.k,.int .i64 x.l.w.rows,.int .i64 x.l.w.cols,.slice x.sa x.sn x.sk,.int .i64 x.l.b.rows,.int .i64 x.l.b.cols,.slice x.ta x.tn x.tk] 83∧a'={ tmps:=#[.slice a N cap,.slice sa (N+1) scap,.agg #[.int .i64 r,.int .i64 c,.slice za zn zk],undef,.pointer (some ⟨w.heap.size,0,none⟩),.pointer (some ⟨w.heap.size+1,0,none⟩),.pointer (some ⟨w.heap.size+1+1,0,none⟩),.pointer (some ⟨w.heap.size+1+1+1,0,none⟩),.pointer (some ⟨w.heap.size+1+1+1+1,0,none⟩),.nilIface,undef,undef,.pointer (some ⟨w.heap.size+1+1+1+1+1+1,0,none⟩),.pointer (some ⟨w.heap.size+1+1+1+1+1+1+1,0,none⟩),.int .i64 x.xi,.pointer (some ⟨Bx,0,none⟩),undef,.slice a N cap,.nilIface,.nilIface,.bool false,undef,undef,.slice sa (N+1) scap,.int .i64 ((N:Int)+1),.slice a N cap,.int .i64 (N:Int),.int .i64 ((N:Int)+1),.bool false,undef,undef,.slice a N cap,.int .i64 (N:Int),.bool false,undef,undef,undef,undef,undef,undef,undef,.slice a N cap,.int .i64 (N:Int),.slice (some ⟨w.heap.size+1+1+1+1+1,0,none⟩) N N,.agg #[.int .i64 r,.int .i64 c,.slice za zn zk],.slice a N cap,.func (.func 76) #[] #[.pointer (some ⟨w.heap.size+1+1+1+1+1+1+1+1,0,none⟩)],.int .i64 x.xi,.agg #[.int .i64 x.l.k,.int .i64 x.l.w.rows,.int .i64 x.l.w.cols,.slice x.sa x.sn x.sk,.int .i64 x.l.b.rows,.int .i64 x.l.b.cols,.slice x.ta x.tn x.tk],undef,undef,undef,undef,undef,undef,undef,undef,undef,undef,undef,undef,undef,undef,undef,undef,undef,undef,undef,undef],defers:=[] })
  (fun x a' _ W W' row hs hg' hr'=>by
   obtain ⟨Bx,h1,h2,h3⟩:=hs
   exact ⟨Bx,h1,Blk.own (β:=Unit) _ _ _ () W W' row h2 hg' (fun r e=>(hr' r e).2),h3⟩) ?assign ?body ?done ?stop
 case assign=>
  rintro l pre x W K ⟨T,ta,tn,tk,D,cs,h1,h2⟩ hK
  have HS:=h_ h1
  have HR:=h_ h2
  clear h1 h2
  simp only[itemV]
  gi_wp2
  exact hK _ _ ((KeepsOthers.alloc _ _).from _) ⟨(Below.refl _ W).alloc HS.out.bel.size _,fun cs' hb=>hb.alloc _⟩ ⟨T,ta,tn,tk,D,cs,HS.out.u_ (o_ _ _),HR.out⟩ ⟨W.heap.size,by have:=HS.out.cur.lt;omega,Blk.new W _ _ rfl,rfl⟩
 case body=>
  rintro l0 pre x a' W hl0 hrr ⟨T,ta,tn,tk,D,cs,hst,hrel⟩ ⟨Bx,hBx,bX,rfl⟩ hlen
  obtain ⟨i,ei⟩:=gN (x.i)
  obtain ⟨xi,exi⟩:=gN (x.xi)
  obtain ⟨ly,el⟩:=gN (x.l)
  obtain ⟨lsa,e1⟩:=gN (x.sa)
  obtain ⟨lsn,e2⟩:=gN (x.sn)
  obtain ⟨lsk,e3⟩:=gN (x.sk)
  obtain ⟨lta,e4⟩:=gN (x.ta)
  obtain ⟨ltn,e5⟩:=gN (x.tn)
  obtain ⟨ltk,e6⟩:=gN (x.tk)
  have hxx:=x.hx
  have hll:=x.hl
  have hly:=x.hly
  rw[exi,ei]at hxx
  rw[ei,el]at hll
  rw[el,e1,e2,e3,e4,e5,e6]at hly bX
  rw[exi,el,e1,e2,e3,e4,e5,e6]
  have hiN:i<N:=by have:=(List.getElem?_eq_some_iff.1 hll).1;rw[HN.out]at this;exact this
  obtain ⟨m,hm⟩:∃m,ms[i]?=some m:=⟨ms[i]'(by rw[HML.out];omega),List.getElem?_eq_getElem _⟩
  obtain ⟨sb,so,scp,ua,un,uk,ev,m0,m1,m2,hu⟩:=HM.out.at hm
  injection ev with ev1 ev2 ev3
  clear ev2 ev3
  subst ev1
  have hxn:xi.toNat=i:=by omega
  rw[←hxn]at m0 m1 m2
  have hx0:0≤xi:=by omega
  have hx1:xi<(N:Int):=by omega
  have hx2:xi<(N:Int)+1:=by omega
  have hsb:sb<w.heap.size:=World.block_lt_of_cell? w _ m0
  have hcl:cs.length=N*6:=by rw[hst.enc.1,flat_len6 gdS 6 (fun _=>rfl),hst.len]
  have hD9:w.heap.size+8≤W.heap.size:=by have:=hst.cur.lt;omega
  obtain ⟨y,hy⟩:=gN (backX ly m T)
  obtain ⟨gw,hgw⟩:=gN (gradW ly m T)
  obtain ⟨gb,hgb⟩:=gN (gradB ly m T)
  obtain ⟨be,hbe⟩:=gN (backE ly m T)
  have HT:=h_ (lback_any (.agg #[.int .i64 ly.k,.int .i64 ly.w.rows,.int .i64 ly.w.cols,.slice lsa lsn lsk,.int .i64 ly.b.rows,.int .i64 ly.b.cols,.slice lta ltn ltk]) ly m T (.agg #[.int .i64 m.rows,.int .i64 m.cols,.slice ua un uk]) (.agg #[.int .i64 T.rows,.int .i64 T.cols,.slice ta tn tk]) W.drew (hly.u_ (d_ hst.bel)) ⟨_,rfl,hu.u_ (d_ hst.bel)⟩ ⟨_,rfl,hst.prt.1.u_ (r_ (Below.refl _ _))⟩)
  rw[hy,hgw,hgb,hbe]at HT
  have HSB:=h_ (show ∀W',Keep (fun b=>b≠w.heap.size+1+1+1+1+1∧b≠w.heap.size+1+1+1+1+1+1+1) W W'→(fun W'=>W'.cell? ⟨w.heap.size+1+1+1+1+1+1,0,none⟩=some (.slice (some ⟨w.heap.size+1+1+1+1+1,0,none⟩) N N)∧W'.cell? ⟨Bx,0,none⟩=some (.int .i64 ly.k)∧W'.cell? ⟨Bx,1,none⟩=some (.int .i64 ly.w.rows)∧W'.cell? ⟨Bx,2,none⟩=some (.int .i64 ly.w.cols)∧W'.cell? ⟨Bx,3,none⟩=some (.slice lsa lsn lsk)∧W'.cell? ⟨Bx,4,none⟩=some (.int .i64 ly.b.rows)∧W'.cell? ⟨Bx,5,none⟩=some (.int .i64 ly.b.cols)∧W'.cell? ⟨Bx,6,none⟩=some (.slice lta ltn ltk)∧W'.cell? ⟨w.heap.size,0,none⟩=some (.slice (some ⟨sb,so,none⟩) (N+1) scap)∧W'.cell? ⟨sb,so+xi.toNat*3,none⟩=some (.int .i64 m.rows)∧W'.cell? ⟨sb,so+xi.toNat*3+1,none⟩=some (.int .i64 m.cols)∧W'.cell? ⟨sb,so+xi.toNat*3+2,none⟩=some (.slice ua un uk)) W' from fun W' h=>⟨h _ _ ⟨(by dsimp only;omega),(by dsimp only;omega)⟩ (hst.var.cell (j:=0) rfl),h _ _ ⟨(by dsimp only;omega),(by dsimp only;omega)⟩ (bX.cell (j:=0) rfl),h _ _ ⟨(by dsimp only;omega),(by dsimp only;omega)⟩ (bX.cell (j:=1) rfl),h _ _ ⟨(by dsimp only;omega),(by dsimp only;omega)⟩ (bX.cell (j:=2) rfl),h _ _ ⟨(by dsimp only;omega),(by dsimp only;omega)⟩ (bX.cell (j:=3) rfl),h _ _ ⟨(by dsimp only;omega),(by dsimp only;omega)⟩ (bX.cell (j:=4) rfl),h _ _ ⟨(by dsimp only;omega),(by dsimp only;omega)⟩ (bX.cell (j:=5) rfl),h _ _ ⟨(by dsimp only;omega),(by dsimp only;omega)⟩ (bX.cell (j:=6) rfl),h _ _ ⟨(by dsimp only;omega),(by dsimp only;omega)⟩ (hst.saw.cell (j:=0) rfl),h _ _ ⟨(by dsimp only;omega),(by dsimp only;omega)⟩ (c_ hst.bel m0),h _ _ ⟨(by dsimp only;omega),(by dsimp only;omega)⟩ (c_ hst.bel m1),h _ _ ⟨(by dsimp only;omega),(by dsimp only;omega)⟩ (c_ hst.bel m2)⟩)
  have HRL:=h_ (show ∀k,k≤N→(pre++[x]).map Item.i=down N k→(be=0→Rel ls ms g N k y (D.set i (gw,gb)))∧(be≠0→bkE ls.reverse (ms.take N).reverse g=be) from fun k hk hk'=>by
   have hlen':=congrArg List.length hk'
   rw[down_len,List.length_map,List.length_append]at hlen'
   obtain ⟨k1,rfl⟩:∃k1,k=k1+1:=⟨pre.length,hlen'.symm⟩
   rw[down_succ,List.map_append]at hk'
   obtain ⟨e1,e2⟩:=List.append_inj' hk' rfl
   have e3:i=N - 1 - k1:=by rw[←ei];simpa using e2
   have hr0:=hrel k1 (by omega) e1
   refine ⟨fun h0=>?_,fun h0=>?_⟩
   ·rw[←hy,←hgw,←hgb];exact rel_step hr0 (by omega) hll hm (hbe.trans h0) hst.len
   ·rw[←hbe];exact rel_err hr0 (by omega) hll hm (by rw[hbe];exact h0))
  have HST:=h_ hst
  have HB0:=h_ hBx
  have HSBK:=h_ (And.intro hsb hD9)
  have HIN:=h_ (And.intro hiN (And.intro hxn hcl))
  have hq:∀j,j<6→∃u,cs[xi.toNat*6+j]?=some u:=fun j hj=>⟨cs[xi.toNat*6+j]'(by rw[hcl];omega),List.getElem?_eq_getElem _⟩
  have HQ:=h_ hq
  have c0:=hst.cur.cell (j:=0) rfl
  have c1:=hst.cur.cell (j:=1) rfl
  have c2:=hst.cur.cell (j:=2) rfl
  clear hst hrel hBx bX hll hly hm hu m0 m1 m2 hy hgw hgb hbe hq hsb hcl hlen hrr hl0 hxx hxn hiN hD9 ei exi el e1 e2 e3 e4 e5 e6
  have HXN:=h_ (Int.toNat_of_nonneg hx0)
  obtain ⟨h1N,hxn,hcl⟩:=HIN.out
  subst hxn
  clear h1N hcl
  by_cases hbe:be=0
  ·subst hbe
   gi_wp2
   refine region_round (S:=(fun W'=>W'.cell? ⟨w.heap.size+1+1+1+1+1+1,0,none⟩=some (.slice (some ⟨w.heap.size+1+1+1+1+1,0,none⟩) N N)∧W'.cell? ⟨Bx,0,none⟩=some (.int .i64 ly.k)∧W'.cell? ⟨Bx,1,none⟩=some (.int .i64 ly.w.rows)∧W'.cell? ⟨Bx,2,none⟩=some (.int .i64 ly.w.cols)∧W'.cell? ⟨Bx,3,none⟩=some (.slice lsa lsn lsk)∧W'.cell? ⟨Bx,4,none⟩=some (.int .i64 ly.b.rows)∧W'.cell? ⟨Bx,5,none⟩=some (.int .i64 ly.b.cols)∧W'.cell? ⟨Bx,6,none⟩=some (.slice lta ltn ltk)∧W'.cell? ⟨w.heap.size,0,none⟩=some (.slice (some ⟨sb,so,none⟩) (N+1) scap)∧W'.cell? ⟨sb,so+xi.toNat*3,none⟩=some (.int .i64 m.rows)∧W'.cell? ⟨sb,so+xi.toNat*3+1,none⟩=some (.int .i64 m.cols)∧W'.cell? ⟨sb,so+xi.toNat*3+2,none⟩=some (.slice ua un uk))) (by kernel_rfl) (by rintro ⟨_,_,h⟩;exact h) (by kernel_rfl) (HSB.out _ (keep_drew (Keep.refl _ _))) (fun hHeld=>?_)
   refine wpAnyH_take (i := 0) (oi := { dst := some 50, op := .load 23 (.tmp 12), type := 23, pos := "net.go:70", after := #[{ on := 13, ground := .gcOnly .lateStores }], guard := none }) (v := ?v0) rfl (by kernel_rfl) (by kernel_rfl) (by kernel_rfl) (fun _ _ _ h => h) (Or.inl ⟨by rfl, ?hy0⟩) (by assumption) ?rest0
   case hy0=>(intro w hSw;(try dsimp only at hSw);go_simp;(try with_reducible rfl))
   try simp only[Act.put,List.setIfInBounds_toArray,List.set_cons_zero,List.set_cons_succ]
   refine wpAnyH_take (i := 1) (oi := { dst := some 51, op := .move (.tmp 14), type := 3, pos := "net.go:70", after := #[{ on := 13, ground := .gcOnly .lateStores }], guard := none }) (v := ?v1) rfl (by kernel_rfl) (by kernel_rfl) (by kernel_rfl) (fun _ _ _ h => h) (Or.inl ⟨by rfl, ?hy1⟩) (by assumption) ?rest1
   case hy1=>(intro w hSw;(try dsimp only at hSw);go_simp;(try with_reducible rfl))
   try simp only[Act.put,List.setIfInBounds_toArray,List.set_cons_zero,List.set_cons_succ]
   refine wpAnyH_take (i := 2) (oi := { dst := some 52, op := .load 83 (.tmp 15), type := 83, pos := "net.go:70", after := #[], guard := none }) (v := ?v2) rfl (by kernel_rfl) (by kernel_rfl) (by kernel_rfl) (fun _ _ _ h => h) (Or.inl ⟨by rfl, ?hy2⟩) (by assumption) ?rest2
   case hy2=>(intro w hSw;(try dsimp only at hSw);go_simp;(try with_reducible rfl))
   try simp only[Act.put,List.setIfInBounds_toArray,List.set_cons_zero,List.set_cons_succ]
   refine wpAnyH_take (i := 3) (oi := { dst := some 53, op := .load 55 (.tmp 4), type := 55, pos := "net.go:70", after := #[], guard := none }) (v := ?v3) rfl (by kernel_rfl) (by kernel_rfl) (by kernel_rfl) (fun _ _ _ h => h) (Or.inl ⟨by rfl, ?hy3⟩) (by assumption) ?rest3
   case hy3=>(intro w hSw;(try dsimp only at hSw);go_simp;(try with_reducible rfl))
   try simp only[Act.put,List.setIfInBounds_toArray,List.set_cons_zero,List.set_cons_succ]
   refine wpAnyH_take (i := 4) (oi := { dst := some 54, op := .move (.tmp 14), type := 3, pos := "net.go:70", after := #[], guard := none }) (v := ?v4) rfl (by kernel_rfl) (by kernel_rfl) (by kernel_rfl) (fun _ _ _ h => h) (Or.inl ⟨by rfl, ?hy4⟩) (by assumption) ?rest4
   case hy4=>(intro w hSw;(try dsimp only at hSw);go_simp;(try with_reducible rfl))
   try simp only[Act.put,List.setIfInBounds_toArray,List.set_cons_zero,List.set_cons_succ]
   refine wpAnyH_take (i := 5) (oi := { dst := some 55, op := .indexAddr 55 (.tmp 53) (.tmp 54), type := 0, pos := "net.go:70", after := #[{ on := 3, ground := .data }, { on := 4, ground := .data }], guard := none }) (v := ?v5) rfl (by kernel_rfl) (by kernel_rfl) (by kernel_rfl) (fun _ _ _ h => h) (Or.inl ⟨by rfl, ?hy5⟩) (by assumption) ?rest5
   case hy5=>(intro w hSw;(try dsimp only at hSw);go_simp;(try with_reducible rfl))
   try simp only[Act.put,List.setIfInBounds_toArray,List.set_cons_zero,List.set_cons_succ]
   refine wpAnyH_take (i := 6) (oi := { dst := some 56, op := .load 28 (.tmp 55), type := 28, pos := "net.go:70", after := #[{ on := 5, ground := .data }], guard := none }) (v := ?v6) rfl (by kernel_rfl) (by kernel_rfl) (by kernel_rfl) (fun _ _ _ h => h) (Or.inl ⟨by rfl, ?hy6⟩) (by assumption) ?rest6
   case hy6=>(intro w hSw;(try dsimp only at hSw);go_simp;(try with_reducible rfl))
   try simp only[Act.put,List.setIfInBounds_toArray,List.set_cons_zero,List.set_cons_succ]
   refine wpAnyH_ready (rs:=[7]) (by kernel_rfl) (by simp) ?_
   refine AllReadyH.cons (o := { dst := some 57, op := .load 28 (.tmp 13), type := 28, pos := "net.go:70", after := #[], guard := none }) rfl (fun K hK => ?_) AllReadyH.nil
   go_simp
   refine hK.out _ _ ?hS7 (fun hHeld7=>?_)
   case hS7=>exact hHeld
   clear hK K
   try simp only[Act.put,List.setIfInBounds_toArray,List.set_cons_zero,List.set_cons_succ]
   refine wpAnyH_ready (rs:=[8]) (by kernel_rfl) (by simp) ?_
   refine AllReadyH.cons (o := { dst := some 58, op := .call { callee := .value (.func 44), args := #[.tmp 52, .tmp 56, .tmp 57], argTypes := #[83, 28, 28] }, type := 128, pos := "net.go:70", after := #[{ on := 2, ground := .data }, { on := 6, ground := .data }, { on := 7, ground := .data }], guard := none }) rfl (fun K hK => ?_) AllReadyH.nil
   go_simp
   go_at_call 44
   refine HT.out.mono ?_
   rintro e w1 ⟨v',d,rfl,⟨sy,rfl,hsy⟩,⟨s1,s2,rfl,hs1,hs2⟩,hb1,hf,hf2⟩
   obtain ⟨pa,pn,pk,rfl⟩:=hsy.shape
   obtain ⟨qa,qn,qk,rfl⟩:=hs1.shape
   obtain ⟨ra,rn,rk,rfl⟩:=hs2.shape
   have HB1:=h_ (show Below W.heap.size W w1 from b_ (r_ (Below.refl _ _)) hb1)
   have HI:=h_ (And.intro hsy (And.intro hs1 hs2))
   have HF:=h_ (And.intro hf (hf2 _ _ _ _ _ _ _ _ _ _ rfl))
   clear hsy hs1 hs2 hb1 hf hf2 c0 c1 c2
   rw[e_ rfl]
   go_wp2_with fail
   refine hK.out _ _ ?hS8 (fun hHeld8=>?_)
   case hS8=>exact HSB.out _ (fun q z _ hz=>c_ HB1.out hz)
   clear hK K
   try simp only[Act.put,List.setIfInBounds_toArray,List.set_cons_zero,List.set_cons_succ]
   refine wpAnyH_take (i := 9) (oi := { dst := some 49, op := .move (.tmp 58), type := 128, pos := "net.go:70", after := #[{ on := 8, ground := .data }], guard := none }) (v := ?v9) rfl (by kernel_rfl) (by kernel_rfl) (by kernel_rfl) (fun _ _ _ h => h) (Or.inl ⟨by rfl, ?hy9⟩) (by assumption) ?rest9
   case hy9=>(intro w hSw;(try dsimp only at hSw);go_simp;(try with_reducible rfl))
   try simp only[Act.put,List.setIfInBounds_toArray,List.set_cons_zero,List.set_cons_succ]
   refine wpAnyH_take (i := 10) (oi := { dst := some 59, op := .extract (.tmp 49) 0, type := 28, pos := "net.go:70", after := #[{ on := 9, ground := .data }], guard := none }) (v := ?v10) rfl (by kernel_rfl) (by kernel_rfl) (by kernel_rfl) (fun _ _ _ h => h) (Or.inl ⟨by rfl, ?hy10⟩) (by assumption) ?rest10
   case hy10=>(intro w hSw;(try dsimp only at hSw);go_simp;(try with_reducible rfl))
   try simp only[Act.put,List.setIfInBounds_toArray,List.set_cons_zero,List.set_cons_succ]
   refine wpAnyH_take (i := 11) (oi := { dst := some 60, op := .extract (.tmp 49) 1, type := 109, pos := "net.go:70", after := #[{ on := 9, ground := .data }, { on := 13, ground := .gcOnly .lateStores }], guard := none }) (v := ?v11) rfl (by kernel_rfl) (by kernel_rfl) (by kernel_rfl) (fun _ _ _ h => h) (Or.inl ⟨by rfl, ?hy11⟩) (by assumption) ?rest11
   case hy11=>(intro w hSw;(try dsimp only at hSw);go_simp;(try with_reducible rfl))
   try simp only[Act.put,List.setIfInBounds_toArray,List.set_cons_zero,List.set_cons_succ]
   refine wpAnyH_take (i := 12) (oi := { dst := some 61, op := .extract (.tmp 49) 2, type := 38, pos := "net.go:70", after := #[{ on := 9, ground := .data }, { on := 15, ground := .gcOnly .lateStores }], guard := none }) (v := ?v12) rfl (by kernel_rfl) (by kernel_rfl) (by kernel_rfl) (fun _ _ _ h => h) (Or.inl ⟨by rfl, ?hy12⟩) (by assumption) ?rest12
   case hy12=>(intro w hSw;(try dsimp only at hSw);go_simp;(try with_reducible rfl))
   try simp only[Act.put,List.setIfInBounds_toArray,List.set_cons_zero,List.set_cons_succ]
   have t0:=(HST.out.cur.u_ HB1.out).cell (j:=0) rfl
   have f0:=(HST.out.cur.u_ HB1.out).frozen 0
   have t1:=(HST.out.cur.u_ HB1.out).cell (j:=1) rfl
   have f1:=(HST.out.cur.u_ HB1.out).frozen 1
   have t2:=(HST.out.cur.u_ HB1.out).cell (j:=2) rfl
   have f2:=(HST.out.cur.u_ HB1.out).frozen 2
   refine wpAnyH_ready (rs:=[13]) (by kernel_rfl) (by simp) ?_
   refine AllReadyH.cons (o := { dst := none, op := .store 28 (.tmp 13) (.tmp 59), type := 0, pos := "net.go:70", after := #[{ on := 10, ground := .data }, { on := 8, ground := .chain }, { on := 0, ground := .textOnly .lateStores }, { on := 1, ground := .textOnly .lateStores }, { on := 2, ground := .phase }, { on := 3, ground := .phase }, { on := 4, ground := .phase }, { on := 5, ground := .phase }, { on := 6, ground := .phase }, { on := 7, ground := .phase }, { on := 8, ground := .phase }, { on := 9, ground := .phase }, { on := 10, ground := .phase }, { on := 11, ground := .textOnly .lateStores }, { on := 12, ground := .textOnly .lateStores }], guard := none }) rfl (fun K hK => ?_) AllReadyH.nil
   go_simp
   refine hK.out _ _ ?hS13 (fun hHeld13=>?_)
   case hS13=>exact HSB.out _ (keep_set (keep_set (keep_set (fun q z _ hz=>c_ HB1.out hz) (fun h=>h.2 rfl)) (fun h=>h.2 rfl)) (fun h=>h.2 rfl))
   clear hK K
   try simp only[Act.put,List.setIfInBounds_toArray,List.set_cons_zero,List.set_cons_succ]
   refine wpAnyH_take (i := 14) (oi := { dst := some 62, op := .indexAddr 23 (.tmp 50) (.tmp 51), type := 0, pos := "net.go:70", after := #[{ on := 0, ground := .data }, { on := 1, ground := .data }, { on := 0, ground := .phase }, { on := 1, ground := .phase }, { on := 2, ground := .phase }, { on := 3, ground := .phase }, { on := 4, ground := .phase }, { on := 5, ground := .phase }, { on := 6, ground := .phase }, { on := 7, ground := .phase }, { on := 8, ground := .phase }, { on := 9, ground := .phase }, { on := 10, ground := .phase }, { on := 11, ground := .phase }, { on := 12, ground := .textOnly .lateStores }, { on := 13, ground := .phase }], guard := none }) (v := ?v14) rfl (by kernel_rfl) (by kernel_rfl) (by kernel_rfl) (fun _ _ _ h => h) (Or.inl ⟨by rfl, ?hy14⟩) (by assumption) ?rest14
   case hy14=>(intro w hSw;(try dsimp only at hSw);go_simp;(try with_reducible rfl))
   try simp only[Act.put,List.setIfInBounds_toArray,List.set_cons_zero,List.set_cons_succ]
   obtain ⟨x0,h0⟩:=HQ.out 0 (by omega)
   have z0:=(HST.out.dat.u_ HB1.out).cell (j:=xi.toNat*6) (by simpa using h0)
   have g0:=(HST.out.dat.u_ HB1.out).frozen (xi.toNat*6)
   obtain ⟨x1,h1⟩:=HQ.out 1 (by omega)
   have z1:=(HST.out.dat.u_ HB1.out).cell (j:=xi.toNat*6+1) (by simpa using h1)
   have g1:=(HST.out.dat.u_ HB1.out).frozen (xi.toNat*6+1)
   obtain ⟨x2,h2⟩:=HQ.out 2 (by omega)
   have z2:=(HST.out.dat.u_ HB1.out).cell (j:=xi.toNat*6+2) (by simpa using h2)
   have g2:=(HST.out.dat.u_ HB1.out).frozen (xi.toNat*6+2)
   obtain ⟨x3,h3⟩:=HQ.out 3 (by omega)
   have z3:=(HST.out.dat.u_ HB1.out).cell (j:=xi.toNat*6+3) (by simpa using h3)
   have g3:=(HST.out.dat.u_ HB1.out).frozen (xi.toNat*6+3)
   obtain ⟨x4,h4⟩:=HQ.out 4 (by omega)
   have z4:=(HST.out.dat.u_ HB1.out).cell (j:=xi.toNat*6+4) (by simpa using h4)
   have g4:=(HST.out.dat.u_ HB1.out).frozen (xi.toNat*6+4)
   obtain ⟨x5,h5⟩:=HQ.out 5 (by omega)
   have z5:=(HST.out.dat.u_ HB1.out).cell (j:=xi.toNat*6+5) (by simpa using h5)
   have g5:=(HST.out.dat.u_ HB1.out).frozen (xi.toNat*6+5)
   clear h0 h1 h2 h3 h4 h5
   refine wpAnyH_ready (rs:=[15]) (by kernel_rfl) (by simp) ?_
   refine AllReadyH.cons (o := { dst := none, op := .store 109 (.tmp 62) (.tmp 60), type := 0, pos := "net.go:70", after := #[{ on := 14, ground := .data }, { on := 11, ground := .data }, { on := 13, ground := .chain }, { on := 0, ground := .phase }, { on := 1, ground := .phase }, { on := 2, ground := .phase }, { on := 3, ground := .phase }, { on := 4, ground := .phase }, { on := 5, ground := .phase }, { on := 6, ground := .phase }, { on := 7, ground := .phase }, { on := 8, ground := .phase }, { on := 9, ground := .phase }, { on := 10, ground := .phase }, { on := 11, ground := .phase }, { on := 12, ground := .textOnly .lateStores }, { on := 13, ground := .phase }], guard := none }) rfl (fun K hK => ?_) AllReadyH.nil
   go_simp
   refine hK.out _ _ ?hS15 (fun hHeld15=>?_)
   case hS15=>exact HSB.out _ (keep_set (keep_set (keep_set (keep_set (keep_set (keep_set (keep_set (keep_set (keep_set (fun q z _ hz=>c_ HB1.out hz) (fun h=>h.2 rfl)) (fun h=>h.2 rfl)) (fun h=>h.2 rfl)) (fun h=>h.1 rfl)) (fun h=>h.1 rfl)) (fun h=>h.1 rfl)) (fun h=>h.1 rfl)) (fun h=>h.1 rfl)) (fun h=>h.1 rfl))
   clear hK K
   try simp only[Act.put,List.setIfInBounds_toArray,List.set_cons_zero,List.set_cons_succ]
   refine wpAnyH_take (i := 16) (oi := { dst := some 16, op := .assign (.tmp 61), type := 38, pos := "net.go:70", after := #[{ on := 12, ground := .data }, { on := 15, ground := .chain }, { on := 0, ground := .phase }, { on := 1, ground := .phase }, { on := 2, ground := .phase }, { on := 3, ground := .phase }, { on := 4, ground := .phase }, { on := 5, ground := .phase }, { on := 6, ground := .phase }, { on := 7, ground := .phase }, { on := 8, ground := .phase }, { on := 9, ground := .phase }, { on := 10, ground := .phase }, { on := 11, ground := .phase }, { on := 12, ground := .phase }, { on := 13, ground := .phase }, { on := 14, ground := .phase }, { on := 15, ground := .phase }], guard := none }) (v := ?v16) rfl (by kernel_rfl) (by kernel_rfl) (by kernel_rfl) (fun _ _ _ h => h) (Or.inl ⟨by rfl, ?hy16⟩) (by assumption) ?rest16
   case hy16=>(intro w hSw;(try dsimp only at hSw);go_simp;(try with_reducible rfl))
   try simp only[Act.put,List.setIfInBounds_toArray,List.set_cons_zero,List.set_cons_succ]
   refine wpAnyH_done (by kernel_rfl) ?_ _
   have HG1:=h_ (show ∀q,gBk tp lo w.heap.size q→q<W.drew.heap.size from fun q hq=>by unfold gBk at hq;show q<W.heap.size;have:=HSBK.out.2;omega)
   have HS1:=h_ (show NbSt tp lo w (((((((((w1.setCell ⟨w.heap.size+1+1+1+1+1+1+1,0,none⟩ (.int .i64 y.rows)).setCell ⟨w.heap.size+1+1+1+1+1+1+1,1,none⟩ (.int .i64 y.cols)).setCell ⟨w.heap.size+1+1+1+1+1+1+1,2,none⟩ (.slice pa pn pk)).setCell ⟨w.heap.size+1+1+1+1+1,xi.toNat*6,none⟩ (.int .i64 gw.rows)).setCell ⟨w.heap.size+1+1+1+1+1,xi.toNat*6+1,none⟩ (.int .i64 gw.cols)).setCell ⟨w.heap.size+1+1+1+1+1,xi.toNat*6+2,none⟩ (.slice qa qn qk)).setCell ⟨w.heap.size+1+1+1+1+1,xi.toNat*6+3,none⟩ (.int .i64 gb.rows)).setCell ⟨w.heap.size+1+1+1+1+1,xi.toNat*6+4,none⟩ (.int .i64 gb.cols)).setCell ⟨w.heap.size+1+1+1+1+1,xi.toNat*6+5,none⟩ (.slice ra rn rk)) N (.slice (some ⟨sb,so,none⟩) (N+1) scap) y (.slice pa pn pk) (D.set xi.toNat (gw,gb)) _ from ((HST.out.u_ HB1.out).putTo (x_ HI.out.1 HF.out.1 HG1.out)).putGd HIN.out.1 (d:=(gw,gb)) ((((x_ HI.out.2.1 HF.out.2.1 HG1.out).set (show gBk tp lo w.heap.size (w.heap.size+1+1+1+1+1+1+1) from ⟨.inr (by omega),by omega⟩) 0 _).set (show gBk tp lo w.heap.size (w.heap.size+1+1+1+1+1+1+1) from ⟨.inr (by omega),by omega⟩) 1 _).set (show gBk tp lo w.heap.size (w.heap.size+1+1+1+1+1+1+1) from ⟨.inr (by omega),by omega⟩) 2 _) ((((x_ HI.out.2.2 HF.out.2.2 HG1.out).set (show gBk tp lo w.heap.size (w.heap.size+1+1+1+1+1+1+1) from ⟨.inr (by omega),by omega⟩) 0 _).set (show gBk tp lo w.heap.size (w.heap.size+1+1+1+1+1+1+1) from ⟨.inr (by omega),by omega⟩) 1 _).set (show gBk tp lo w.heap.size (w.heap.size+1+1+1+1+1+1+1) from ⟨.inr (by omega),by omega⟩) 2 _))
   have HKO:=h_ (show KeepsOthers W (((((((((w1.setCell ⟨w.heap.size+1+1+1+1+1+1+1,0,none⟩ (.int .i64 y.rows)).setCell ⟨w.heap.size+1+1+1+1+1+1+1,1,none⟩ (.int .i64 y.cols)).setCell ⟨w.heap.size+1+1+1+1+1+1+1,2,none⟩ (.slice pa pn pk)).setCell ⟨w.heap.size+1+1+1+1+1,xi.toNat*6,none⟩ (.int .i64 gw.rows)).setCell ⟨w.heap.size+1+1+1+1+1,xi.toNat*6+1,none⟩ (.int .i64 gw.cols)).setCell ⟨w.heap.size+1+1+1+1+1,xi.toNat*6+2,none⟩ (.slice qa qn qk)).setCell ⟨w.heap.size+1+1+1+1+1,xi.toNat*6+3,none⟩ (.int .i64 gb.rows)).setCell ⟨w.heap.size+1+1+1+1+1,xi.toNat*6+4,none⟩ (.int .i64 gb.cols)).setCell ⟨w.heap.size+1+1+1+1+1,xi.toNat*6+5,none⟩ (.slice ra rn rk)) from ((((((((((⟨HB1.out.size,fun k o hk _=>(HB1.out.block k (Array.getElem?_eq_some_iff.1 hk).1).trans hk⟩:KeepsOthers W w1).trans (KeepsOthers.setCell _ _ _)).trans (KeepsOthers.setCell _ _ _)).trans (KeepsOthers.setCell _ _ _)).trans (KeepsOthers.setCell _ _ _)).trans (KeepsOthers.setCell _ _ _)).trans (KeepsOthers.setCell _ _ _)).trans (KeepsOthers.setCell _ _ _)).trans (KeepsOthers.setCell _ _ _)).trans (KeepsOthers.setCell _ _ _)))
   have HKL:=h_ (show KeepL w.heap.size (w.heap.size+1+1+1+1+1+1+1+1) W (((((((((w1.setCell ⟨w.heap.size+1+1+1+1+1+1+1,0,none⟩ (.int .i64 y.rows)).setCell ⟨w.heap.size+1+1+1+1+1+1+1,1,none⟩ (.int .i64 y.cols)).setCell ⟨w.heap.size+1+1+1+1+1+1+1,2,none⟩ (.slice pa pn pk)).setCell ⟨w.heap.size+1+1+1+1+1,xi.toNat*6,none⟩ (.int .i64 gw.rows)).setCell ⟨w.heap.size+1+1+1+1+1,xi.toNat*6+1,none⟩ (.int .i64 gw.cols)).setCell ⟨w.heap.size+1+1+1+1+1,xi.toNat*6+2,none⟩ (.slice qa qn qk)).setCell ⟨w.heap.size+1+1+1+1+1,xi.toNat*6+3,none⟩ (.int .i64 gb.rows)).setCell ⟨w.heap.size+1+1+1+1+1,xi.toNat*6+4,none⟩ (.int .i64 gb.cols)).setCell ⟨w.heap.size+1+1+1+1+1,xi.toNat*6+5,none⟩ (.slice ra rn rk)) from ⟨(Below.setCell (p:=⟨_,_,none⟩) (Below.setCell (p:=⟨_,_,none⟩) (Below.setCell (p:=⟨_,_,none⟩) (Below.setCell (p:=⟨_,_,none⟩) (Below.setCell (p:=⟨_,_,none⟩) (Below.setCell (p:=⟨_,_,none⟩) (Below.setCell (p:=⟨_,_,none⟩) (Below.setCell (p:=⟨_,_,none⟩) (Below.setCell (p:=⟨_,_,none⟩) (HB1.out.mono HST.out.bel.size) (by simp;omega) _) (by simp;omega) _) (by simp;omega) _) (by simp;omega) _) (by simp;omega) _) (by simp;omega) _) (by simp;omega) _) (by simp;omega) _) (by simp;omega) _),fun cs' hb=>(Blk.other (Blk.other (Blk.other (Blk.other (Blk.other (Blk.other (Blk.other (Blk.other (Blk.other (hb.u_ HB1.out) (by omega) _) (by omega) _) (by omega) _) (by omega) _) (by omega) _) (by omega) _) (by omega) _) (by omega) _) (by omega) _)⟩)
   obtain ⟨F,hF⟩:=gM ((((((((((w1.setCell ⟨w.heap.size+1+1+1+1+1+1+1,0,none⟩ (.int .i64 y.rows)).setCell ⟨w.heap.size+1+1+1+1+1+1+1,1,none⟩ (.int .i64 y.cols)).setCell ⟨w.heap.size+1+1+1+1+1+1+1,2,none⟩ (.slice pa pn pk)).setCell ⟨w.heap.size+1+1+1+1+1,xi.toNat*6,none⟩ (.int .i64 gw.rows)).setCell ⟨w.heap.size+1+1+1+1+1,xi.toNat*6+1,none⟩ (.int .i64 gw.cols)).setCell ⟨w.heap.size+1+1+1+1+1,xi.toNat*6+2,none⟩ (.slice qa qn qk)).setCell ⟨w.heap.size+1+1+1+1+1,xi.toNat*6+3,none⟩ (.int .i64 gb.rows)).setCell ⟨w.heap.size+1+1+1+1+1,xi.toNat*6+4,none⟩ (.int .i64 gb.cols)).setCell ⟨w.heap.size+1+1+1+1+1,xi.toNat*6+5,none⟩ (.slice ra rn rk)))
   rw[←hF]at HS1 HKO HKL ⊢
   clear hF t0 f0 t1 f1 t2 f2 z0 g0 z1 g1 z2 g2 z3 g3 z4 g4 z5 g5 hHeld hHeld7 hHeld8 hHeld13 hHeld15 HSB HT HI HF HQ
   gi_wp2

   exact ⟨HKO.out.from _,HKL.out,⟨y,pa,pn,pk,_,⟨_,HS1.out⟩,fun k hk hk'=>(HRL.out k hk hk').1 (by simp)⟩⟩
  ·have HBE:=h_ hbe
   gi_wp2
   refine region_round (S:=(fun W'=>W'.cell? ⟨w.heap.size+1+1+1+1+1+1,0,none⟩=some (.slice (some ⟨w.heap.size+1+1+1+1+1,0,none⟩) N N)∧W'.cell? ⟨Bx,0,none⟩=some (.int .i64 ly.k)∧W'.cell? ⟨Bx,1,none⟩=some (.int .i64 ly.w.rows)∧W'.cell? ⟨Bx,2,none⟩=some (.int .i64 ly.w.cols)∧W'.cell? ⟨Bx,3,none⟩=some (.slice lsa lsn lsk)∧W'.cell? ⟨Bx,4,none⟩=some (.int .i64 ly.b.rows)∧W'.cell? ⟨Bx,5,none⟩=some (.int .i64 ly.b.cols)∧W'.cell? ⟨Bx,6,none⟩=some (.slice lta ltn ltk)∧W'.cell? ⟨w.heap.size,0,none⟩=some (.slice (some ⟨sb,so,none⟩) (N+1) scap)∧W'.cell? ⟨sb,so+xi.toNat*3,none⟩=some (.int .i64 m.rows)∧W'.cell? ⟨sb,so+xi.toNat*3+1,none⟩=some (.int .i64 m.cols)∧W'.cell? ⟨sb,so+xi.toNat*3+2,none⟩=some (.slice ua un uk))) (by kernel_rfl) (by rintro ⟨_,_,h⟩;exact h) (by kernel_rfl) (HSB.out _ (keep_drew (Keep.refl _ _))) (fun hHeld=>?_)
   refine wpAnyH_take (i := 0) (oi := { dst := some 50, op := .load 23 (.tmp 12), type := 23, pos := "net.go:70", after := #[{ on := 13, ground := .gcOnly .lateStores }], guard := none }) (v := ?vb0) rfl (by kernel_rfl) (by kernel_rfl) (by kernel_rfl) (fun _ _ _ h => h) (Or.inl ⟨by rfl, ?hyb0⟩) (by assumption) ?restb0
   case hyb0=>(intro w hSw;(try dsimp only at hSw);go_simp;(try with_reducible rfl))
   try simp only[Act.put,List.setIfInBounds_toArray,List.set_cons_zero,List.set_cons_succ]
   refine wpAnyH_take (i := 1) (oi := { dst := some 51, op := .move (.tmp 14), type := 3, pos := "net.go:70", after := #[{ on := 13, ground := .gcOnly .lateStores }], guard := none }) (v := ?vb1) rfl (by kernel_rfl) (by kernel_rfl) (by kernel_rfl) (fun _ _ _ h => h) (Or.inl ⟨by rfl, ?hyb1⟩) (by assumption) ?restb1
   case hyb1=>(intro w hSw;(try dsimp only at hSw);go_simp;(try with_reducible rfl))
   try simp only[Act.put,List.setIfInBounds_toArray,List.set_cons_zero,List.set_cons_succ]
   refine wpAnyH_take (i := 2) (oi := { dst := some 52, op := .load 83 (.tmp 15), type := 83, pos := "net.go:70", after := #[], guard := none }) (v := ?vb2) rfl (by kernel_rfl) (by kernel_rfl) (by kernel_rfl) (fun _ _ _ h => h) (Or.inl ⟨by rfl, ?hyb2⟩) (by assumption) ?restb2
   case hyb2=>(intro w hSw;(try dsimp only at hSw);go_simp;(try with_reducible rfl))
   try simp only[Act.put,List.setIfInBounds_toArray,List.set_cons_zero,List.set_cons_succ]
   refine wpAnyH_take (i := 3) (oi := { dst := some 53, op := .load 55 (.tmp 4), type := 55, pos := "net.go:70", after := #[], guard := none }) (v := ?vb3) rfl (by kernel_rfl) (by kernel_rfl) (by kernel_rfl) (fun _ _ _ h => h) (Or.inl ⟨by rfl, ?hyb3⟩) (by assumption) ?restb3
   case hyb3=>(intro w hSw;(try dsimp only at hSw);go_simp;(try with_reducible rfl))
   try simp only[Act.put,List.setIfInBounds_toArray,List.set_cons_zero,List.set_cons_succ]
   refine wpAnyH_take (i := 4) (oi := { dst := some 54, op := .move (.tmp 14), type := 3, pos := "net.go:70", after := #[], guard := none }) (v := ?vb4) rfl (by kernel_rfl) (by kernel_rfl) (by kernel_rfl) (fun _ _ _ h => h) (Or.inl ⟨by rfl, ?hyb4⟩) (by assumption) ?restb4
   case hyb4=>(intro w hSw;(try dsimp only at hSw);go_simp;(try with_reducible rfl))
   try simp only[Act.put,List.setIfInBounds_toArray,List.set_cons_zero,List.set_cons_succ]
   refine wpAnyH_take (i := 5) (oi := { dst := some 55, op := .indexAddr 55 (.tmp 53) (.tmp 54), type := 0, pos := "net.go:70", after := #[{ on := 3, ground := .data }, { on := 4, ground := .data }], guard := none }) (v := ?vb5) rfl (by kernel_rfl) (by kernel_rfl) (by kernel_rfl) (fun _ _ _ h => h) (Or.inl ⟨by rfl, ?hyb5⟩) (by assumption) ?restb5
   case hyb5=>(intro w hSw;(try dsimp only at hSw);go_simp;(try with_reducible rfl))
   try simp only[Act.put,List.setIfInBounds_toArray,List.set_cons_zero,List.set_cons_succ]
   refine wpAnyH_take (i := 6) (oi := { dst := some 56, op := .load 28 (.tmp 55), type := 28, pos := "net.go:70", after := #[{ on := 5, ground := .data }], guard := none }) (v := ?vb6) rfl (by kernel_rfl) (by kernel_rfl) (by kernel_rfl) (fun _ _ _ h => h) (Or.inl ⟨by rfl, ?hyb6⟩) (by assumption) ?restb6
   case hyb6=>(intro w hSw;(try dsimp only at hSw);go_simp;(try with_reducible rfl))
   try simp only[Act.put,List.setIfInBounds_toArray,List.set_cons_zero,List.set_cons_succ]
   refine wpAnyH_ready (rs:=[7]) (by kernel_rfl) (by simp) ?_
   refine AllReadyH.cons (o := { dst := some 57, op := .load 28 (.tmp 13), type := 28, pos := "net.go:70", after := #[], guard := none }) rfl (fun K hK => ?_) AllReadyH.nil
   go_simp
   refine hK.out _ _ ?hSb7 (fun hHeld7=>?_)
   case hSb7=>exact hHeld
   clear hK K
   try simp only[Act.put,List.setIfInBounds_toArray,List.set_cons_zero,List.set_cons_succ]
   refine wpAnyH_ready (rs:=[8]) (by kernel_rfl) (by simp) ?_
   refine AllReadyH.cons (o := { dst := some 58, op := .call { callee := .value (.func 44), args := #[.tmp 52, .tmp 56, .tmp 57], argTypes := #[83, 28, 28] }, type := 128, pos := "net.go:70", after := #[{ on := 2, ground := .data }, { on := 6, ground := .data }, { on := 7, ground := .data }], guard := none }) rfl (fun K hK => ?_) AllReadyH.nil
   go_simp
   go_at_call 44
   refine HT.out.mono ?_
   rintro e w1 ⟨v',d,rfl,⟨sy,rfl,hsy⟩,⟨s1,s2,rfl,hs1,hs2⟩,hb1,hf,hf2⟩
   obtain ⟨pa,pn,pk,rfl⟩:=hsy.shape
   obtain ⟨qa,qn,qk,rfl⟩:=hs1.shape
   obtain ⟨ra,rn,rk,rfl⟩:=hs2.shape
   have HB1:=h_ (show Below W.heap.size W w1 from b_ (r_ (Below.refl _ _)) hb1)
   have HI:=h_ (And.intro hsy (And.intro hs1 hs2))
   have HF:=h_ (And.intro hf (hf2 _ _ _ _ _ _ _ _ _ _ rfl))
   clear hsy hs1 hs2 hb1 hf hf2 c0 c1 c2
   rw[n_ hbe]
   go_wp2_with fail
   refine hK.out _ _ ?hSb8 (fun hHeld8=>?_)
   case hSb8=>exact HSB.out _ (fun q z _ hz=>c_ HB1.out hz)
   clear hK K
   try simp only[Act.put,List.setIfInBounds_toArray,List.set_cons_zero,List.set_cons_succ]
   refine wpAnyH_take (i := 9) (oi := { dst := some 49, op := .move (.tmp 58), type := 128, pos := "net.go:70", after := #[{ on := 8, ground := .data }], guard := none }) (v := ?vb9) rfl (by kernel_rfl) (by kernel_rfl) (by kernel_rfl) (fun _ _ _ h => h) (Or.inl ⟨by rfl, ?hyb9⟩) (by assumption) ?restb9
   case hyb9=>(intro w hSw;(try dsimp only at hSw);go_simp;(try with_reducible rfl))
   try simp only[Act.put,List.setIfInBounds_toArray,List.set_cons_zero,List.set_cons_succ]
   refine wpAnyH_take (i := 10) (oi := { dst := some 59, op := .extract (.tmp 49) 0, type := 28, pos := "net.go:70", after := #[{ on := 9, ground := .data }], guard := none }) (v := ?vb10) rfl (by kernel_rfl) (by kernel_rfl) (by kernel_rfl) (fun _ _ _ h => h) (Or.inl ⟨by rfl, ?hyb10⟩) (by assumption) ?restb10
   case hyb10=>(intro w hSw;(try dsimp only at hSw);go_simp;(try with_reducible rfl))
   try simp only[Act.put,List.setIfInBounds_toArray,List.set_cons_zero,List.set_cons_succ]
   refine wpAnyH_take (i := 11) (oi := { dst := some 60, op := .extract (.tmp 49) 1, type := 109, pos := "net.go:70", after := #[{ on := 9, ground := .data }, { on := 13, ground := .gcOnly .lateStores }], guard := none }) (v := ?vb11) rfl (by kernel_rfl) (by kernel_rfl) (by kernel_rfl) (fun _ _ _ h => h) (Or.inl ⟨by rfl, ?hyb11⟩) (by assumption) ?restb11
   case hyb11=>(intro w hSw;(try dsimp only at hSw);go_simp;(try with_reducible rfl))
   try simp only[Act.put,List.setIfInBounds_toArray,List.set_cons_zero,List.set_cons_succ]
   refine wpAnyH_take (i := 12) (oi := { dst := some 61, op := .extract (.tmp 49) 2, type := 38, pos := "net.go:70", after := #[{ on := 9, ground := .data }, { on := 15, ground := .gcOnly .lateStores }], guard := none }) (v := ?vb12) rfl (by kernel_rfl) (by kernel_rfl) (by kernel_rfl) (fun _ _ _ h => h) (Or.inl ⟨by rfl, ?hyb12⟩) (by assumption) ?restb12
   case hyb12=>(intro w hSw;(try dsimp only at hSw);go_simp;(try with_reducible rfl))
   try simp only[Act.put,List.setIfInBounds_toArray,List.set_cons_zero,List.set_cons_succ]
   have t0:=(HST.out.cur.u_ HB1.out).cell (j:=0) rfl
   have f0:=(HST.out.cur.u_ HB1.out).frozen 0
   have t1:=(HST.out.cur.u_ HB1.out).cell (j:=1) rfl
   have f1:=(HST.out.cur.u_ HB1.out).frozen 1
   have t2:=(HST.out.cur.u_ HB1.out).cell (j:=2) rfl
   have f2:=(HST.out.cur.u_ HB1.out).frozen 2
   refine wpAnyH_ready (rs:=[13]) (by kernel_rfl) (by simp) ?_
   refine AllReadyH.cons (o := { dst := none, op := .store 28 (.tmp 13) (.tmp 59), type := 0, pos := "net.go:70", after := #[{ on := 10, ground := .data }, { on := 8, ground := .chain }, { on := 0, ground := .textOnly .lateStores }, { on := 1, ground := .textOnly .lateStores }, { on := 2, ground := .phase }, { on := 3, ground := .phase }, { on := 4, ground := .phase }, { on := 5, ground := .phase }, { on := 6, ground := .phase }, { on := 7, ground := .phase }, { on := 8, ground := .phase }, { on := 9, ground := .phase }, { on := 10, ground := .phase }, { on := 11, ground := .textOnly .lateStores }, { on := 12, ground := .textOnly .lateStores }], guard := none }) rfl (fun K hK => ?_) AllReadyH.nil
   go_simp
   refine hK.out _ _ ?hSb13 (fun hHeld13=>?_)
   case hSb13=>exact HSB.out _ (keep_set (keep_set (keep_set (fun q z _ hz=>c_ HB1.out hz) (fun h=>h.2 rfl)) (fun h=>h.2 rfl)) (fun h=>h.2 rfl))
   clear hK K
   try simp only[Act.put,List.setIfInBounds_toArray,List.set_cons_zero,List.set_cons_succ]
   refine wpAnyH_take (i := 14) (oi := { dst := some 62, op := .indexAddr 23 (.tmp 50) (.tmp 51), type := 0, pos := "net.go:70", after := #[{ on := 0, ground := .data }, { on := 1, ground := .data }, { on := 0, ground := .phase }, { on := 1, ground := .phase }, { on := 2, ground := .phase }, { on := 3, ground := .phase }, { on := 4, ground := .phase }, { on := 5, ground := .phase }, { on := 6, ground := .phase }, { on := 7, ground := .phase }, { on := 8, ground := .phase }, { on := 9, ground := .phase }, { on := 10, ground := .phase }, { on := 11, ground := .phase }, { on := 12, ground := .textOnly .lateStores }, { on := 13, ground := .phase }], guard := none }) (v := ?vb14) rfl (by kernel_rfl) (by kernel_rfl) (by kernel_rfl) (fun _ _ _ h => h) (Or.inl ⟨by rfl, ?hyb14⟩) (by assumption) ?restb14
   case hyb14=>(intro w hSw;(try dsimp only at hSw);go_simp;(try with_reducible rfl))
   try simp only[Act.put,List.setIfInBounds_toArray,List.set_cons_zero,List.set_cons_succ]
   obtain ⟨x0,h0⟩:=HQ.out 0 (by omega)
   have z0:=(HST.out.dat.u_ HB1.out).cell (j:=xi.toNat*6) (by simpa using h0)
   have g0:=(HST.out.dat.u_ HB1.out).frozen (xi.toNat*6)
   obtain ⟨x1,h1⟩:=HQ.out 1 (by omega)
   have z1:=(HST.out.dat.u_ HB1.out).cell (j:=xi.toNat*6+1) (by simpa using h1)
   have g1:=(HST.out.dat.u_ HB1.out).frozen (xi.toNat*6+1)
   obtain ⟨x2,h2⟩:=HQ.out 2 (by omega)
   have z2:=(HST.out.dat.u_ HB1.out).cell (j:=xi.toNat*6+2) (by simpa using h2)
   have g2:=(HST.out.dat.u_ HB1.out).frozen (xi.toNat*6+2)
   obtain ⟨x3,h3⟩:=HQ.out 3 (by omega)
   have z3:=(HST.out.dat.u_ HB1.out).cell (j:=xi.toNat*6+3) (by simpa using h3)
   have g3:=(HST.out.dat.u_ HB1.out).frozen (xi.toNat*6+3)
   obtain ⟨x4,h4⟩:=HQ.out 4 (by omega)
   have z4:=(HST.out.dat.u_ HB1.out).cell (j:=xi.toNat*6+4) (by simpa using h4)
   have g4:=(HST.out.dat.u_ HB1.out).frozen (xi.toNat*6+4)
   obtain ⟨x5,h5⟩:=HQ.out 5 (by omega)
   have z5:=(HST.out.dat.u_ HB1.out).cell (j:=xi.toNat*6+5) (by simpa using h5)
   have g5:=(HST.out.dat.u_ HB1.out).frozen (xi.toNat*6+5)
   clear h0 h1 h2 h3 h4 h5
   refine wpAnyH_ready (rs:=[15]) (by kernel_rfl) (by simp) ?_
   refine AllReadyH.cons (o := { dst := none, op := .store 109 (.tmp 62) (.tmp 60), type := 0, pos := "net.go:70", after := #[{ on := 14, ground := .data }, { on := 11, ground := .data }, { on := 13, ground := .chain }, { on := 0, ground := .phase }, { on := 1, ground := .phase }, { on := 2, ground := .phase }, { on := 3, ground := .phase }, { on := 4, ground := .phase }, { on := 5, ground := .phase }, { on := 6, ground := .phase }, { on := 7, ground := .phase }, { on := 8, ground := .phase }, { on := 9, ground := .phase }, { on := 10, ground := .phase }, { on := 11, ground := .phase }, { on := 12, ground := .textOnly .lateStores }, { on := 13, ground := .phase }], guard := none }) rfl (fun K hK => ?_) AllReadyH.nil
   go_simp
   refine hK.out _ _ ?hSb15 (fun hHeld15=>?_)
   case hSb15=>exact HSB.out _ (keep_set (keep_set (keep_set (keep_set (keep_set (keep_set (keep_set (keep_set (keep_set (fun q z _ hz=>c_ HB1.out hz) (fun h=>h.2 rfl)) (fun h=>h.2 rfl)) (fun h=>h.2 rfl)) (fun h=>h.1 rfl)) (fun h=>h.1 rfl)) (fun h=>h.1 rfl)) (fun h=>h.1 rfl)) (fun h=>h.1 rfl)) (fun h=>h.1 rfl))
   clear hK K
   try simp only[Act.put,List.setIfInBounds_toArray,List.set_cons_zero,List.set_cons_succ]
   refine wpAnyH_take (i := 16) (oi := { dst := some 16, op := .assign (.tmp 61), type := 38, pos := "net.go:70", after := #[{ on := 12, ground := .data }, { on := 15, ground := .chain }, { on := 0, ground := .phase }, { on := 1, ground := .phase }, { on := 2, ground := .phase }, { on := 3, ground := .phase }, { on := 4, ground := .phase }, { on := 5, ground := .phase }, { on := 6, ground := .phase }, { on := 7, ground := .phase }, { on := 8, ground := .phase }, { on := 9, ground := .phase }, { on := 10, ground := .phase }, { on := 11, ground := .phase }, { on := 12, ground := .phase }, { on := 13, ground := .phase }, { on := 14, ground := .phase }, { on := 15, ground := .phase }], guard := none }) (v := ?vb16) rfl (by kernel_rfl) (by kernel_rfl) (by kernel_rfl) (fun _ _ _ h => h) (Or.inl ⟨by rfl, ?hyb16⟩) (by assumption) ?restb16
   case hyb16=>(intro w hSw;(try dsimp only at hSw);go_simp;(try with_reducible rfl))
   try simp only[Act.put,List.setIfInBounds_toArray,List.set_cons_zero,List.set_cons_succ]
   refine wpAnyH_done (by kernel_rfl) ?_ _
   have HG1:=h_ (show ∀q,gBk tp lo w.heap.size q→q<W.drew.heap.size from fun q hq=>by unfold gBk at hq;show q<W.heap.size;have:=HSBK.out.2;omega)
   have HS1:=h_ (show NbSt tp lo w (((((((((w1.setCell ⟨w.heap.size+1+1+1+1+1+1+1,0,none⟩ (.int .i64 y.rows)).setCell ⟨w.heap.size+1+1+1+1+1+1+1,1,none⟩ (.int .i64 y.cols)).setCell ⟨w.heap.size+1+1+1+1+1+1+1,2,none⟩ (.slice pa pn pk)).setCell ⟨w.heap.size+1+1+1+1+1,xi.toNat*6,none⟩ (.int .i64 gw.rows)).setCell ⟨w.heap.size+1+1+1+1+1,xi.toNat*6+1,none⟩ (.int .i64 gw.cols)).setCell ⟨w.heap.size+1+1+1+1+1,xi.toNat*6+2,none⟩ (.slice qa qn qk)).setCell ⟨w.heap.size+1+1+1+1+1,xi.toNat*6+3,none⟩ (.int .i64 gb.rows)).setCell ⟨w.heap.size+1+1+1+1+1,xi.toNat*6+4,none⟩ (.int .i64 gb.cols)).setCell ⟨w.heap.size+1+1+1+1+1,xi.toNat*6+5,none⟩ (.slice ra rn rk)) N (.slice (some ⟨sb,so,none⟩) (N+1) scap) y (.slice pa pn pk) (D.set xi.toNat (gw,gb)) _ from ((HST.out.u_ HB1.out).putTo (x_ HI.out.1 HF.out.1 HG1.out)).putGd HIN.out.1 (d:=(gw,gb)) ((((x_ HI.out.2.1 HF.out.2.1 HG1.out).set (show gBk tp lo w.heap.size (w.heap.size+1+1+1+1+1+1+1) from ⟨.inr (by omega),by omega⟩) 0 _).set (show gBk tp lo w.heap.size (w.heap.size+1+1+1+1+1+1+1) from ⟨.inr (by omega),by omega⟩) 1 _).set (show gBk tp lo w.heap.size (w.heap.size+1+1+1+1+1+1+1) from ⟨.inr (by omega),by omega⟩) 2 _) ((((x_ HI.out.2.2 HF.out.2.2 HG1.out).set (show gBk tp lo w.heap.size (w.heap.size+1+1+1+1+1+1+1) from ⟨.inr (by omega),by omega⟩) 0 _).set (show gBk tp lo w.heap.size (w.heap.size+1+1+1+1+1+1+1) from ⟨.inr (by omega),by omega⟩) 1 _).set (show gBk tp lo w.heap.size (w.heap.size+1+1+1+1+1+1+1) from ⟨.inr (by omega),by omega⟩) 2 _))
   have HKO:=h_ (show KeepsOthers W (((((((((w1.setCell ⟨w.heap.size+1+1+1+1+1+1+1,0,none⟩ (.int .i64 y.rows)).setCell ⟨w.heap.size+1+1+1+1+1+1+1,1,none⟩ (.int .i64 y.cols)).setCell ⟨w.heap.size+1+1+1+1+1+1+1,2,none⟩ (.slice pa pn pk)).setCell ⟨w.heap.size+1+1+1+1+1,xi.toNat*6,none⟩ (.int .i64 gw.rows)).setCell ⟨w.heap.size+1+1+1+1+1,xi.toNat*6+1,none⟩ (.int .i64 gw.cols)).setCell ⟨w.heap.size+1+1+1+1+1,xi.toNat*6+2,none⟩ (.slice qa qn qk)).setCell ⟨w.heap.size+1+1+1+1+1,xi.toNat*6+3,none⟩ (.int .i64 gb.rows)).setCell ⟨w.heap.size+1+1+1+1+1,xi.toNat*6+4,none⟩ (.int .i64 gb.cols)).setCell ⟨w.heap.size+1+1+1+1+1,xi.toNat*6+5,none⟩ (.slice ra rn rk)) from ((((((((((⟨HB1.out.size,fun k o hk _=>(HB1.out.block k (Array.getElem?_eq_some_iff.1 hk).1).trans hk⟩:KeepsOthers W w1).trans (KeepsOthers.setCell _ _ _)).trans (KeepsOthers.setCell _ _ _)).trans (KeepsOthers.setCell _ _ _)).trans (KeepsOthers.setCell _ _ _)).trans (KeepsOthers.setCell _ _ _)).trans (KeepsOthers.setCell _ _ _)).trans (KeepsOthers.setCell _ _ _)).trans (KeepsOthers.setCell _ _ _)).trans (KeepsOthers.setCell _ _ _)))
   have HKL:=h_ (show KeepL w.heap.size (w.heap.size+1+1+1+1+1+1+1+1) W (((((((((w1.setCell ⟨w.heap.size+1+1+1+1+1+1+1,0,none⟩ (.int .i64 y.rows)).setCell ⟨w.heap.size+1+1+1+1+1+1+1,1,none⟩ (.int .i64 y.cols)).setCell ⟨w.heap.size+1+1+1+1+1+1+1,2,none⟩ (.slice pa pn pk)).setCell ⟨w.heap.size+1+1+1+1+1,xi.toNat*6,none⟩ (.int .i64 gw.rows)).setCell ⟨w.heap.size+1+1+1+1+1,xi.toNat*6+1,none⟩ (.int .i64 gw.cols)).setCell ⟨w.heap.size+1+1+1+1+1,xi.toNat*6+2,none⟩ (.slice qa qn qk)).setCell ⟨w.heap.size+1+1+1+1+1,xi.toNat*6+3,none⟩ (.int .i64 gb.rows)).setCell ⟨w.heap.size+1+1+1+1+1,xi.toNat*6+4,none⟩ (.int .i64 gb.cols)).setCell ⟨w.heap.size+1+1+1+1+1,xi.toNat*6+5,none⟩ (.slice ra rn rk)) from ⟨(Below.setCell (p:=⟨_,_,none⟩) (Below.setCell (p:=⟨_,_,none⟩) (Below.setCell (p:=⟨_,_,none⟩) (Below.setCell (p:=⟨_,_,none⟩) (Below.setCell (p:=⟨_,_,none⟩) (Below.setCell (p:=⟨_,_,none⟩) (Below.setCell (p:=⟨_,_,none⟩) (Below.setCell (p:=⟨_,_,none⟩) (Below.setCell (p:=⟨_,_,none⟩) (HB1.out.mono HST.out.bel.size) (by simp;omega) _) (by simp;omega) _) (by simp;omega) _) (by simp;omega) _) (by simp;omega) _) (by simp;omega) _) (by simp;omega) _) (by simp;omega) _) (by simp;omega) _),fun cs' hb=>(Blk.other (Blk.other (Blk.other (Blk.other (Blk.other (Blk.other (Blk.other (Blk.other (Blk.other (hb.u_ HB1.out) (by omega) _) (by omega) _) (by omega) _) (by omega) _) (by omega) _) (by omega) _) (by omega) _) (by omega) _) (by omega) _)⟩)
   obtain ⟨F,hF⟩:=gM ((((((((((w1.setCell ⟨w.heap.size+1+1+1+1+1+1+1,0,none⟩ (.int .i64 y.rows)).setCell ⟨w.heap.size+1+1+1+1+1+1+1,1,none⟩ (.int .i64 y.cols)).setCell ⟨w.heap.size+1+1+1+1+1+1+1,2,none⟩ (.slice pa pn pk)).setCell ⟨w.heap.size+1+1+1+1+1,xi.toNat*6,none⟩ (.int .i64 gw.rows)).setCell ⟨w.heap.size+1+1+1+1+1,xi.toNat*6+1,none⟩ (.int .i64 gw.cols)).setCell ⟨w.heap.size+1+1+1+1+1,xi.toNat*6+2,none⟩ (.slice qa qn qk)).setCell ⟨w.heap.size+1+1+1+1+1,xi.toNat*6+3,none⟩ (.int .i64 gb.rows)).setCell ⟨w.heap.size+1+1+1+1+1,xi.toNat*6+4,none⟩ (.int .i64 gb.cols)).setCell ⟨w.heap.size+1+1+1+1+1,xi.toNat*6+5,none⟩ (.slice ra rn rk)))
   rw[←hF]at HS1 HKO HKL ⊢
   clear hF t0 f0 t1 f1 t2 f2 z0 g0 z1 g1 z2 g2 z3 g3 z4 g4 z5 g5 hHeld hHeld7 hHeld8 hHeld13 hHeld15 HSB HT HI HF HQ
   have t0:=HS1.out.res.cell (j:=0) rfl
   have t1:=HS1.out.res.cell (j:=1) rfl
   have t2:=HS1.out.res.cell (j:=2) rfl
   have t3:=HS1.out.rgd.cell (j:=0) rfl
   have t4:=HS1.out.rer.cell (j:=0) rfl
   have f0:=HS1.out.res.frozen 0
   have f1:=HS1.out.res.frozen 1
   have f2:=HS1.out.res.frozen 2
   have f3:=HS1.out.rgd.frozen 0
   have f4:=HS1.out.rer.frozen 0
   clear hbe
   gi_wp2
   refine ⟨((((((HKO.out.trans (KeepsOthers.setCell _ _ _)).trans (KeepsOthers.setCell _ _ _)).trans (KeepsOthers.setCell _ _ _)).trans (KeepsOthers.setCell _ _ _)).trans (KeepsOthers.setCell _ _ _)).from _),rfl,be,HBE.out,fun k hk hk'=>(HRL.out k hk hk').2 HBE.out,?_,?_,?_,?_⟩
   ·exact ((((HS1.out.res.set 0 _).set 1 _).set 2 _).other (by omega) _).other (by omega) _
   ·exact ((((HS1.out.rgd.other (by omega) _).other (by omega) _).other (by omega) _).set 0 _).other (by omega) _
   ·exact ((((HS1.out.rer.other (by omega) _).other (by omega) _).other (by omega) _).other (by omega) _).set 0 _
   ·exact t_ (t_ (t_ (t_ (t_ HS1.out.bel (by omega)) (by omega)) (by omega)) (by omega)) (by omega)
 case done=>
  rintro D0 ys W hD hS ⟨T,ta,tn,tk,D,cs,hst,hrel⟩ hK
  have HR:=h_ (rel_end (hrel N (Nat.le_refl _) hS))
  have HS:=h_ hst
  have HK:=h_ hK
  have HD:=h_ hD
  have c0:=hst.cur.cell (j:=0) rfl
  have c1:=hst.cur.cell (j:=1) rfl
  have c2:=hst.cur.cell (j:=2) rfl
  have c3:=hst.var.cell (j:=0) rfl
  have t0:=hst.res.cell (j:=0) rfl
  have t1:=hst.res.cell (j:=1) rfl
  have t2:=hst.res.cell (j:=2) rfl
  have t3:=hst.rgd.cell (j:=0) rfl
  have t4:=hst.rer.cell (j:=0) rfl
  have f0:=hst.res.frozen 0
  have f1:=hst.res.frozen 1
  have f2:=hst.res.frozen 2
  have f3:=hst.rgd.frozen 0
  have f4:=hst.rer.frozen 0
  clear hst hrel hS hK hD
  have HSB:=h_ (show ∀W',Keep (fun b=>b=w.heap.size+1+1+1+1+1+1∨b=w.heap.size+1+1+1+1+1+1+1) W W'→(fun W'=>W'.cell? ⟨w.heap.size+1+1+1+1+1+1+1,0,none⟩=some (.int .i64 T.rows)∧W'.cell? ⟨w.heap.size+1+1+1+1+1+1+1,1,none⟩=some (.int .i64 T.cols)∧W'.cell? ⟨w.heap.size+1+1+1+1+1+1+1,2,none⟩=some (.slice ta tn tk)∧W'.cell? ⟨w.heap.size+1+1+1+1+1+1,0,none⟩=some (.slice (some ⟨w.heap.size+1+1+1+1+1,0,none⟩) N N)) W' from fun W' h=>⟨h _ _ (.inr rfl) c0,h _ _ (.inr rfl) c1,h _ _ (.inr rfl) c2,h _ _ (.inl rfl) c3⟩)
  gi_wp2
  refine wpIn_wide.2 ?_
  go_region_held3 (fun W'=>W'.cell? ⟨w.heap.size+1+1+1+1+1+1+1,0,none⟩=some (.int .i64 T.rows)∧W'.cell? ⟨w.heap.size+1+1+1+1+1+1+1,1,none⟩=some (.int .i64 T.cols)∧W'.cell? ⟨w.heap.size+1+1+1+1+1+1+1,2,none⟩=some (.slice ta tn tk)∧W'.cell? ⟨w.heap.size+1+1+1+1+1+1,0,none⟩=some (.slice (some ⟨w.heap.size+1+1+1+1+1,0,none⟩) N N)) ((refine HSB.out _ ?_;repeat' (first|with_reducible exact Keep.refl _ _|with_reducible refine keep_drew ?_|with_reducible refine keep_set ?_ (by omega)))) (fail)
  have HKW:=h_ (show KeepsOthers W (((((W.setCell ⟨w.heap.size+1+1,0,none⟩ (.int .i64 T.rows)).setCell ⟨w.heap.size+1+1,1,none⟩ (.int .i64 T.cols)).setCell ⟨w.heap.size+1+1,2,none⟩ (.slice ta tn tk)).setCell ⟨w.heap.size+1+1+1,0,none⟩ (.slice (some ⟨w.heap.size+1+1+1+1+1,0,none⟩) N N)).setCell ⟨w.heap.size+1+1+1+1,0,none⟩ (.nilIface)).drew from (((((KeepsOthers.setCell _ _ _).trans (KeepsOthers.setCell _ _ _)).trans (KeepsOthers.setCell _ _ _)).trans (KeepsOthers.setCell _ _ _)).trans (KeepsOthers.setCell _ _ _)).trans (KeepsOthers.drew _))
  have HKF:=h_ (HKW.out.same D0 _ HK.out rfl)
  have HFK:=h_ (show Keep (fun b=>b≠w.heap.size+1+1∧b≠w.heap.size+1+1+1∧b≠w.heap.size+1+1+1+1) W ((((((W.setCell ⟨w.heap.size+1+1,0,none⟩ (.int .i64 T.rows)).setCell ⟨w.heap.size+1+1,1,none⟩ (.int .i64 T.cols)).setCell ⟨w.heap.size+1+1,2,none⟩ (.slice ta tn tk)).setCell ⟨w.heap.size+1+1+1,0,none⟩ (.slice (some ⟨w.heap.size+1+1+1+1+1,0,none⟩) N N)).setCell ⟨w.heap.size+1+1+1+1,0,none⟩ (.nilIface)).drew.putObj D0 (.deferred none)) from keep_put (keep_drew (keep_set (keep_set (keep_set (keep_set (keep_set (Keep.refl _ _) (fun h=>h.1 rfl)) (fun h=>h.1 rfl)) (fun h=>h.1 rfl)) (fun h=>h.2.1 rfl)) (fun h=>h.2.2 rfl))) HKF.out rfl)
  have HEN:=h_ (HS.out.ends h12 HFK.out)
  have HBW:=h_ (show Below w.heap.size w ((((((W.setCell ⟨w.heap.size+1+1,0,none⟩ (.int .i64 T.rows)).setCell ⟨w.heap.size+1+1,1,none⟩ (.int .i64 T.cols)).setCell ⟨w.heap.size+1+1,2,none⟩ (.slice ta tn tk)).setCell ⟨w.heap.size+1+1+1,0,none⟩ (.slice (some ⟨w.heap.size+1+1+1+1+1,0,none⟩) N N)).setCell ⟨w.heap.size+1+1+1+1,0,none⟩ (.nilIface)).drew.putObj D0 (.deferred none)) from (d_ (t_ (t_ (t_ (t_ (t_ HS.out.bel (by omega)) (by omega)) (by omega)) (by omega)) (by omega))).trans (belowK_b (w:=w) (Nat.le_refl _) _ D0 _ _ (by have:=HZS.out;have:=HD.out;omega) HKF.out rfl rfl))
  have kb:∀{b:Nat} {c:Array Value} {t:TypeId},Blk (((((W.setCell ⟨w.heap.size+1+1,0,none⟩ (.int .i64 T.rows)).setCell ⟨w.heap.size+1+1,1,none⟩ (.int .i64 T.cols)).setCell ⟨w.heap.size+1+1,2,none⟩ (.slice ta tn tk)).setCell ⟨w.heap.size+1+1+1,0,none⟩ (.slice (some ⟨w.heap.size+1+1+1+1+1,0,none⟩) N N)).setCell ⟨w.heap.size+1+1+1+1,0,none⟩ (.nilIface)).drew b c t→Blk ((((((W.setCell ⟨w.heap.size+1+1,0,none⟩ (.int .i64 T.rows)).setCell ⟨w.heap.size+1+1,1,none⟩ (.int .i64 T.cols)).setCell ⟨w.heap.size+1+1,2,none⟩ (.slice ta tn tk)).setCell ⟨w.heap.size+1+1+1,0,none⟩ (.slice (some ⟨w.heap.size+1+1+1+1+1,0,none⟩) N N)).setCell ⟨w.heap.size+1+1+1+1,0,none⟩ (.nilIface)).drew.putObj D0 (.deferred none)) b c t:=fun {b c t} hb=>Blk.own (β:=Unit) b c t () _ _ (some D0) hb (grownBy_putObj' _ D0 _) (fun r e=>by cases e;exact ⟨_,HKF.out,rfl⟩)
  have q2:Blk (((((W.setCell ⟨w.heap.size+1+1,0,none⟩ (.int .i64 T.rows)).setCell ⟨w.heap.size+1+1,1,none⟩ (.int .i64 T.cols)).setCell ⟨w.heap.size+1+1,2,none⟩ (.slice ta tn tk)).setCell ⟨w.heap.size+1+1+1,0,none⟩ (.slice (some ⟨w.heap.size+1+1+1+1+1,0,none⟩) N N)).setCell ⟨w.heap.size+1+1+1+1,0,none⟩ (.nilIface)).drew (w.heap.size+1+1) #[.int .i64 T.rows,.int .i64 T.cols,.slice ta tn tk] 28:=(((((HS.out.res.set 0 _).set 1 _).set 2 _).other (by omega) _).other (by omega) _).drew
  have q3:Blk (((((W.setCell ⟨w.heap.size+1+1,0,none⟩ (.int .i64 T.rows)).setCell ⟨w.heap.size+1+1,1,none⟩ (.int .i64 T.cols)).setCell ⟨w.heap.size+1+1,2,none⟩ (.slice ta tn tk)).setCell ⟨w.heap.size+1+1+1,0,none⟩ (.slice (some ⟨w.heap.size+1+1+1+1+1,0,none⟩) N N)).setCell ⟨w.heap.size+1+1+1+1,0,none⟩ (.nilIface)).drew (w.heap.size+1+1+1) #[.slice (some ⟨w.heap.size+1+1+1+1+1,0,none⟩) N N] 23:=(((((HS.out.rgd.other (by omega) _).other (by omega) _).other (by omega) _).set 0 _).other (by omega) _).drew
  have q4:Blk (((((W.setCell ⟨w.heap.size+1+1,0,none⟩ (.int .i64 T.rows)).setCell ⟨w.heap.size+1+1,1,none⟩ (.int .i64 T.cols)).setCell ⟨w.heap.size+1+1,2,none⟩ (.slice ta tn tk)).setCell ⟨w.heap.size+1+1+1,0,none⟩ (.slice (some ⟨w.heap.size+1+1+1+1+1,0,none⟩) N N)).setCell ⟨w.heap.size+1+1+1+1,0,none⟩ (.nilIface)).drew (w.heap.size+1+1+1+1) #[.nilIface] 38:=(((((HS.out.rer.other (by omega) _).other (by omega) _).other (by omega) _).other (by omega) _).set 0 _).drew
  have s0:=(kb q2).cell (j:=0) rfl
  have s1:=(kb q2).cell (j:=1) rfl
  have s2:=(kb q2).cell (j:=2) rfl
  have s3:=(kb q3).cell (j:=0) rfl
  have s4:=(kb q4).cell (j:=0) rfl
  clear kb q2 q3 q4 c0 c1 c2 c3 t0 t1 t2 t3 t4 f0 f1 f2 f3 f4 HSB
  obtain ⟨F,hF⟩:=gM ((((((W.setCell ⟨w.heap.size+1+1,0,none⟩ (.int .i64 T.rows)).setCell ⟨w.heap.size+1+1,1,none⟩ (.int .i64 T.cols)).setCell ⟨w.heap.size+1+1,2,none⟩ (.slice ta tn tk)).setCell ⟨w.heap.size+1+1+1,0,none⟩ (.slice (some ⟨w.heap.size+1+1+1+1+1,0,none⟩) N N)).setCell ⟨w.heap.size+1+1+1+1,0,none⟩ (.nilIface)).drew)
  rw[←hF]at HKF HFK HEN HBW s0 s1 s2 s3 s4 ⊢
  clear hF HKW
  gi_wp2
  refine ⟨by simp,.inl ⟨_,_,rfl,run_takeDeferred HKF.out,?_⟩⟩
  refine ⟨.tuple #[.agg #[.int .i64 T.rows,.int .i64 T.cols,.slice ta tn tk],.slice (some ⟨w.heap.size+1+1+1+1+1,0,none⟩) N N,.nilIface],by simp[results,Tryz.results18,go_sem,s0,s1,s2,s3,s4],?_⟩
  exact ⟨HBW.out,.inl ⟨T,_,D,_,HR.out.1,HR.out.2.1,HR.out.2.2,rfl,HEN.out⟩⟩
 case stop=>
  rintro D0 c0 pre W hD ⟨k,hk,hpre⟩ ⟨rfl,E,hE,hrel,h2,h3,h4,hB⟩ hK
  have HE:=h_ (And.intro hE (hrel k hk hpre))
  have HB:=h_ hB
  have HK:=h_ hK
  have HD:=h_ hD
  have kb:∀{b:Nat} {c:Array Value} {t:TypeId},Blk W b c t→Blk (W.putObj D0 (.deferred none)) b c t:=fun {b c t} hb=>Blk.own (β:=Unit) b c t () W _ (some D0) hb (grownBy_putObj' W D0 _) (fun r e=>by cases e;exact ⟨_,hK,rfl⟩)
  have t0:=(kb h2).cell (j:=0) rfl
  have t1:=(kb h2).cell (j:=1) rfl
  have t2:=(kb h2).cell (j:=2) rfl
  have t3:=(kb h3).cell (j:=0) rfl
  have t4:=(kb h4).cell (j:=0) rfl
  clear hE hrel h2 h3 h4 hB hK hD kb hpre hk
  gi_wp2
  refine ⟨by simp,.inl ⟨_,_,rfl,run_takeDeferred HK.out,?_⟩⟩
  refine ⟨.tuple #[.agg #[.int .i64 0,.int .i64 0,.slice none 0 0],.slice none 0 0,.iface 94 (.int .i64 E)],by simp[results,Tryz.results18,go_sem,t0,t1,t2,t3,t4],?_⟩
  exact ⟨HB.out.trans (belowK_b (w:=w) (Nat.le_refl _) _ D0 _ _ (by have:=HZS.out;have:=HD.out;omega) HK.out rfl rfl),.inr ⟨E,HE.out.1,HE.out.2,rfl⟩⟩
theorem netback_any(v vs vg:Value)(ls:List Ly)(ms:List Mx)(g:Mx)(w:World)(hv:Y_ w v ls)(hm:IsMxs w vs ms)(hg:M_ w vg g):
  Calls Tryz.prog 18 #[v,vs,vg] w fun e w'=>∃vx vd,e=.returned (.tuple #[vx,vd,errV (nbE ls ms g)])∧M_ w' vx (nbX ls ms g)∧D_ w' vd (nbD ls ms g)∧Below w.heap.size w w':=by
 obtain ⟨a,cap,rfl,hlc,hcm⟩:=hv.shape
 obtain ⟨sa,scap,rfl,_,_⟩:=hm.shape
 obtain ⟨sg,rfl,hsg⟩:=hg
 obtain ⟨za,zn,zk,rfl⟩:=hsg.shape
 by_cases h12:12<ls.length
 ·have hE:nbE ls ms g=3:=by unfold nbE;rw[if_pos h12]
  obtain ⟨n1,n2⟩:=nbX_no (ls:=ls) (ms:=ms) (g:=g) (by rw[hE];decide)
  refine (nback_full ls.length a cap sa ms.length scap za zn zk _ _ w (by omega) h12).mono ?_
  rintro e w' ⟨rfl,hb⟩
  exact ⟨_,_,by rw[hE,n_ (by decide)],by rw[n1];exact isMx_no _,by rw[n2];exact isGds_nil _,hb⟩
 ·by_cases hs:ms.length=ls.length+1
  ·by_cases h0:ls=[]
   ·subst h0
    have hE:nbE [] ms g=q_ g:=by unfold nbE;rw[if_neg h12,if_neg (by simp[hs]),if_pos rfl]
    have hX:nbX [] ms g=keepX g:=by unfold nbX keepX;rw[hE];rfl
    have hD:nbD [] ms g=[]:=by unfold nbD;split<;>rfl
    rw[hE,hX,hD]
    have h:=nback_none a cap sa scap za zn zk _ _ g rfl rfl w hsg
    rw[hs]
    refine h.mono ?_
    rintro e w' ⟨vx,rfl,h1,h2⟩
    exact ⟨_,_,rfl,h1,isGds_nil _,h2⟩
   ·have hl0:0<ls.length:=List.length_pos_iff.2 h0
    have hE:nbE ls ms g=bkE ls.reverse (ms.take ls.length).reverse g:=by unfold nbE;rw[if_neg h12,if_neg (by simp[hs]),if_neg h0]
    rw[hs]at hm ⊢
    refine (nback_main ls.length a cap sa scap za zn zk _ _ ls ms g rfl rfl w hl0 (by omega) hv rfl hm hs 0 w.heap.size (Nat.le_refl _) ⟨hsg,.inr (fun b _ q=>by omega)⟩).mono ?_
    rintro e w' ⟨hb,⟨T,ts,D,vd,e1,e2,e3,rfl,h12⟩|⟨E,h1,h2,rfl⟩⟩
    ·obtain ⟨h1,h2⟩:=h12.now
     have hX:nbX ls ms g=T:=by unfold nbX;rw[if_pos (hE.trans e1),e2]
     have hD:nbD ls ms g=D:=by unfold nbD;rw[if_pos (hE.trans e1),e3]
     exact ⟨_,_,by rw[hE,e1,e_ rfl],by rw[hX];exact ⟨_,rfl,h1⟩,by rw[hD];exact h2,hb⟩
    ·obtain ⟨n1,n2⟩:=nbX_no (ls:=ls) (ms:=ms) (g:=g) (by rw[hE,h2];exact h1)
     exact ⟨_,_,by rw[hE,h2,n_ h1],by rw[n1];exact isMx_no _,by rw[n2];exact isGds_nil _,hb⟩
  ·have hE:nbE ls ms g=2:=by unfold nbE;rw[if_neg h12,if_pos hs]
   obtain ⟨n1,n2⟩:=nbX_no (ls:=ls) (ms:=ms) (g:=g) (by rw[hE];decide)
   refine (nback_shape ls.length a cap sa ms.length scap za zn zk _ _ w (by omega) h12 hs).mono ?_
   rintro e w' ⟨rfl,hb⟩
   exact ⟨_,_,by rw[hE,n_ (by decide)],by rw[n1];exact isMx_no _,by rw[n2];exact isGds_nil _,hb⟩
theorem netback_hold(v vs:Value)(za:Option Addr)(zn zk:Nat)(ls:List Ly)(ms:List Mx)(g:Mx)(w:World)(hv:Y_ w v ls)(hm:IsMxs w vs ms)(tp lo:Nat)(hlo:lo≤w.heap.size)(hg:P_ w (fun b=>(b<tp∨lo≤b)∧b<w.heap.size) (.inr g.cells) (.slice za zn zk))(h0:ls≠[])(hE:nbE ls ms g=0):
  Calls Tryz.prog 18 #[v,vs,.agg #[.int .i64 g.rows,.int .i64 g.cols,.slice za zn zk]] w fun e w'=>∃ts vd,e=.returned (.tuple #[.agg #[.int .i64 (nbX ls ms g).rows,.int .i64 (nbX ls ms g).cols,ts],vd,.nilIface])∧Hold (fun b=>(b<tp∨lo≤b)∧b<w.heap.size) w' (fun X=>I_ X ts (nbX ls ms g).cells∧D_ X vd (nbD ls ms g))∧Below w.heap.size w w':=by
 obtain ⟨a,cap,rfl,hlc,hcm⟩:=hv.shape
 obtain ⟨sa,scap,rfl,_,_⟩:=hm.shape
 have h12:¬12<ls.length:=fun q=>by unfold nbE at hE;rw[if_pos q]at hE;cases hE
 have hs:ms.length=ls.length+1:=by
  unfold nbE at hE
  rw[if_neg h12]at hE
  by_cases q:ms.length=ls.length+1
  ·exact q
  ·rw[if_pos q]at hE;cases hE
 have hl0:0<ls.length:=List.length_pos_iff.2 h0
 have hE2:nbE ls ms g=bkE ls.reverse (ms.take ls.length).reverse g:=by unfold nbE;rw[if_neg h12,if_neg (by simp[hs]),if_neg h0]
 have hX:nbX ls ms g=bkX ls.reverse (ms.take ls.length).reverse g:=by unfold nbX;rw[if_pos hE]
 have hD:nbD ls ms g=bkD ls.reverse (ms.take ls.length).reverse g:=by unfold nbD;rw[if_pos hE]
 rw[hs]at hm ⊢
 refine (nback_main ls.length a cap sa scap za zn zk _ _ ls ms g rfl rfl w hl0 (by omega) hv rfl hm hs tp lo hlo hg).mono ?_
 rintro e w' ⟨hb,⟨T,ts,D,vd,e1,e2,e3,rfl,h12⟩|⟨E,h1,h2,rfl⟩⟩
 ·rw[hX,hD,e2,e3]
  exact ⟨ts,vd,rfl,h12,hb⟩
 ·exact absurd (h2.symm.trans (hE2.symm.trans hE)) h1
end Go.Proofs.YtniloklglpchfakGreat
