/- A round: its way from the call up to where the ring is started. -/
import Derived.Test.YtniloklglpchfaiPkRgS
import Derived.Test.YtniloklglpchfaiPkRgI
import Derived.ArgAppend
namespace Go.Proofs.Ytniloklglpchfai
open Go Go.RowKit Go.Conc
def Rng.kC (y:Rng) (Wb:Nat) (k0:Nat→Prop):Nat→Prop:=fun B=>y.kM Wb k0 0 B∨∃j,j<y.c∧B=y.C j
def Rng.oC (y:Rng):Nat→Prop:=fun B=>y.oM 0 B∨∃j,j<y.c∧B=y.C j
section
variable {y:Rng} {Wb:Nat} {k0:Nat→Prop} {W W':World}
theorem Manned.here(h:Manned y Wb k0 W):Here W (y.kC Wb k0) y.oC:=by
 refine ⟨fun B q=>?_,fun B q=>q.imp (fun q=>.inr (.inr (.inr q))) id⟩
 rcases q with q|⟨j,hj,rfl⟩
 ·exact h.mn.here.knl B q
 ·exact lt_of_some (h.chan j hj)
theorem Manned.keep(h:Manned y Wb k0 W)(hs:W.heap.size≤W'.heap.size)(hk:∀B,y.kC Wb k0 B→W'.heap[B]?=W.heap[B]?):Manned y Wb k0 W':=
 ⟨h.mn.keep h.ap hs fun B q=>hk B (.inl q),h.ap,h.ok,fun j hj=>(hk _ (.inr ⟨j,hj,rfl⟩)).trans (h.chan j hj),h.cne⟩
theorem Manned.ext(h:Manned y Wb k0 W){kn:Nat→Prop}(hx:Ext kn W W')(hk:∀B,y.kC Wb k0 B→kn B):Manned y Wb k0 W':=h.keep hx.size fun B q=>hx.keep B (hk B q) (h.here.knl B q)
end
set_option linter.unusedSimpArgs false in
set_option linter.unusedVariables false in
set_option maxRecDepth 100000 in
set_option maxHeartbeats 8000000 in
theorem round_path{Goal2:Stand}{W:World}{Pb po cap c n:Nat}{us:Nat→Value}{O:Nat→Option Nat}{ps:Nat→List Int}{k0:Nat→Prop}(hPt:Parts W Pb po c n us O ps)(hk:∀B,kP Pb c O B→k0 B)(hK:Lies W k0)(hc1:1≤c)(hc6:c≤6)(hn:n≤60){kn ow:Nat→Prop}(hl:∀B,kn B→B<W.heap.size)(how:∀B,ow B→kn B)(hkn:∀B,k0 B→kn B){c0:Frame}{cs:List Frame}
  (hbeh:∀(y:Rng) (Wb:Nat) (U:Code),IsU U→y.Ok→y.Apart Wb k0→y.c=c→y.n=n→y.ps=ps→y.X=StillB W→∀a f ops W2,Slots a 40 f→f 3=wslV Wb y.c→y.Mn Wb k0 W2 y.c→y.Sums W2→∃n ρ,Path (mkE Try.prog rgF rgF) Goal2 n ρ (G (bRound.at a [.inRegion ops [],.code U]) (c0::cs)) W2 (y.kE Wb k0) (y.oM 0)):
  ∃ρ,Path (mkE Try.prog rgF rgF) (StartG (mkE Try.prog rgF rgF) Goal2) 40 ρ (G (Frame.enter Try.prog 9 #[.slice (some ⟨Pb,po,none⟩) c cap] .normal) (c0::cs)) W kn ow:=by
 have hP:(mkE Try.prog rgF rgF).P=Try.prog:=rfl
 have hke:bRound.kind≠.early:=by decide
 have hH:Here W kn ow:=⟨hl,how⟩
 obtain ⟨T,hT⟩:∃T,IsT T:=⟨_,rfl⟩
 obtain ⟨U,hU⟩:∃U,IsU U:=⟨_,T,hT,rfl⟩
 have hT':=hT
 unfold IsT at hT'
 simp only[Try.f9,Option.getD_some,sndC]at hT'
 refine path_begin (m:=40) Try.func9 rfl rfl (by simp) fun a hs=>?_
 refine path_seq hH ?_
 refine path_region hH rfl ?_
 refine path_slot hH hs (.slice none 0 0) rfl rfl (by decide) (fun _=>rfl) hke (fun a W' h=>by clear h;rw[hP];go_simp<;>omega) (fun a W' h e he=>by have hm:=mem_listed he;clear h;rw[hP]at hm;simp[go_sem,Act.eval,-Array.getD_eq_getD_getElem?]at hm) fun a hs'=>?_
 replace hs:=hs'
 clear hs'
 refine path_region_end hH ?_
 refine path_seq hH ?_
 refine path_region hH rfl ?_
 refine path_slot hH hs (.slice (some ⟨Pb,po,none⟩) c cap) rfl rfl (by decide) (fun _=>rfl) hke (fun a W' h=>by have e0:a.tmps.getD 0 undef=.slice (some ⟨Pb,po,none⟩) c cap:=(h 0).trans (by simp[upF,slot0]);clear h;rw[hP];go_simp<;>omega) (fun a W' h e he=>by have hm:=mem_listed he;have e0:a.tmps.getD 0 undef=.slice (some ⟨Pb,po,none⟩) c cap:=(h 0).trans (by simp[upF,slot0]);clear h;rw[hP]at hm;simp[go_sem,Act.eval,e0,-Array.getD_eq_getD_getElem?]at hm) fun a hs'=>?_
 replace hs:=hs'
 clear hs'
 refine path_call rg_env hl hkn (fun B q=>q.elim) (hK.geo hPt.g0) hK.rdy hs #[.slice (some ⟨Pb,po,none⟩) c cap] rfl rfl (by decide) (fun _=>rfl) hke rfl (by decide) Try.func13 rfl rfl (fun a h=>?_) (fun v hv=>?_) (R:=fun v w=>v=.slice (some ⟨W.heap.size+c+1,0,none⟩) c c∧ManM W.heap.size c n us c w∧∃w0,Alone W k0 noP noP w0∧Below W.heap.size w0 w) (fun w0 h0=>?_) fun r V W1 w v hO hv hR a hs'=>?_
 ·have e0:=(h 10).trans (show _=.slice (some ⟨Pb,po,none⟩) c cap by simp[upF,slot0])
  simp[Act.eval,e0,-Array.getD_eq_getD_getElem?]
 ·simp only[List.mem_toArray,List.mem_cons,List.not_mem_nil,or_false]at hv
  subst hv
  intro a ha
  cases ha
  exact ⟨hk _ (.inl rfl),rfl⟩
 ·obtain ⟨pc,pe,pz,hp1,hp2,hp3⟩:=hPt.row
  have hz:=h0.size
  refine (manned_any Pb po cap c n us w0 (fun i hi=>h0.cell (by rw[Joins.cell_of_block hp1];exact hp3 i hi) ((hPt.kv hi (ch:=noP)).mono hk (fun _=>id))) (fun i hi=>hPt.sl hi) hc1 hc6 hn).mono ?_
  rintro e w' ⟨rfl,q1,q2⟩
  rw[hz]at q1 q2 ⊢
  exact ⟨_,rfl,rfl,q1,w0,h0,q2⟩
 obtain ⟨rfl,hM,w0,h0,hb⟩:=hR
 obtain ⟨Wb,hWb⟩:=gM (r (W.heap.size+c+1))
 have hMan:=fun Wg=>(manned_over hO hPt hk hK h0 hM hb hc1 hc6 hn Wg).2
 rw[←hWb]at hMan
 replace hs:=hs'
 clear hs'
 have ev:rnV r (.slice (some ⟨W.heap.size+c+1,0,none⟩) c c)=wslV Wb c:=by rw[hWb];simp[rnS_at,rnV,rnA]
 rw[ev]at hs
 have hnew:∀b,W.heap.size≤b→b<w.heap.size→∀f,knB W W1 f r (r b):=fun b h1 h2 f=>⟨hO.low h2,b,.inl h1,rfl⟩
 have hsz:=hM.size
 have hkC:∀B,(rngOf r W.heap.size c n 0 us O ps (StillB W)).kC Wb k0 B→knB W W1 k0 r B:=fun B q=>by
  rcases q with (q|q|⟨j,hj,q⟩|⟨j,-,hj,q⟩)|⟨j,hj,q⟩
  ·exact hO.known q (hK.lt q) (by have:=hK.lt q;omega)
  ·rw[q,hWb];exact hnew _ (by omega) (by omega) _
  ·have hj:j<c:=hj
   rw[q];exact hnew _ (by omega) (by omega) _
  ·have hj:j<c:=hj
   rw[q];exact hnew _ (by omega) (by omega) _
  ·have hj:j<c:=hj
   rw[q];exact hnew _ (by omega) (by omega) _
 have hoC:∀B,(rngOf r W.heap.size c n 0 us O ps (StillB W)).oC B→knB W W1 noP r B:=fun B q=>by
  rcases q with ⟨j,-,hj,q⟩|⟨j,hj,q⟩
  ·have hj:j<c:=hj
   rw[q];exact hnew _ (by omega) (by omega) _
  ·have hj:j<c:=hj
   rw[q];exact hnew _ (by omega) (by omega) _
 have hH1:=(hMan 0).here
 refine path_slot_less (fun B q=>q.1) hkC hoC hH1.owk hs (wslV Wb c) rfl rfl (by decide) (fun _=>rfl) hke (fun a W' h=>by have e0:a.tmps.getD 11 undef=wslV Wb c:=(h 11).trans (by simp[upF,slot0]);clear h;rw[hP];go_simp<;>omega) (fun a W' h e he=>by have hm:=mem_listed he;have e0:a.tmps.getD 11 undef=wslV Wb c:=(h 11).trans (by simp[upF,slot0]);clear h;rw[hP]at hm;simp[go_sem,Act.eval,e0,-Array.getD_eq_getD_getElem?]at hm) fun a hs'=>?_
 replace hs:=hs'
 clear hs'
 replace hH:=hH1
 refine path_region_end hH ?_
 refine path_seq hH ?_
 refine path_region hH rfl ?_
 refine path_slot_make hH hs (fun B=>.pointer (some ⟨B,0,none⟩)) (ConcR.wgBlock wgL.tWg 0 0) rfl rfl (by decide) (fun _=>rfl) hke (fun a W' h hx=>by clear h;rw[hP];unfold ConcR.wgBlock;go_simp) (fun a W' h e he=>by have hm:=mem_listed he;clear h;rw[hP]at hm;simp[go_sem,Act.eval,-Array.getD_eq_getD_getElem?]at hm) fun W2 a hx2 hs'=>?_
 replace hs:=hs'
 clear hs'
 obtain ⟨Wg,hWg⟩:=gM (W2.heap.size)
 have M2:=(hMan Wg).ext hx2 fun _ q=>q
 have hlow:=M2.here.knl
 have hne:∀B,(rngOf r W.heap.size c n Wg us O ps (StillB W)).kC Wb k0 B→B≠Wg:=fun B q=>by have:=hlow B q;omega
 have M3:Manned (rngOf r W.heap.size c n Wg us O ps (StillB W)) Wb k0 (W2.alloc (ConcR.wgBlock wgL.tWg 0 0)):=M2.keep (by simp) fun B q=>heap_alloc_old _ _ (hlow B q)
 have hg3:(W2.alloc (ConcR.wgBlock wgL.tWg 0 0)).heap[Wg]?=some (ConcR.wgBlock wgL.tWg 0 0):=by rw[hWg];exact heap_alloc_new _ _
 rw[←hWg]at hs ⊢
 generalize W2.alloc (ConcR.wgBlock wgL.tWg 0 0)=W3 at M3 hg3 ⊢
 have hH3:Here W3 (orP ((rngOf r W.heap.size c n 0 us O ps (StillB W)).kC Wb k0) (fun B=>B=Wg)) (orP (rngOf r W.heap.size c n 0 us O ps (StillB W)).oC (fun B=>B=Wg)):=⟨fun B q=>q.elim (M3.here.knl B) (fun q=>by rw[q];exact lt_of_some hg3),fun B q=>q.imp (hH1.owk B) id⟩
 refine path_region_end hH3 ?_
 refine ⟨fun _=>0,Path.done fun W4 hx4=>?_⟩
 have M4:=M3.ext hx4 fun _ q=>.inl q
 have hg4:W4.heap[Wg]?=some (ConcR.wgBlock wgL.tWg 0 0):=(hx4.keep Wg (.inr rfl) (lt_of_some hg3)).trans hg3
 rw[←hT']
 refine round_starts M4.ok M4.ap hT hU (fun a f ops W2=>hbeh _ Wb U hU M4.ok M4.ap rfl rfl rfl rfl a f ops W2) hs (by simp[upF];rfl) (by simp[upF];rfl) M4.mn (fun j hj=>⟨.inl (.inr ⟨j,hj,rfl⟩),M4.chan j hj,hne _ (.inr ⟨j,hj,rfl⟩)⟩) (.inr rfl) hg4 (fun B q=>⟨.inl (.inl q),fun j hj=>M4.cne j hj B q,hne _ (.inl q)⟩) (fun B q=>.inl (.inl q))
theorem check_alone{W w0:World}{Pb po cap c n:Nat}{us:Nat→Value}{O:Nat→Option Nat}{ps:Nat→List Int}{k0:Nat→Prop}(hPt:Parts W Pb po c n us O ps)(hk:∀B,kP Pb c O B→k0 B)(h0:Alone W k0 noP noP w0)(hc1:1≤c)(hc6:c≤6)(hn:n≤60)(hB:∀i,i<c→∀x,x∈ps i→-2147483647≤x∧x≤2147483647):
  Calls Try.prog 8 #[.slice (some ⟨Pb,po,none⟩) c cap] w0 fun e w'=>e=.returned .nilIface∧w'=w0:=by
 obtain ⟨pc,pe,pz,hp1,hp2,hp3⟩:=hPt.row
 refine rcheck_any Pb po cap c n us ps w0 hc1 hc6 hn (fun i hi=>h0.cell (by rw[Joins.cell_of_block hp1];exact hp3 i hi) ((hPt.kv hi (ch:=noP)).mono hk (fun _=>id))) (fun i hi=>?_) hPt.len hB
 have hl:=hPt.len i hi
 rcases hPt.own i hi with ⟨-,q,q2⟩|⟨B',off,cp,cs,e',z,q1,q2,q3,q4,q5,q6,q7,q8⟩
 ·rw[q,q2]
  exact I_.nil w0
 ·refine ⟨some ⟨B',off,none⟩,cp,by rw[q2,hl],by omega,q4,.inr ⟨B',off,rfl,fun j y hj=>h0.cell ?_ trivial⟩⟩
  rw[Joins.cell_of_block q5]
  exact q8 j y hj
section
variable {Goal:Stand} {n':Nat} {b:Frame} {a:Act} {f:Nat→Value} {m:Nat} {k:List Item} {cs:List Frame} {W:World} {kn ow:Nat→Prop}
set_option maxRecDepth 100000 in
theorem path_check{Pb po cap c n:Nat}{us:Nat→Value}{O:Nat→Option Nat}{ps:Nat→List Int}{k0:Nat→Prop}(hPt:Parts W Pb po c n us O ps)(hk:∀B,kP Pb c O B→k0 B)(hK:Lies W k0)(hc1:1≤c)(hc6:c≤6)(hn:n≤60)(hB:∀i,i<c→∀x,x∈ps i→-2147483647≤x∧x≤2147483647)
  (hl:∀B,kn B→B<W.heap.size) (hkn:∀B,k0 B→kn B) (hs:Slots a m f) {ops:Array Oper} {i d p:Nat} {rest:List Nat} {o:Oper} {ats:Array TypeId} (ho:ops[i]?=some o) (hdst:o.dst=some d) (hd:d<m) (hw:∀t,Region.wanted o (yielded ops t)=true) (hke:b.kind≠.early) (hop:o.op=.call { callee:=.value (.func 8),args:=#[.tmp p],argTypes:=ats }) (ep:f p=.slice (some ⟨Pb,po,none⟩) c cap)
  (hp:∀W' kn2 ow2,Parts W' Pb po c n us O ps→Lies W' k0→(∀B,k0 B→StillB W B W'.heap[B]?)→W.heap.size≤W'.heap.size→(∀B,k0 B→kn2 B)→(∀B,ow2 B→kn2 B)→(∀B,kn2 B→B<W'.heap.size)→∀a',Slots a' m (upF f d .nilIface)→∃ρ',Path (mkE Try.prog rgF rgF) Goal n' ρ' (G (b.at a' (.inRegion ops rest::k)) cs) W' kn2 ow2):
  ∃ρ,Path (mkE Try.prog rgF rgF) Goal (n'+2) ρ (G (b.at a (.inRegion ops (i::rest)::k)) cs) W kn ow:=by
 refine path_call rg_env hl hkn (fun B q=>q.elim) (hK.geo hPt.g0) hK.rdy hs #[.slice (some ⟨Pb,po,none⟩) c cap] ho hdst hd hw hke hop (by decide) Try.func8 rfl rfl (fun a h=>?_) (fun v hv=>?_) (R:=fun v w=>v=.nilIface∧Alone W k0 noP noP w) (fun w0 h0=>?_) fun r V W1 w v hO hv hR a hs'=>?_
 ·have e0:=(h p).trans ep
  simp[Act.eval,e0,-Array.getD_eq_getD_getElem?]
 ·simp only[List.mem_toArray,List.mem_cons,List.not_mem_nil,or_false]at hv
  subst hv
  intro a ha
  cases ha
  exact ⟨hk _ (.inl rfl),rfl⟩
 ·refine (check_alone hPt hk h0 hc1 hc6 hn hB).mono ?_
  rintro e w' ⟨rfl,rfl⟩
  exact ⟨_,rfl,rfl,h0⟩
 ·obtain ⟨rfl,h0⟩:=hR
  have hsz:=h0.size
  have hgr:=hO.grew (by omega)
  have hold:∀B,k0 B→HoldB False W W1 B:=fun B hB=>hO.hold (hK.geo hPt.g0) h0 hB (fun q=>q.elim) rfl
  refine hp W1 _ _ (hPt.hold hgr fun B q=>hold B (hk B q)) (fun B hB=>?_) (fun B hB=>?_) hgr (fun B q=>hO.known q (hK.lt q) (by have:=hK.lt q;omega)) (fun B q=>?_) (fun B q=>q.1) a ?_
  ·obtain ⟨a,e,z,h1,h2,h3⟩:=hK B hB
   obtain ⟨z',g1,-,g2⟩:=hold B hB a e z h1
   exact ⟨a,e,z',g1,g2 id,h3⟩
  ·obtain ⟨a,e,z,h1,h2,h3⟩:=hK B hB
   obtain ⟨z',g1,-,g2⟩:=hold B hB a e z h1
   exact ⟨a,e,z,z',h1,g1,g2 id⟩
  ·obtain ⟨q1,b,q2,q3⟩:=q
   exact ⟨q1,b,q2.imp id (fun q=>q.elim),q3⟩
  ·have e:rnV r Value.nilIface=.nilIface:=by simp[rnV]
   rw[e]at hs'
   exact hs'
end
theorem infoRow:((Try.prog).info? 27).map (fun i=>(i.zero,i.size,i.bytes))=some (some (.slice none 0 0),1,24):=by kernel_rfl
section
variable {Goal:Stand} {n m:Nat} {b:Frame} {a:Act} {k:List Item} {cs:List Frame} {W:World} {kn ow:Nat→Prop} {f:Nat→Value}
set_option maxHeartbeats 4000000 in
theorem path_app(hH:Here W kn ow)(hg0:G0≤W.heap.size)(hs:Slots a m f){ops:Array Oper}{i d p q:Nat}{rest:List Nat}{o:Oper}(ho:ops[i]?=some o)(hdst:o.dst=some d)(hd:d<m)(hw:∀t,Region.wanted o (yielded ops t)=true)(hk:b.kind≠.early)(hop:o.op=.call { callee:=.builtin .append,args:=#[.tmp p,.tmp q],argTypes:=#[22,22] })
  {Zb Ob j cap oc:Nat} {zs:Array Value} {ze oe:TypeId} {v:Value} {zz oz:Nat×Nat} (e1:f p=.slice (some ⟨Zb,0,none⟩) j cap) (e2:f q=.slice (some ⟨Ob,0,none⟩) 1 oc) (hj:j<cap) (hcap:zs.size=cap) (hv1:v.oneCell'=true) (hzO:ow Zb) (hZk:kn Ob) (hne:Zb≠Ob) (hgZ:G0≤Zb) (hgO:G0≤Ob)
  (hZ:W.heap[Zb]?=some (.cells zs ze zz)) (hzz:zz.2≤zz.1) (hO:W.heap[Ob]?=some (.cells #[v] oe oz)) (_hoz:oz.2≤oz.1)
  {kt:Nat→Prop} (hkt:∀B,kt B→kn B∧G0≤B∧B≠Zb∧∃a e z,W.heap[B]?=some (.cells a e z)∧∀i,z.1≤i→i<z.2→0≤i) (hzv:∀u∈zs,KV kt noP u) (hvv:KV kt noP v)
  (hex:∀w x w1,(Builtin.append_ #[22,22] o.type #[.slice (some ⟨Zb,0,none⟩) j cap,.slice (some ⟨Ob,0,none⟩) 1 oc]).run Try.prog w=.ok x w1→(execOp a.eval o).run Try.prog w=.ok (.value x) w1)
  (hp:∀V V',Ext kn W V→V.heap.size≤V'.heap.size→(∀B,B<V.heap.size→B≠Zb→V'.heap[B]?=V.heap[B]?)→(∃z1:Nat×Nat,z1.2≤z1.1∧V'.heap[Zb]?=some (.cells (zs.setIfInBounds j v) ze z1))→∀a',Slots a' m (upF f d (.slice (some ⟨Zb,0,none⟩) (j+1) cap))→∃ρ,Path (mkE Try.prog rgF rgF) Goal n ρ (G (b.at a' (.inRegion ops rest::k)) cs) V' kn ow):
  ∃ρ,Path (mkE Try.prog rgF rgF) Goal (n+1) ρ (G (b.at a (.inRegion ops (i::rest)::k)) cs) W kn ow:=by
 obtain ⟨K0,hK0⟩:∃K0:Nat→Prop,K0=fun B=>B=Zb∨B=Ob∨kt B:=⟨_,rfl⟩
 have hK:∀B,K0 B→kn B:=fun B q=>by
  rw[hK0]at q
  rcases q with rfl|rfl|q
  ·exact hH.owk _ hzO
  ·exact hZk
  ·exact (hkt B q).1
 have hkK:∀{u},KV kt noP u→KV K0 noP u:=fun h=>h.mono (fun B q=>by rw[hK0];exact .inr (.inr q)) (fun _=>id)
 have hkeep:∀{V},Ext kn W V→∀B,K0 B→V.heap[B]?=W.heap[B]?:=fun hx B q=>hx.keep B (hK B q) (hH.knl B (hK B q))
 have hp1:a.eval (.tmp p)=.slice (some ⟨Zb,0,none⟩) j cap:=(hs.at_ p).trans e1
 have hq1:a.eval (.tmp q)=.slice (some ⟨Ob,0,none⟩) 1 oc:=(hs.at_ q).trans e2
 have hZ0:K0 Zb:=by rw[hK0];exact .inl rfl
 have hO0:K0 Ob:=by rw[hK0];exact .inr (.inl rfl)
 obtain ⟨i0,hi0,-,hsz,-⟩:=info_parts infoRow
 refine path_oper_in (ch:=noP) (k0:=K0) (o0:=fun B=>B=Zb) rg_env hK (fun B q=>by rw[q];exact hzO) (fun V hx=>⟨⟨Nat.le_trans hg0 hx.size,fun B q=>?_,fun B q=>Nat.lt_of_lt_of_le (hH.knl B (hK B q)) hx.size,fun B q=>by rw[q];exact hZ0,fun B q=>q.elim⟩,Rdy.of fun B q=>?_⟩) ho (hw _) hk ?_ (fun x hx=>?_)
  (R:=fun V u w1=>u=.slice (some ⟨Zb,0,none⟩) (j+1) cap∧∃w0:World,w0.heap[Zb]?=some (.cells zs ze zz)∧w1=w0.setCell ⟨Zb,j,none⟩ v) (fun V w0 hx h0=>?_) fun V V' u w1 hx hR hov hs1 hout hle=>?_
 ·rw[hK0]at q
  rcases q with rfl|rfl|q
  ·exact hgZ
  ·exact hgO
  ·exact (hkt B q).2.1
 ·rw[hkeep hx B q]
  rw[hK0]at q
  rcases q with rfl|rfl|q
  ·exact ⟨zs,ze,zz,hZ,.inl ⟨rfl,fun u hu=>hkK (hzv u hu)⟩⟩
  ·exact ⟨_,oe,oz,hO,.inr ⟨fun e=>hne e.symm,fun i q1 q2=>by omega⟩⟩
  ·obtain ⟨a,e,z,h1,h2⟩:=(hkt B q).2.2.2
   exact ⟨a,e,z,h1,.inr ⟨(hkt B q).2.2.1,h2⟩⟩
 ·rw[hop]
  kernel_rfl
 ·rw[hop]at hx
  have hx:x=.tmp p∨x=.tmp q:=by simpa [Op.operands,Call.operands] using hx
  rcases hx with rfl|rfl
  ·rw[hp1];intro x hx;cases hx;exact ⟨hZ0,rfl⟩
  ·rw[hq1];intro x hx;cases hx;exact ⟨hO0,rfl⟩
 ·have hz0:w0.heap[Zb]?=some (.cells zs ze zz):=by rw[h0.own rfl,hkeep hx Zb hZ0];exact hZ
  have hc:w0.cell? ⟨Ob,0,none⟩=some v:=h0.cell (by rw[Joins.cell_of_block ((hkeep hx Ob hO0).trans hO)];rfl) (hkK hvv)
  refine ⟨.value (.slice (some ⟨Zb,0,none⟩) (j+1) cap),_,_,?_,.inl rfl,rfl,w0,hz0,rfl⟩
  have hr:=run_append_room_cells (P:=Try.prog) w0 22 o.type 27 i0 Try.underlying22 hi0 Zb 0 j cap ⟨Ob,0,none⟩ 1 oc [v] (by simp[hsz]) (fun x u hx=>by
   cases x with
   |zero=>simp at hx;subst hx;rw[Addr.add_lit];exact hc
   |succ x=>simp at hx) (fun u hu=>by simp at hu;rw[hu];exact hv1) (by omega) (fun x hx=>by
   simp at hx;subst hx
   rw[Joins.cell_of_block hz0,hsz]
   simp
   omega) (fun x hx=>by
   simp[World.frozen?,hz0];omega)
  have he:w0.setCells Zb (0+j*i0.size) [v]=w0.setCell ⟨Zb,j,none⟩ v:=by rw[hsz];simp[World.setCells]
  rw[he]at hr
  exact hex _ _ _ hr
 ·obtain ⟨rfl,w0,q1,rfl⟩:=hR
  have hb:(w0.setCell ⟨Zb,j,none⟩ v).heap[Zb]?=some (.cells (zs.setIfInBounds j v) ze zz):=Joins.block_setCell (i:=j) q1 v
  obtain ⟨z',g1,g2⟩:=hov.block (.inr hZ0) hb
  refine ⟨kn,ow,fun B q=>.inl q,fun B q=>?_,fun B q=>.inl q,hH.owk,?_⟩
  ·have:=hH.knl B q;have:=hx.size;omega
  ·have e:rnV id (.slice (some ⟨Zb,0,none⟩) (j+1) cap)=.slice (some ⟨Zb,0,none⟩) (j+1) cap:=by simp[rnV,rnS_at]
   rw[e,hdst]
   refine hp V V' hx hle (fun B h1 h2=>hout B h1 h2) ⟨z',rng_empty g2 hzz,?_⟩ _ (hs.put hd _)
   have hr:=KV.rns (kn:=K0) (ch:=noP) (x:=zs.setIfInBounds j v) fun u hu=>?_
   ·rw[hr]at g1
    exact g1
   ·rcases Array.mem_or_eq_of_mem_setIfInBounds hu with q|q
    ·exact hkK (hzv u q)
    ·rw[q];exact hkK hvv
end
end Go.Proofs.Ytniloklglpchfai
