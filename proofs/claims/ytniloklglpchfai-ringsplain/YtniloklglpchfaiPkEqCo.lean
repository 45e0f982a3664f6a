/- Ways in company: a piece of a frame's code is walked alone, whoever has called or nobody. No program in sight. -/
import Derived.Test.YtniloklglpchfaiPkRgAB
import Derived.Test.YtniloklglpchfaiPkRgI
import Derived.Test.YtniloklglpchfaiPkRgH
namespace Go.Proofs.Ytniloklglpchfai
open Go Go.Conc
def Cx.kto (c:Cx) (k:List Item):Cx:={ c with kt:=k }
theorem okV_kto{c:Cx}{k:List Item}:∀v,okV c v→okV (c.kto k) v
 |.pointer a,h=>by simp only[okV]at h ⊢;exact h
 |.slice a _ _,h=>by simp only[okV]at h ⊢;exact h
 |.map m,h=>by simp only[okV]at h ⊢;exact h
 |.chan m,h=>by simp only[okV]at h ⊢;exact h
 |.func fn a b,h=>by
  simp only[okV]at h ⊢
  exact h.imp (fun h=>⟨h.1,h.2.1,fun x hx=>okV_kto x (h.2.2.1 x hx),fun x hx=>okV_kto x (h.2.2.2 x hx)⟩) id
 |.iface t v,h=>by
  simp only[okV]at h ⊢
  exact okV_kto v h
 |.agg d,h=>by
  simp only[okV]at h ⊢
  exact fun x hx=>okV_kto x (h x hx)
 |.tuple d,h=>by
  simp only[okV]at h ⊢
  exact fun x hx=>okV_kto x (h x hx)
 |.float _ _,h=>by simp[okV]at h
 |.complex _ _ _,h=>by simp[okV]at h
 |.bool _,_=>by simp[okV]
 |.int _ _,_=>by simp[okV]
 |.string _,_=>by simp[okV]
 |.nilFunc,_=>by simp[okV]
 |.nilIface,_=>by simp[okV]
theorem okVs_kto{c:Cx}{k:List Item}{x:Array Value}(h:okVs c x):okVs (c.kto k) x:=fun v hv=>okV_kto v (h v hv)
theorem ObR.kto{c:Cx}{k:List Item}{b:Nat}{p:Obj}{O:Option Obj}(h:ObR c b p O):ObR (c.kto k) b p O:=by
 cases p with
 |cells a e z=>exact ⟨h.1,okVs_kto h.2.1,h.2.2⟩
 |loop q=>exact ⟨h.1,okVs_kto h.2.1,h.2.2⟩
 |deferred d=>exact h
 |number a x=>exact h
 |map es k=>exact ⟨h.1,fun e he=>⟨okV_kto _ (h.2.1 e he).1,okV_kto _ (h.2.1 e he).2⟩,h.2.2⟩
 |chan n bf cl s q tm=>exact ⟨h.1,okVs_kto h.2.1,h.2.2⟩
 |_=>exact h.elim
theorem Rl.kto{c:Cx}{k:List Item}{w W:World}(h:Rl c w W):Rl (c.kto k) w W:=⟨h.inj,h.top,h.new,h.down,fun b o hb ho=>(h.blk b o hb ho).kto,h.out,h.rest⟩
def SV (kn:Nat→Prop):Value→Prop
 |.tuple d=>∀v∈d,KV kn noP v
 |v=>KV kn noP v
theorem SV.plain{kn:Nat→Prop}{v:Value}(hn:∀d,v≠.tuple d)(h:SV kn v):KV kn noP v:=by
 cases v with
 |tuple d=>exact absurd rfl (hn d)
 |_=>exact h
theorem SV.ok{E:Env}{W:World}{kn ow:Nat→Prop}{N:Nat}(hl:∀B,kn B→B<N){v:Value}(h:SV kn v):okV ((pcx E W kn ow noP).bnd N) v∧rnV id v=v:=by
 cases v with
 |tuple d=>
  refine ⟨?_,?_⟩
  ·simp only[okV]
   exact fun x hx=>KV.ok hl (h x hx)
  ·simp only[rnV]
   congr 1
   exact KV.rns h
 |_=>exact ⟨KV.ok hl (h.plain (fun d e=>by cases e)),(h.plain (fun d e=>by cases e)).rn⟩
theorem KV.sv{kn:Nat→Prop}{v:Value}(h:KV kn noP v):SV kn v:=by
 cases v with
 |tuple d=>exact h.elim
 |_=>exact h
theorem Slots.list{a:Act}{m:Nat}{f:Nat→Value}(h:Slots a m f):a=⟨((List.range m).map f).toArray,[]⟩:=by
 obtain ⟨t,d⟩:=a
 obtain ⟨h1,h2,h3⟩:=h
 have h3:d=[]:=h3
 subst h3
 congr 1
 apply Array.ext (by simpa using h1)
 intro i q1 q2
 have:=h2 i
 have e:t.getD i undef=t[i]:=by rw[Array.getD_eq_getD_getElem?,Array.getElem?_eq_getElem q1];rfl
 rw[←e]
 simpa using this
theorem path_piece{P:Program}{fl gl:List Nat}{E:Env}(hEP:E.P=P)(hE:envB P fl gl=true){Goal:Stand}{n:Nat}{b:Frame}{a:Act}{c:Code}{j:Item}{k:List Item}{cs:List Frame}{W:World}{kn ow:Nat→Prop}{m:Nat}{f:Nat→Value}(hgeo:Geo P W kn ow noP)(hrd:Rdy (mkE P fl gl) W kn ow noP)(hG:gl.contains b.fn=true)(hbk:b.kind=.normal)
  (hc:cdB P fl.contains c=true) (hj:∃d,j=.code d∧cdB P fl.contains d=false) (hs:Slots a m f) {N:Act→World→Prop}
  (hw:∀w0 a0,Alone W kn ow noP w0→a0.defers=[]→a0.tmps.size=m→(∀k,SV kn (f k)→a0.tmps.getD k undef=f k)→c.wp P (fun e a' w'=>e=.normal∧N a' w') a0 w0)
  (hp:∀r V W' w a1 a',Over P fl gl W kn ow noP r V w W'→N a1 w→a'.tmps=a1.tmps.map (rnV r)→(a1.defers=[]→a'.defers=[])→∃ρ',Path E Goal n ρ' (G (b.at a' (j::k)) cs) W' (knB W W' kn r) (knB W W' ow r)):
  ∃ρ,Path E Goal (n+1) ρ (G (b.at a (.code c::j::k)) cs) W kn ow:=by
 obtain ⟨jc,rfl,hjc⟩:=hj
 obtain ⟨d,hd⟩:=gM ((pcx (mkE P fl gl) W kn ow noP).kto (.code jc::k))
 have hgl:∀(r:Nat→Nat) (V:World),GloOk ((pcx (mkE P fl gl) W kn ow noP).re r V):=fun r V b hb=>⟨Nat.lt_of_lt_of_le hb hgeo.glo,fun q=>absurd hb (Nat.not_lt.2 (hgeo.kng b q))⟩
 have hfit:E.Fit d:=by
  subst hd
  refine ⟨hEP.symm,fun _=>trivial,fun r V=>mkE_ev hE rfl rfl rfl rfl (hgl r V),fun r V N=>mkE_ev hE rfl rfl rfl rfl (fun b hb=>.inl (hgl r V b hb)),fun r V=>⟨.code jc,k,rfl,fun i hi e=>?_⟩,fun b q z=>?_⟩
  ·cases i<;>simp[rnI]at e
   subst e
   have hi:cdB P fl.contains _=true:=hi
   rw[hjc]at hi
   cases hi
  ·rcases q with q|q
   ·exact z.2 (hgeo.owk b q)
   ·exact absurd z.1 (Nat.not_lt.2 q)
 obtain ⟨s,hss⟩:=stands_ex ((pcx (mkE P fl gl) W kn ow noP).bnd W.heap.size)
 obtain ⟨a0,ha0⟩:∃a0:Act,a0=⟨a.tmps.map s,[]⟩:=⟨_,rfl⟩
 have hsl:∀v,SV kn v→s v=v:=fun v hv=>(hss v).2.2.1 (hv.ok hgeo.knl).1 (hv.ok (E:=mkE P fl gl) (W:=W) (ow:=ow) hgeo.knl).2
 have hz0:a0.tmps.size=m:=by subst ha0;simpa using hs.size
 have hat:∀k,SV kn (f k)→a0.tmps.getD k undef=f k:=fun k hk=>by
  subst ha0
  have h1:=hs.at_ k
  rw[Array.getD_eq_getD_getElem?]at h1 ⊢
  show ((a.tmps.map s)[k]?).getD undef=f k
  rw[Array.getElem?_map]
  cases hh:a.tmps[k]? with
  |none=>rw[hh]at h1;exact h1
  |some v=>
   rw[hh]at h1
   have h1:v=f k:=h1
   subst h1
   exact hsl _ hk
 obtain ⟨ρ,hi⟩:=@invp_start d (fun _=>Classical.propDecidable _) (by subst hd;rfl) (fun fr w'=>∃a',fr=b.at a' [trapI]∧N a' w') (fun _ _=>False) b a a0 [.code c] s W (by subst hd;rfl) (fun b q=>by subst hd;exact .inr q) (fun b q z=>by subst hd;exact absurd z.1 (Nat.not_lt.2 q))
  (fun b o hb ho=>by subst hd;exact ObR.kto (k:=.code jc::k) (hrd s hss b o hb ho)) (by subst hd;exact hG) hbk (fun i hi=>by simp at hi;subst hi;subst hd;exact hc) rfl
  (by subst ha0;show _=(a.tmps.map s).map (rnV id);rw[Array.map_map];exact ((Array.map_congr_left fun v hv=>(hss v).2.1).trans (by simp)).symm) (by subst ha0;subst hd;exact okVs_kto (k:=.code jc::k) fun v hv=>by obtain ⟨u,-,rfl⟩:=Array.mem_map.1 hv;exact (hss u).1) hs.defers (by subst ha0;rfl)
  (fun σ=>by
   have hP:d.P=P:=by subst hd;rfl
   rw[hP]
   refine tgt_of_wp b hbk (hw _ _ ⟨σ,s,fun v hv=>(hss v).2.2.1 (KV.ok hgeo.knl hv) hv.rn,hss.back (fun B q=>q.elim),fun a=>(hss _).2.2.2 a rfl,by subst hd;rfl⟩ (by subst ha0;rfl) hz0 hat) (fun a' w' q=>⟨a',rfl,q.2⟩) (fun a' w' q=>by cases q.1) (fun e a' w' q=>.inl q.1))
 have hkt:d.kt=.code jc::k:=by subst hd;rfl
 rw[hkt]at hi
 refine ⟨ρ,.inr (.inl ⟨d,W.heap.size,_,_,b.at a (.code c::.code jc::k),[],cs,rfl,hfit,(fun _ v w q=>q),hi,?_,?_,fun x q=>?_,⟨Nat.le_refl _,fun x q=>by subst hd;rfl⟩,fun r V W' y' x w q0 q1 q2 q3 q4 q5 q6=>?_,fun b bs e r V W' v w q0 q1 q2 q3 q4=>q4.elim⟩)⟩
 ·subst hd;exact (pcx_kb (E:=mkE P fl gl) (ow:=ow) (ch:=noP) hgeo.knl).symm
 ·subst hd;exact (pcx_ob (E:=mkE P fl gl) (ch:=noP) hgeo.knl hgeo.owk).symm
 ·subst hd;exact q.elim
 ·obtain ⟨a1,rfl,hN⟩:=q6
  have ey:y'=b.at ⟨y'.tmps,y'.defers⟩ (.code jc::k):=by
   have e1:=q3.fn
   have e2:=q3.kind
   have e3:=q3.round
   obtain ⟨y1,y2,y3,y4,y5,y6,y7⟩:=y'
   have e1:y1=b.fn:=e1
   have e2:y6=b.kind:=e2
   have e3:y7=none:=e3
   have e4:y3=.code jc::k:=q1.trans hkt
   have e5:y5=.run:=q2
   subst e1 e2 e3 e4 e5
   rfl
  have e1:Kb (d.re r V) W'=knB W W' kn r:=by
   subst hd
   funext B
   refine propext ⟨fun ⟨⟨b,h1,h2⟩,h3⟩=>⟨h3,b,?_,h2⟩,fun ⟨h3,b,h1,h2⟩=>⟨⟨b,fun z=>?_,h2⟩,h3⟩⟩
   ·rcases Nat.lt_or_ge b W.heap.size with q|q
    ·exact .inr (Classical.byContradiction fun z=>h1 ⟨q,z⟩)
    ·exact .inl q
   ·rcases h1 with q|q
    ·exact absurd z.1 (Nat.not_lt.2 q)
    ·exact z.2 q
  have e2:Ob (d.re r V) W'=knB W W' ow r:=by
   subst hd
   funext B
   refine propext ⟨fun ⟨⟨b,h0,h1,h2⟩,h3⟩=>⟨h3,b,h0.symm,h2⟩,fun ⟨h3,b,h1,h2⟩=>⟨⟨b,h1.symm,fun z=>?_,h2⟩,h3⟩⟩
   rcases h1 with q|q
   ·exact absurd z.1 (Nat.not_lt.2 q)
   ·exact z.2 (hgeo.owk b q)
  rw[e1,e2]
  have ht:y'.tmps=a1.tmps.map (rnV r):=by have:=q3.tmps.1;subst hd;exact this
  have hdf:a1.defers=[]→y'.defers=[]:=fun e=>by have:=q3.defers;rw[show (b.at a1 [trapI]).defers=[] from e]at this;exact this
  have hov:Over P fl gl W kn ow noP r V w W':=⟨q0,by subst hd;exact Rl.kto (k:=[trapI]) q4⟩
  obtain ⟨ρ',hp'⟩:=hp r V W' w a1 ⟨y'.tmps,y'.defers⟩ hov hN ht hdf
  refine ⟨ρ',?_⟩
  rw[ey]
  exact hp'
end Go.Proofs.Ytniloklglpchfai
/- What package rings sums by halves. -/
namespace Go.Proofs.Ytniloklglpchfai
open Go.RowKit
def FrZ (w:World) (N:Nat) (v:Value) (zs:List Int):Prop:=(v=.slice none 0 0∧zs=[])∨∃(g cap:Nat) (more:List Int) (z:Nat×Nat),v=.slice (some ⟨g,0,none⟩) zs.length cap∧N≤g∧cap=zs.length+more.length∧cap≤maxLen∧z.2≤z.1∧w.heap[g]?=some (.cells ((zs++more).map (Value.int .i64)).toArray 3 z)
theorem FrZ.lt{w:World}{N:Nat}{g n k:Nat}{zs:List Int}(h:FrZ w N (.slice (some ⟨g,0,none⟩) n k) zs):N≤g∧g<w.heap.size:=by
 rcases h with ⟨e,-⟩|⟨g',cap,more,z,e,h1,h2,-,h3,h4⟩
 ·cases e
 ·cases e
  exact ⟨h1,(Array.getElem?_eq_some_iff.1 h4).1⟩
theorem FrZ.keep{w w':World}{N:Nat}{v:Value}{zs:List Int}(h:FrZ w N v zs)(hb:∀g n k,v=.slice (some ⟨g,0,none⟩) n k→w'.heap[g]?=w.heap[g]?):FrZ w' N v zs:=by
 rcases h with h|⟨g,cap,more,z,e,h1,h2,h0,h3,h4⟩
 ·exact .inl h
 ·exact .inr ⟨g,cap,more,z,e,h1,h2,h0,h3,(hb g _ _ e).trans h4⟩
theorem FrZ.ints{w:World}{N:Nat}{v:Value}{zs:List Int}(h:FrZ w N v zs):I_ w v zs:=by
 rcases h with ⟨rfl,rfl⟩|⟨g,cap,more,z,rfl,h1,h2,h0,h3,h4⟩
 ·exact I_.nil w
 ·refine ⟨some ⟨g,0,none⟩,cap,rfl,by omega,h0,.inr ⟨g,0,rfl,fun i x hx=>?_⟩⟩
  rw[Joins.cell_of_block h4]
  have hi:=(List.getElem?_eq_some_iff.1 hx).1
  simp only[Nat.zero_add,List.getElem?_toArray,List.map_append]
  rw[List.getElem?_append_left (by simpa using hi)]
  simp[hx]
theorem FrZ.of{w:World}{N:Nat}{v:Value}{zs:List Int}(h:OwnZ w N v zs)(ha:AllI w v):FrZ w N v zs:=by
 have hi:=h.isInts
 rcases h.row ha with h|⟨g,cap,more,e,h1,h2,h3⟩
 ·exact .inl h
 ·obtain ⟨a,k,e2,-,h5,-⟩:=hi
  rw[e]at e2
  cases e2
  exact .inr ⟨g,cap,more,(0,0),e,h1,h2,h5,Nat.le_refl _,h3⟩
def hvX:Nat→Nat→(Nat→List Int)→List Int
 |0,_,ps=>ps 0
 |f+1,c,ps=>if c=1 then ps 0 else List.zipWith ad (hvX f ((c+1) / 2) ps) (hvX f (c - (c+1) / 2) fun i=>ps (i+(c+1) / 2))
theorem hvX_len{n:Nat}:∀(f c:Nat) (ps:Nat→List Int),1≤c→(∀i,i<c→(ps i).length=n)→(hvX f c ps).length=n
 |0,c,ps,h1,hl=>hl 0 (by omega)
 |f+1,c,ps,h1,hl=>by
  unfold hvX
  split
  ·exact hl 0 (by omega)
  ·rw[List.length_zipWith,hvX_len f _ ps (by omega) (fun i hi=>hl i (by omega)),hvX_len f _ _ (by omega) (fun i hi=>hl _ (by omega)),Nat.min_self]
theorem addto_nil(a u:Value)(k:Option Addr)(cap:Nat)(w:World)(hu:u=.slice k 0 cap):Calls Try.prog 20 #[a,u] w fun e w'=>e=.returned (.tuple #[])∧w'=w:=by
 subst hu
 go_enter Try.func20,Try.ntmps20
 go_wp2
 go_loopw [8] (fun i wr=>i=.int .i64 0∧wr=w) (fun _ _=>1)
 case atStart=>exact ⟨rfl,rfl⟩
 case round=>
  obtain ⟨rfl,rfl⟩:=hrel
  go_wp2
  exact bodyPost_end (v:=.tuple #[]) (by simp[results,Try.results20,go_sem]) rfl ⟨rfl,rfl⟩
theorem addto_fr{w:World}{N N2:Nat}{s1 s2:Value}{xs ys:List Int}(h1:FrZ w N s1 xs)(h2:FrZ w N2 s2 ys)(hne:∀g n k,s1=.slice (some ⟨g,0,none⟩) n k→g<N2)(hl:xs.length=ys.length)(h60:xs.length≤60):
  Calls Try.prog 20 #[s1,s2] w fun e w'=>e=.returned (.tuple #[])∧FrZ w' N s1 (List.zipWith ad xs ys)∧Below N w w':=by
 rcases h1 with ⟨rfl,rfl⟩|⟨g,cap,more,z,rfl,a1,a2,a0,a3,a4⟩
 ·obtain rfl:ys=[]:=List.eq_nil_of_length_eq_zero hl.symm
  obtain ⟨a,k,rfl,-⟩:=h2.ints
  refine (addto_nil _ _ _ _ w rfl).mono ?_
  rintro e w' ⟨rfl,rfl⟩
  exact ⟨rfl,.inl ⟨rfl,rfl⟩,Below.refl _ _⟩
 ·have hg:=hne g _ _ rfl
  refine (addto_any g cap xs ys (more.map (Value.int .i64)) s2 w ⟨z,a3,by rw[←List.map_append];exact a4⟩ h2.ints hl (fun x n k e=>?_) h60).mono ?_
  ·rcases h2 with ⟨q,-⟩|⟨g2,c2,m2,z2,q,b1,-⟩
   ·rw[e]at q;cases q
   ·rw[e]at q
    cases q
    show g2≠g
    omega
  ·rintro e w' ⟨rfl,⟨z',hz,hb⟩,has⟩
   refine ⟨rfl,.inr ⟨g,cap,more,z',?_,a1,?_,a0,hz,?_⟩,has.os,has.tape,has.output,Nat.le_of_eq has.size.symm,fun k hk=>has.block k (by omega)⟩
   ·rw[List.length_zipWith,←hl,Nat.min_self]
   ·rw[List.length_zipWith,←hl,Nat.min_self];exact a2
   ·rw[List.map_append];exact hb
set_option maxRecDepth 100000 in
set_option maxHeartbeats 3200000 in
theorem halves_any(n:Nat)(hn60:n≤60):∀(f c Pb po cap:Nat) (us:Nat→Value) (ps:Nat→List Int) (w:World),1≤c→c≤2 ^ f→c≤6→c≤cap→cap≤maxLen→(∀i,i<c→w.cell? ⟨Pb,po+i,none⟩=some (us i))→(∀i,i<c→I_ w (us i) (ps i)∧NilOk (us i))→(∀i,i<c→(ps i).length=n)→
  Calls Try.prog 10 #[.slice (some ⟨Pb,po,none⟩) c cap] w fun e w'=>∃s,e=.returned s∧FrZ w' w.heap.size s (hvX f c ps)∧Below w.heap.size w w':=by
 intro f
 induction f with
 |zero=>
  intro c Pb po cap us ps w h1 h2 h6 hcap hcm hr hu hl
  obtain rfl:c=1:=by omega
  have c0:=hr 0 (by omega)
  rw[Nat.add_zero]at c0
  have HC:=h_ ((clone_int (us 0) (ps 0) w (hu 0 (by omega)).1 (hu 0 (by omega)).2 (by rw[hl 0 (by omega)];omega)).mono fun e w' h=>h)
  clear hr hu hl
  go_enter Try.func10,Try.ntmps10
  go_wp2_with (go_at_call 19;refine HC.out.mono ?_;rintro e w' ⟨s,rfl,h1,h2,h3⟩)
  go_ret
  exact ⟨s,rfl,FrZ.of h1 h2,h3⟩
 |succ f ih=>
  intro c Pb po cap us ps w h1 h2 h6 hcap hcm hr hu hl
  unfold maxLen at hcm
  by_cases hc:c=1
  ·subst hc
   have c0:=hr 0 (by omega)
   rw[Nat.add_zero]at c0
   have HC:=h_ ((clone_int (us 0) (ps 0) w (hu 0 (by omega)).1 (hu 0 (by omega)).2 (by rw[hl 0 (by omega)];omega)).mono fun e w' h=>h)
   clear hr hu hl
   go_enter Try.func10,Try.ntmps10
   go_wp2_with (go_at_call 19;refine HC.out.mono ?_;rintro e w' ⟨s,rfl,h1,h2,h3⟩)
   go_ret
   exact ⟨s,rfl,FrZ.of h1 h2,h3⟩
  ·obtain ⟨h,hh⟩:=gN ((c+1) / 2)
   have hh1:1≤h:=by omega
   have hhc:h<c:=by omega
   have hc2:c≤2 ^ f+2 ^ f:=by rw[Nat.pow_succ]at h2;omega
   have htd:((c:Int)+1).tdiv 2=(h:Int):=by rw[Int.tdiv_eq_ediv_of_nonneg (by omega)];omega
   have hw1:wrap64 ((c:Int)+1)=(c:Int)+1:=by unfold wrap64;omega
   have hne1:¬((c:Int)=1):=by omega
   have H1:=h_ (ih h Pb po cap us ps w hh1 (by omega) (by omega) (by omega) (by unfold maxLen;omega) (fun i hi=>hr i (by omega)) (fun i hi=>hu i (by omega)) (fun i hi=>hl i (by omega)))
   have H2:=h_ (fun (w1:World) (hb:Below w.heap.size w w1)=>ih (c - h) Pb (po+h) (cap - h) (fun i=>us (i+h)) (fun i=>ps (i+h)) w1 (by omega) (by omega) (by omega) (by omega) (by unfold maxLen;omega) (fun i hi=>by have:=hr (i+h) (by omega);rw[show po+h+i=po+(i+h) by omega];exact (hb.cell (World.block_lt_of_cell? w _ this)).trans this) (fun i hi=>⟨(hu (i+h) (by omega)).1.u_ hb,(hu (i+h) (by omega)).2⟩) (fun i hi=>hl _ (by omega)))
   have HX:=h_ (show hvX (f+1) c ps=List.zipWith ad (hvX f h ps) (hvX f (c - h) fun i=>ps (i+h)) by rw[hvX,if_neg hc,hh])
   have HL1:=h_ (hvX_len (n:=n) f h ps hh1 fun i hi=>hl i (by omega))
   have HL2:=h_ (hvX_len (n:=n) f (c - h) (fun i=>ps (i+h)) (by omega) fun i hi=>hl _ (by omega))
   clear ih hr hu hl hh hc2 h2
   go_enter Try.func10,Try.ntmps10
   go_wp2_with (first
    |(go_at_call 10;guard_target=Calls _ _ #[.slice (some ⟨Pb,po,none⟩) _ _] _ _;refine H1.out.mono ?_;rintro e w1 ⟨s1,rfl,z1,b1⟩;have Z1:=h_ z1;have B1:=h_ b1;clear z1 b1)
    |(go_at_call 10;refine (H2.out w1 B1.out).mono ?_;rintro e w2 ⟨s2,rfl,z2,b2⟩;have Z2:=h_ z2;have B2:=h_ b2;clear z2 b2)
    |(go_at_call 20;refine (addto_fr (N:=w.heap.size) (N2:=w1.heap.size) (Z1.out.keep fun g _ _ e=>B2.out.block g (by rw[e]at Z1;exact Z1.out.lt.2)) Z2.out (fun g _ _ e=>by rw[e]at Z1;exact Z1.out.lt.2) (HL1.out.trans HL2.out.symm) (by rw[HL1.out];exact hn60)).mono ?_;rintro e w3 ⟨rfl,z3,b3⟩;have Z3:=h_ z3;have B3:=h_ b3;clear z3 b3))
   go_ret
   refine ⟨s1,rfl,by rw[HX.out];exact Z3.out,?_⟩
   have h1:=B1.out
   have h2:=B2.out
   have h3:=B3.out
   exact ⟨h3.os.trans (h2.os.trans h1.os),h3.tape.trans (h2.tape.trans h1.tape),h3.output.trans (h2.output.trans h1.output),Nat.le_trans h1.size (Nat.le_trans h2.size h3.size),fun k hk=>(h3.block k hk).trans ((h2.block k (Nat.lt_of_lt_of_le hk h1.size)).trans (h1.block k hk))⟩
theorem tree_any(Pb po cap c n:Nat)(us:Nat→Value)(ps:Nat→List Int)(w:World)(hc1:1≤c)(hc6:c≤6)(hn:n≤60)(hcap:c≤cap)(hcm:cap≤maxLen)(hr:∀i,i<c→w.cell? ⟨Pb,po+i,none⟩=some (us i))(hu:∀i,i<c→I_ w (us i) (ps i)∧NilOk (us i))(hl:∀i,i<c→(ps i).length=n)(hB:∀i,i<c→∀x,x∈ps i→-2147483647≤x∧x≤2147483647):
  Calls Try.prog 6 #[.slice (some ⟨Pb,po,none⟩) c cap] w fun e w'=>∃s,e=.returned (.tuple #[s,.nilIface])∧FrZ w' w.heap.size s (hvX 3 c ps)∧Below w.heap.size w w':=by
 have HC:=h_ (rcheck_any (cap:=cap) Pb po c n us ps w hc1 hc6 hn hr (fun i hi=>(hu i hi).1) hl hB)
 have HH:=h_ (halves_any n hn 3 c Pb po cap us ps w hc1 (by omega) hc6 hcap hcm hr hu hl)
 clear hr hu hl hB
 go_enter Try.func6,Try.ntmps6
 go_wp2_with (first
  |(go_at_call 8;refine HC.out.mono ?_;rintro e w' ⟨rfl,rfl⟩)
  |(go_at_call 10;refine HH.out.mono ?_;rintro e w' ⟨s,rfl,h1,h2⟩))
 exact bodyPost_ret (v:=.tuple #[s,.nilIface]) (by simp[results,Try.results6,go_sem]) rfl ⟨s,rfl,h1,h2⟩
end Go.Proofs.Ytniloklglpchfai
