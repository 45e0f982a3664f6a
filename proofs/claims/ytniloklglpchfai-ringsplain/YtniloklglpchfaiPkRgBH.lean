/- The law RingsPlain: its quotients, and their Sum, in company. -/
import Derived.Test.YtniloklglpchfaiPkRgBF
namespace Go.Proofs.Ytniloklglpchfai
open Go Go.RowKit Go.Conc
def IsRt (c:Code):Prop:=c=List.foldl stepC ((Try.f3).body.getD .skip) [1,1,1,1,1,1,1,1]
structure RpSt (W0 W:World) (kp:Nat→Prop) (Pb c n:Nat) (us:Nat→Value) (O:Nat→Option Nat) (qs:Nat→List Int) (Zb:Nat) (T:Nat→Nat):Prop where
 g0:G0≤W.heap.size
 lies:Lies W (kS (fun B=>kp B∨kP Pb c O B) c Zb T)
 still:∀B,kp B→StillB W0 B W.heap[B]?
 parts:Parts W Pb 0 c n us O qs
 row:∃z:Nat×Nat,W.heap[Zb]?=some (.cells ((List.range c).map fun i=>Value.slice (some ⟨T i,0,none⟩) n n).toArray 27 z)
 ts:∀i,i<c→∃z:Nat×Nat,W.heap[T i]?=some (.cells ((sumX n c qs).map (Value.int .i64)).toArray 3 z)
 nok:∀i,i<c→NilOk (us i)
theorem StillB.hold{W W':World}{B:Nat}(h:StillB W B W'.heap[B]?):HoldB False W W' B:=fun cs e z hW=>by
 obtain ⟨a,e',z1,z',h1,h2,h3⟩:=h
 rw[hW]at h1
 cases h1
 exact ⟨z',h2,fun q=>q.elim,fun _=>h3⟩
theorem Parts.holdg{W W':World}{Pb po c n:Nat}{us:Nat→Value}{O:Nat→Option Nat}{ps:Nat→List Int}(h:Parts W Pb po c n us O ps)(hg:G0≤W'.heap.size)(hk:∀B,kP Pb c O B→HoldB False W W' B):Parts W' Pb po c n us O ps:=by
 refine ⟨?_,fun i hi=>?_,h.len,hg,h.gp,h.go⟩
 ·obtain ⟨cs,e,z,h1,h2,h3⟩:=h.row
  obtain ⟨z',g1,-,g2⟩:=hk Pb (.inl rfl) cs e z h1
  exact ⟨cs,e,z',g1,g2 id,h3⟩
 ·rcases h.own i hi with q|⟨B',off,cap,cs,e',z,q1,q2,q3,q4,q5,q6,q7⟩
  ·exact .inl q
  ·obtain ⟨z',g1,-,g2⟩:=hk B' (.inr ⟨i,hi,q1⟩) cs e' z q5
   exact .inr ⟨B',off,cap,cs,e',z',q1,q2,q3,q4,g1,g2 id,q7⟩
theorem tdiv_bound{x:Int}(h:-2147483647≤x∧x≤2147483647):-268435455≤x.tdiv 8∧x.tdiv 8≤268435455:=by
 rcases Int.le_total 0 x with q|q
 ·rw[Int.tdiv_eq_ediv_of_nonneg q];omega
 ·obtain ⟨z,rfl⟩:∃z,x=-z:=⟨-x,by omega⟩
  rw[Int.neg_tdiv,Int.tdiv_eq_ediv_of_nonneg (by omega)]
  omega
theorem quoX_bound{c:Nat}{ps:Nat→List Int}(hF:Fine c ps):∀i,i<c→∀x,x∈quoX ps i→-268435455≤x∧x≤268435455:=fun i hi x hx=>by
 unfold quoX at hx
 obtain ⟨y,hy,rfl⟩:=List.mem_map.1 hx
 exact tdiv_bound ((hF.2.2 i hi).2.2 y hy)
theorem slots_fin{a a':Act}{r:Nat→Nat}(h1:a'.tmps=a.tmps.map (rnV r))(h2:a'.defers=[])(hz:a.tmps.size=149):Slots a' 149 fun k=>a'.tmps.getD k undef:=⟨by rw[h1];simpa using hz,fun _=>rfl,h2⟩
set_option linter.unusedSimpArgs false in
set_option linter.unusedVariables false in
set_option maxRecDepth 100000 in
set_option maxHeartbeats 8000000 in
theorem quot_any{Z:Code}(hZ:IsRq Z){a0:Act}(hz:a0.tmps.size=149)(hd:a0.defers=[])(Pb po cap c n:Nat)(us:Nat→Value)(ps:Nat→List Int)(w:World)(h0:a0.tmps.getD 0 undef=.slice (some ⟨Pb,po,none⟩) c cap)(h6:a0.tmps.getD 6 undef=.slice none 0 0)(hc6:c≤6)(hn:n≤60)(hr:∀i,i<c→w.cell? ⟨Pb,po+i,none⟩=some (us i))(hu:∀i,i<c→I_ w (us i) (ps i))(hl:∀i,i<c→(ps i).length=n)(hB:∀i,i<c→∀x,x∈ps i→-2147483647≤x∧x≤2147483647):
  Z.wp Try.prog (fun e a' w'=>e=.normal∧∃v6,OwnR w' w.heap.size v6 c (quoX ps)∧Below w.heap.size w w'∧a'.defers=[]∧a'.tmps.size=149∧a'.tmps[0]?=some (.slice (some ⟨Pb,po,none⟩) c cap)∧a'.tmps[6]?=some v6) a0 w:=by
 have hs:Slots a0 149 (fun k=>a0.tmps.getD k undef):=⟨hz,fun _=>rfl,hd⟩
 have ha:=hs.list
 unfold IsRq at hZ
 subst hZ
 have e:((List.range 149).map (fun k=>a0.tmps.getD k undef)).toArray=#[.slice (some ⟨Pb,po,none⟩) c cap,a0.tmps.getD 1 undef,a0.tmps.getD 2 undef,a0.tmps.getD 3 undef,a0.tmps.getD 4 undef,a0.tmps.getD 5 undef,.slice none 0 0,a0.tmps.getD 7 undef,a0.tmps.getD 8 undef,a0.tmps.getD 9 undef,a0.tmps.getD 10 undef,a0.tmps.getD 11 undef,a0.tmps.getD 12 undef,a0.tmps.getD 13 undef,a0.tmps.getD 14 undef,a0.tmps.getD 15 undef,a0.tmps.getD 16 undef,a0.tmps.getD 17 undef,a0.tmps.getD 18 undef,a0.tmps.getD 19 undef,a0.tmps.getD 20 undef,a0.tmps.getD 21 undef,a0.tmps.getD 22 undef,a0.tmps.getD 23 undef,a0.tmps.getD 24 undef,a0.tmps.getD 25 undef,a0.tmps.getD 26 undef,a0.tmps.getD 27 undef,a0.tmps.getD 28 undef,a0.tmps.getD 29 undef,a0.tmps.getD 30 undef,a0.tmps.getD 31 undef,a0.tmps.getD 32 undef,a0.tmps.getD 33 undef,a0.tmps.getD 34 undef,a0.tmps.getD 35 undef,a0.tmps.getD 36 undef,a0.tmps.getD 37 undef,a0.tmps.getD 38 undef,a0.tmps.getD 39 undef,a0.tmps.getD 40 undef,a0.tmps.getD 41 undef,a0.tmps.getD 42 undef,a0.tmps.getD 43 undef,a0.tmps.getD 44 undef,a0.tmps.getD 45 undef,a0.tmps.getD 46 undef,a0.tmps.getD 47 undef,a0.tmps.getD 48 undef,a0.tmps.getD 49 undef,a0.tmps.getD 50 undef,a0.tmps.getD 51 undef,a0.tmps.getD 52 undef,a0.tmps.getD 53 undef,a0.tmps.getD 54 undef,a0.tmps.getD 55 undef,a0.tmps.getD 56 undef,a0.tmps.getD 57 undef,a0.tmps.getD 58 undef,a0.tmps.getD 59 undef,a0.tmps.getD 60 undef,a0.tmps.getD 61 undef,a0.tmps.getD 62 undef,a0.tmps.getD 63 undef,a0.tmps.getD 64 undef,a0.tmps.getD 65 undef,a0.tmps.getD 66 undef,a0.tmps.getD 67 undef,a0.tmps.getD 68 undef,a0.tmps.getD 69 undef,a0.tmps.getD 70 undef,a0.tmps.getD 71 undef,a0.tmps.getD 72 undef,a0.tmps.getD 73 undef,a0.tmps.getD 74 undef,a0.tmps.getD 75 undef,a0.tmps.getD 76 undef,a0.tmps.getD 77 undef,a0.tmps.getD 78 undef,a0.tmps.getD 79 undef,a0.tmps.getD 80 undef,a0.tmps.getD 81 undef,a0.tmps.getD 82 undef,a0.tmps.getD 83 undef,a0.tmps.getD 84 undef,a0.tmps.getD 85 undef,a0.tmps.getD 86 undef,a0.tmps.getD 87 undef,a0.tmps.getD 88 undef,a0.tmps.getD 89 undef,a0.tmps.getD 90 undef,a0.tmps.getD 91 undef,a0.tmps.getD 92 undef,a0.tmps.getD 93 undef,a0.tmps.getD 94 undef,a0.tmps.getD 95 undef,a0.tmps.getD 96 undef,a0.tmps.getD 97 undef,a0.tmps.getD 98 undef,a0.tmps.getD 99 undef,a0.tmps.getD 100 undef,a0.tmps.getD 101 undef,a0.tmps.getD 102 undef,a0.tmps.getD 103 undef,a0.tmps.getD 104 undef,a0.tmps.getD 105 undef,a0.tmps.getD 106 undef,a0.tmps.getD 107 undef,a0.tmps.getD 108 undef,a0.tmps.getD 109 undef,a0.tmps.getD 110 undef,a0.tmps.getD 111 undef,a0.tmps.getD 112 undef,a0.tmps.getD 113 undef,a0.tmps.getD 114 undef,a0.tmps.getD 115 undef,a0.tmps.getD 116 undef,a0.tmps.getD 117 undef,a0.tmps.getD 118 undef,a0.tmps.getD 119 undef,a0.tmps.getD 120 undef,a0.tmps.getD 121 undef,a0.tmps.getD 122 undef,a0.tmps.getD 123 undef,a0.tmps.getD 124 undef,a0.tmps.getD 125 undef,a0.tmps.getD 126 undef,a0.tmps.getD 127 undef,a0.tmps.getD 128 undef,a0.tmps.getD 129 undef,a0.tmps.getD 130 undef,a0.tmps.getD 131 undef,a0.tmps.getD 132 undef,a0.tmps.getD 133 undef,a0.tmps.getD 134 undef,a0.tmps.getD 135 undef,a0.tmps.getD 136 undef,a0.tmps.getD 137 undef,a0.tmps.getD 138 undef,a0.tmps.getD 139 undef,a0.tmps.getD 140 undef,a0.tmps.getD 141 undef,a0.tmps.getD 142 undef,a0.tmps.getD 143 undef,a0.tmps.getD 144 undef,a0.tmps.getD 145 undef,a0.tmps.getD 146 undef,a0.tmps.getD 147 undef,a0.tmps.getD 148 undef]:=by
  rw[←h0,←h6]
  rfl
 rw[ha,e]
 refine quot_piece Pb po cap c n us ps w _ hc6 hn hr hu hl hB ?_
 intro v6 v7 v8 v9 v52 v53 v54 v55 v56 v57 v58 v59 v60 v61 v62 v63 v64 v65 v66 v67 v68 v69 v70 v71 v72 v73 v74 v75 v76 v77 v78 v79 v80 v81 wx ho hb
 exact ⟨rfl,v6,ho,hb,rfl,rfl,rfl,rfl⟩
set_option linter.unusedSimpArgs false in
set_option linter.unusedVariables false in
set_option maxRecDepth 100000 in
set_option maxHeartbeats 8000000 in
theorem rp_quot{Goal2 Goal3:Stand}{W0 W:World}{kp:Nat→Prop}{pv:Value}{Pb po c:Nat}{us:Nat→Value}{ps:Nat→List Int}(hv:PVal kp pv Pb po c)(hp:PIn W kp Pb po c us ps)(hg0:G0≤W.heap.size)(hK:Lies W kp)(hS0:∀B,kp B→StillB W0 B W.heap[B]?)(hF:Fine c ps){Z S:Code}(hZ:IsRq Z)(hS:IsRs S){a:Act}{f:Nat→Value}(hs:Slots a 149 f)(f0:f 0=pv)(f6:f 6=.slice none 0 0){nE:Nat}
  (hG:∀g W kn ow,StartG (mkE Try.prog rgF rgF) Goal3 g W kn ow→Goal2 g W kn ow)
  (hend:∀W1 Qb cap1 us1 O1 Zb T U a f,RpSt W0 W1 kp Qb c (ps 0).length us1 O1 (quoX ps) Zb T→IsRt U→c≤cap1→cap1≤maxLen→Slots a 149 f→f 0=pv→f 6=.slice (some ⟨Qb,0,none⟩) c cap1→f 10=.slice (some ⟨Zb,0,none⟩) c c→f 4=.nilIface→∃ρ,Path (mkE Try.prog rgF rgF) Goal3 nE ρ (G ((base 3).at a [.code U]) []) W1 (kS (fun B=>kp B∨kP Qb c O1 B) c Zb T) (oS c Zb T)):
  ∃ρ,Path (mkE Try.prog rgF rgF) Goal2 120 ρ (G ((base 3).at a [.code Z,.code S]) []) W kp noP:=by
 have hP:(mkE Try.prog rgF rgF).P=Try.prog:=rfl
 have hke:(base 3).kind≠.early:=by decide
 obtain ⟨hc1,hc6,hFi⟩:=hF
 have hF:Fine c ps:=⟨hc1,hc6,hFi⟩
 obtain ⟨n,hn⟩:=gN ((ps 0).length)
 rw[hn]at hend
 have hlen:∀i,i<c→(ps i).length=n:=fun i hi=>(hFi i hi).1.trans hn
 have hn60:n≤60:=by have:=(hFi 0 (by omega)).2.1;omega
 have hqlen:∀i,i<c→(quoX ps i).length=n:=fun i hi=>by unfold quoX;rw[List.length_map];exact hlen i hi
 obtain ⟨cap,rfl⟩:∃cap,pv=.slice (some ⟨Pb,po,none⟩) c cap:=by
  rcases hv.sh with ⟨q,-⟩|⟨-,-,q⟩
  ·omega
  ·exact q
 refine Path.up (N:=119+1) (by omega) ?_
 refine path_piece (P:=Try.prog) (fl:=[]) (gl:=[3]) rfl (by kernel_rfl) (hK.geo hg0) (Rdy.of fun B hB=>?_) (by decide) rfl ?_ ⟨S,rfl,?_⟩ hs (N:=fun a1 w=>∃w0 v6,Alone W kp noP noP w0∧OwnR w w0.heap.size v6 c (quoX ps)∧Below w0.heap.size w0 w∧a1.defers=[]∧a1.tmps.size=149∧a1.tmps[0]?=some (.slice (some ⟨Pb,po,none⟩) c cap)∧a1.tmps[6]?=some v6) (fun w0 a0 h0 hd hz hat=>?_) fun r V W1 w a1 a' hov hN ht hdf=>?_
 ·obtain ⟨a,e,z,h1,h2,-⟩:=hK B hB
  exact ⟨a,e,z,h1,.inr ⟨id,h2⟩⟩
 ·unfold IsRq at hZ
  subst hZ
  kernel_rfl
 ·unfold IsRs at hS
  subst hS
  kernel_rfl
 ·have e0:=hat 0 (by rw[f0];exact hv.kv.sv)
  have e6:=hat 6 (by rw[f6];exact (show KV kp noP (.slice none 0 0) from fun x hx=>by cases hx).sv)
  obtain ⟨vs,q1,q2⟩:=hp.alone (fun _ q=>q) h0
  refine Code.wp_mono ?_ (quot_any hZ hz hd Pb po cap c n vs ps w0 (e0.trans f0) (e6.trans f6) hc6 hn60 q1 q2 hlen (fun i hi=>(hFi i hi).2.2))
  rintro e a' w' ⟨rfl,v6,h1,h2,h3,h4,h5,h6⟩
  exact ⟨rfl,w0,v6,h0,h1,h2,h3,h4,h5,h6⟩
 obtain ⟨w0,v6,h0,hO,hb,hd1,hz1,s0,s6⟩:=hN
 obtain ⟨hgr,hK1,hS1,hkn⟩:=hov.kept h0 hK hg0 hb
 obtain ⟨Qb,cap1,us1,O1,e6,hcc,hcm,hPt,hnok,hkP⟩:=small_parts hov h0 hg0 hO hb hc1 hqlen
 have hs1:=slots_fin ht (hdf hd1) hz1
 obtain ⟨f1,hf1⟩:∃f1:Nat→Value,f1=fun k=>a'.tmps.getD k undef:=⟨_,rfl⟩
 rw[←hf1]at hs1
 have g0:f1 0=.slice (some ⟨Pb,po,none⟩) c cap:=by
  rw[hf1]
  show a'.tmps.getD 0 undef=_
  rw[ht,Array.getD_eq_getD_getElem?,Array.getElem?_map,s0]
  exact hov.same (fun B q=>hK.lt q) (fun B q=>q.elim) hv.kv
 have g6:f1 6=.slice (some ⟨Qb,0,none⟩) c cap1:=by
  rw[hf1]
  show a'.tmps.getD 6 undef=_
  rw[ht,Array.getD_eq_getD_getElem?,Array.getElem?_map,s6]
  exact e6
 clear hf1 ht hdf hs
 have hg1:G0≤W1.heap.size:=Nat.le_trans hg0 hgr
 obtain ⟨K1,hK1d⟩:∃K1:Nat→Prop,K1=fun B=>kp B∨kP Qb c O1 B:=⟨_,rfl⟩
 have hKl:Lies W1 K1:=fun B hB=>by
  rw[hK1d]at hB
  rcases hB with hB|hB
  ·exact hK1 B hB
  ·obtain ⟨a,e,z,h1,h2⟩:=hPt.blk hB
   exact ⟨a,e,z,h1,h2,(hkP B hB).2⟩
 have hkk:∀B,K1 B→knB W W1 kp r B:=fun B hB=>by
  rw[hK1d]at hB
  exact hB.elim (hkn B) fun q=>(hkP B q).1
 have hH:Here W1 (knB W W1 kp r) (knB W W1 noP r):=⟨fun B q=>q.1,fun B q=>⟨q.1,by obtain ⟨-,b,q1,q2⟩:=q;exact ⟨b,q1.imp id (fun q=>q.elim),q2⟩⟩⟩
 obtain ⟨U,hU⟩:∃U,IsRt U:=⟨_,rfl⟩
 have hU':=hU
 unfold IsRt at hU'
 unfold IsRs at hS
 simp only[Try.f3,Option.getD_some,List.foldl,stepC]at hU' hS
 subst hS
 refine path_seq hH ?_
 rw[←hU']
 clear hU'
 refine path_region hH rfl ?_
 refine path_slot hH hs1 (.slice (some ⟨Qb,0,none⟩) c cap1) rfl rfl (by decide) (fun _=>rfl) hke (fun a W' h=>by have e0:a.tmps.getD 6 undef=.slice (some ⟨Qb,0,none⟩) c cap1:=(h 6).trans (by simp[upF,g6]);have q0:a.tmps[6]?.getD undef=.slice (some ⟨Qb,0,none⟩) c cap1:=(by rw[←Array.getD_eq_getD_getElem?];exact e0);clear h;rw[hP];go_simp<;>omega) (fun a W' h e he=>by have hm:=mem_listed he;have e0:a.tmps.getD 6 undef=.slice (some ⟨Qb,0,none⟩) c cap1:=(h 6).trans (by simp[upF,g6]);have q0:a.tmps[6]?.getD undef=.slice (some ⟨Qb,0,none⟩) c cap1:=(by rw[←Array.getD_eq_getD_getElem?];exact e0);clear h;rw[hP]at hm;simp[go_sem,Act.eval,e0,-Array.getD_eq_getD_getElem?]at hm) fun a hs'=>?_
 have hs:=hs'
 clear hs'
 clear hs1
 have e83:=(hs.at_ 83).trans (show _=.slice (some ⟨Qb,0,none⟩) c cap1 by simp[upF])
 refine path_enter_to hH.knl (fun _ q=>q) (fun _ q=>q) hH.owk #[.slice (some ⟨Qb,0,none⟩) c cap1] rfl rfl hke rfl (fn:=Try.f4) Try.func4 rfl rfl (by simp[Act.eval,e83,-Array.getD_eq_getD_getElem?]) ?_
 refine Path.up (N:=100) (by omega) ?_
 suffices hsp:∃ρ,Path (mkE Try.prog rgF rgF) (StartG (mkE Try.prog rgF rgF) Goal3) 100 ρ (G (Frame.enter Try.prog 4 #[.slice (some ⟨Qb,0,none⟩) c cap1] .normal) _) W1 (knB W W1 kp r) (knB W W1 noP r) from hsp.imp fun _ z=>z.imp hG
 refine sum_path (k0:=K1) hPt (fun B q=>by rw[hK1d];exact .inr q) hKl hc1 hc6 hn60 (quoX_bound hF) hH.knl hH.owk hkk (nE:=nE+6) fun W2 Zb T SO=>?_
 refine path_back (d:=84) (m:=149) rfl rfl (by decide) hs fun a hs'=>?_
 replace hs:=hs'
 clear hs' hH e83
 have hK2:Lies W2 (kS K1 c Zb T):=fun B q=>by
  rcases q with q|rfl|⟨i,hi,rfl⟩
  ·obtain ⟨a,e,z,z',-,h2,h3⟩:=SO.still B q
   obtain ⟨_,_,_,-,-,h4⟩:=hKl B q
   exact ⟨a,e,z',h2,h3,h4⟩
  ·obtain ⟨z,h1,h2⟩:=SO.row
   exact ⟨_,_,z,h2,fun i q1 q2=>by omega,SO.gz⟩
  ·obtain ⟨z,h1,h2⟩:=SO.ts i hi
   exact ⟨_,_,z,h2,fun i q1 q2=>by omega,SO.gt i hi⟩
 have hH:Here W2 (kS K1 c Zb T) (oS c Zb T):=⟨fun B q=>hK2.lt q,fun B q=>.inr q⟩
 have hSt:RpSt W0 W2 kp Qb c n us1 O1 (quoX ps) Zb T:=by
  have h1:=SO.row
  have h2:=SO.ts
  rw[sumX_len]at h1
  refine ⟨SO.g0,by rw[←hK1d];exact hK2,fun B hB=>((hS0 B hB).trans (hS1 B hB)).trans (SO.still B (by rw[hK1d];exact .inl hB)),hPt.holdg SO.g0 fun B hB=>(SO.still B (by rw[hK1d];exact .inr hB)).hold,h1.imp fun z q=>q.2,fun i hi=>(h2 i hi).imp fun z q=>q.2,hnok⟩
 refine path_slot hH hs (.tuple #[.slice (some ⟨Zb,0,none⟩) c c,.nilIface]) rfl rfl (by decide) (fun _=>rfl) hke (fun a W' h=>by have e0:a.tmps.getD 84 undef=.tuple #[.slice (some ⟨Zb,0,none⟩) c c,.nilIface]:=(h 84).trans (by simp[upF]);have q0:a.tmps[84]?.getD undef=.tuple #[.slice (some ⟨Zb,0,none⟩) c c,.nilIface]:=(by rw[←Array.getD_eq_getD_getElem?];exact e0);clear h;rw[hP];go_simp<;>omega) (fun a W' h e he=>by have hm:=mem_listed he;have e0:a.tmps.getD 84 undef=.tuple #[.slice (some ⟨Zb,0,none⟩) c c,.nilIface]:=(h 84).trans (by simp[upF]);have q0:a.tmps[84]?.getD undef=.tuple #[.slice (some ⟨Zb,0,none⟩) c c,.nilIface]:=(by rw[←Array.getD_eq_getD_getElem?];exact e0);clear h;rw[hP]at hm;simp[go_sem,Act.eval,e0,-Array.getD_eq_getD_getElem?]at hm) fun a hs'=>?_
 replace hs:=hs'
 clear hs'
 refine path_slot hH hs (.slice (some ⟨Zb,0,none⟩) c c) rfl rfl (by decide) (fun _=>rfl) hke (fun a W' h=>by have e0:a.tmps.getD 82 undef=.tuple #[.slice (some ⟨Zb,0,none⟩) c c,.nilIface]:=(h 82).trans (by simp[upF]);have q0:a.tmps[82]?.getD undef=.tuple #[.slice (some ⟨Zb,0,none⟩) c c,.nilIface]:=(by rw[←Array.getD_eq_getD_getElem?];exact e0);clear h;rw[hP];go_simp<;>omega) (fun a W' h e he=>by have hm:=mem_listed he;have e0:a.tmps.getD 82 undef=.tuple #[.slice (some ⟨Zb,0,none⟩) c c,.nilIface]:=(h 82).trans (by simp[upF]);have q0:a.tmps[82]?.getD undef=.tuple #[.slice (some ⟨Zb,0,none⟩) c c,.nilIface]:=(by rw[←Array.getD_eq_getD_getElem?];exact e0);clear h;rw[hP]at hm;simp[go_sem,Act.eval,e0,-Array.getD_eq_getD_getElem?]at hm) fun a hs'=>?_
 replace hs:=hs'
 clear hs'
 refine path_slot hH hs (.nilIface) rfl rfl (by decide) (fun _=>rfl) hke (fun a W' h=>by have e0:a.tmps.getD 82 undef=.tuple #[.slice (some ⟨Zb,0,none⟩) c c,.nilIface]:=(h 82).trans (by simp[upF]);have q0:a.tmps[82]?.getD undef=.tuple #[.slice (some ⟨Zb,0,none⟩) c c,.nilIface]:=(by rw[←Array.getD_eq_getD_getElem?];exact e0);clear h;rw[hP];go_simp<;>omega) (fun a W' h e he=>by have hm:=mem_listed he;have e0:a.tmps.getD 82 undef=.tuple #[.slice (some ⟨Zb,0,none⟩) c c,.nilIface]:=(h 82).trans (by simp[upF]);have q0:a.tmps[82]?.getD undef=.tuple #[.slice (some ⟨Zb,0,none⟩) c c,.nilIface]:=(by rw[←Array.getD_eq_getD_getElem?];exact e0);clear h;rw[hP]at hm;simp[go_sem,Act.eval,e0,-Array.getD_eq_getD_getElem?]at hm) fun a hs'=>?_
 replace hs:=hs'
 clear hs'
 refine path_slot hH hs (.slice (some ⟨Zb,0,none⟩) c c) rfl rfl (by decide) (fun _=>rfl) hke (fun a W' h=>by have e0:a.tmps.getD 85 undef=.slice (some ⟨Zb,0,none⟩) c c:=(h 85).trans (by simp[upF]);have q0:a.tmps[85]?.getD undef=.slice (some ⟨Zb,0,none⟩) c c:=(by rw[←Array.getD_eq_getD_getElem?];exact e0);clear h;rw[hP];go_simp<;>omega) (fun a W' h e he=>by have hm:=mem_listed he;have e0:a.tmps.getD 85 undef=.slice (some ⟨Zb,0,none⟩) c c:=(h 85).trans (by simp[upF]);have q0:a.tmps[85]?.getD undef=.slice (some ⟨Zb,0,none⟩) c c:=(by rw[←Array.getD_eq_getD_getElem?];exact e0);clear h;rw[hP]at hm;simp[go_sem,Act.eval,e0,-Array.getD_eq_getD_getElem?]at hm) fun a hs'=>?_
 replace hs:=hs'
 clear hs'
 refine path_slot hH hs (.nilIface) rfl rfl (by decide) (fun _=>rfl) hke (fun a W' h=>by have e0:a.tmps.getD 86 undef=.nilIface:=(h 86).trans (by simp[upF]);have q0:a.tmps[86]?.getD undef=.nilIface:=(by rw[←Array.getD_eq_getD_getElem?];exact e0);clear h;rw[hP];go_simp<;>omega) (fun a W' h e he=>by have hm:=mem_listed he;have e0:a.tmps.getD 86 undef=.nilIface:=(h 86).trans (by simp[upF]);have q0:a.tmps[86]?.getD undef=.nilIface:=(by rw[←Array.getD_eq_getD_getElem?];exact e0);clear h;rw[hP]at hm;simp[go_sem,Act.eval,e0,-Array.getD_eq_getD_getElem?]at hm) fun a hs'=>?_
 replace hs:=hs'
 clear hs'
 refine path_region_end hH ?_
 rw[hK1d]at hH ⊢
 exact hend W2 Qb cap1 us1 O1 Zb T U _ _ hSt hU hcc hcm hs (by simp[upF,g0]) (by simp[upF,g6]) (by simp[upF]) (by simp[upF])
end Go.Proofs.Ytniloklglpchfai
/- The plain sums of the law RingsPlain, walked alone; halves of what is small. -/
namespace Go.Proofs.Ytniloklglpchfai
open Go.RowKit
theorem plainS_bd{f:Nat→Int}:∀c,c≤6→(∀i,i<c→-268435455≤f i∧f i≤268435455)→-268435455*(c:Int)≤plainS f c∧plainS f c≤268435455*(c:Int)
 |0,_,_=>⟨Int.le_refl _,Int.le_refl _⟩
 |c+1,h,hf=>by
  have h1:=plainS_bd c (by omega) fun i hi=>hf i (by omega)
  have h2:=hf c (by omega)
  unfold plainS
  omega
theorem plainS_add(f:Nat→Int)(a:Nat):∀b,plainS f (a+b)=plainS f a+plainS (fun i=>f (i+a)) b
 |0=>by simp[plainS]
 |b+1=>by
  rw[←Nat.add_assoc]
  show plainS f (a+b)+f (a+b)=plainS f a+(plainS (fun i=>f (i+a)) b+f (b+a))
  rw[plainS_add f a b,Nat.add_comm b a]
  omega
theorem sumX_at{n c:Nat}{ps:Nat→List Int}{i:Nat}(hi:i<n):(sumX n c ps)[i]?=some (plainS (fun k=>(ps k).getD i 0) c):=by
 unfold sumX
 rw[List.getElem?_map,List.getElem?_range hi]
 rfl
theorem sumX_one{n:Nat}{ps:Nat→List Int}(hl:(ps 0).length=n):sumX n 1 ps=ps 0:=by
 refine List.ext_getElem? fun i=>?_
 by_cases hi:i<n
 ·rw[sumX_at hi,List.getElem?_eq_getElem (by omega)]
  have:(ps 0)[i]?=some (ps 0)[i]:=List.getElem?_eq_getElem (by omega)
  simp[plainS,List.getD_eq_getElem?_getD,this]
 ·rw[List.getElem?_eq_none (by unfold sumX;simp;omega),List.getElem?_eq_none (by omega)]
theorem hvX_plain{n:Nat}:∀(f c:Nat) (ps:Nat→List Int),1≤c→c≤2 ^ f→c≤6→(∀i,i<c→(ps i).length=n)→(∀i,i<c→∀x,x∈ps i→-268435455≤x∧x≤268435455)→hvX f c ps=sumX n c ps
 |0,c,ps,h1,h2,_,hl,_=>by
  obtain rfl:c=1:=by omega
  rw[sumX_one (hl 0 (by omega))]
  rfl
 |f+1,c,ps,h1,h2,h6,hl,hB=>by
  unfold hvX
  split
  ·next e=>
   subst e
   rw[sumX_one (hl 0 (by omega))]
  ·next e=>
   have hc2:c≤2 ^ f+2 ^ f:=by rw[Nat.pow_succ]at h2;omega
   rw[hvX_plain f ((c+1) / 2) ps (by omega) (by omega) (by omega) (fun i hi=>hl i (by omega)) (fun i hi=>hB i (by omega)),hvX_plain f (c - (c+1) / 2) (fun i=>ps (i+(c+1) / 2)) (by omega) (by omega) (by omega) (fun i hi=>hl _ (by omega)) (fun i hi=>hB _ (by omega))]
   obtain ⟨a,ha⟩:=gN ((c+1) / 2)
   rw[ha]
   refine List.ext_getElem? fun i=>?_
   have hgd:∀k,k<c→-268435455≤(ps k).getD i 0∧(ps k).getD i 0≤268435455:=fun k hk=>by
    by_cases hi:i<n
    ·obtain ⟨x,hx⟩:∃x,(ps k)[i]?=some x:=⟨_,List.getElem?_eq_getElem (by rw[hl k hk];exact hi)⟩
     rw[List.getD_eq_getElem?_getD,hx]
     exact hB k hk x (List.mem_of_getElem? hx)
    ·rw[List.getD_eq_getElem?_getD,List.getElem?_eq_none (by rw[hl k hk];omega)]
     exact ⟨by decide,by decide⟩
   by_cases hi:i<n
   ·rw[List.getElem?_zipWith,sumX_at hi,sumX_at hi,sumX_at hi]
    have h3:=plainS_add (fun k=>(ps k).getD i 0) a (c - a)
    rw[show a+(c - a)=c by omega]at h3
    have b1:=plainS_bd (f:=fun k=>(ps k).getD i 0) a (by omega) fun k hk=>hgd k (by omega)
    have b2:=plainS_bd (f:=fun k=>(ps (k+a)).getD i 0) (c - a) (by omega) fun k hk=>hgd (k+a) (by omega)
    have ea:((c - a:Nat):Int)=(c:Int) - (a:Int):=by omega
    rw[ea]at b2
    show some (ad _ _)=_
    rw[ad_plain (by omega) (by omega) (by omega) (by omega) (by omega) (by omega),h3]
   ·rw[List.getElem?_eq_none (by rw[List.length_zipWith];unfold sumX;simp;omega),List.getElem?_eq_none (by unfold sumX;simp;omega)]
set_option maxHeartbeats 32000000 in
set_option maxRecDepth 100000 in
theorem plain_piece{u0 u1 u2 u3 u4 u5 u7 u8 u9 u10 u11 u12 u14 u15 u16 u17 u18 u19 u20 u21 u22 u23 u24 u25 u26 u27 u28 u29 u30 u31 u32 u33 u34 u35 u36 u37 u38 u39 u40 u41 u42 u43 u44 u45 u46 u47 u48 u49 u50 u51 u52 u53 u54 u55 u56 u57 u58 u59 u60 u61 u62 u63 u64 u65 u66 u67 u68 u69 u70 u71 u72 u73 u74 u75 u76 u77 u78 u79 u80 u81 u82 u83 u84 u85 u86 u87 u88 u89 u90 u91 u92 u93 u94 u95 u96 u97 u98 u99 u100 u101 u102 u103 u104 u105 u106 u107 u108 u109 u110 u111 u112 u113 u114 u115 u116 u117 u118 u119 u120 u121 u122 u123 u124 u125 u126 u127 u128 u129 u130 u131 u132 u133 u134 u135 u136 u137 u138 u139 u140 u141 u142 u143 u144 u145 u146 u147 u148:Value}(Pb cap c n:Nat)(us:Nat→Value)(ps:Nat→List Int)(w:World)(Q:Exit→Act→World→Prop)(hc1:1≤c)(hc6:c≤6)(hn:n≤60)(hr:∀i,i<c→w.cell? ⟨Pb,0+i,none⟩=some (us i))(hu:∀i,i<c→I_ w (us i) (ps i))(hl:∀i,i<c→(ps i).length=n)(hB:∀i,i<c→∀x,x∈ps i→-268435455≤x∧x≤268435455)
  (hQ:∀(v13 v14 v15 v16 v105 v106 v107 v108 v109 v110 v111 v112 v113 v114 v115 v116 v117 v118 v119 v120 v121 v122 v123 v124 v125 v126 v127 v128 v129 v130 v131:Value) (wx:World),FrZ wx w.heap.size v13 (sumX n c ps)→Below w.heap.size w wx→Q .normal { tmps:=#[u0,u1,u2,u3,u4,u5,.slice (some ⟨Pb,0,none⟩) c cap,u7,u8,u9,u10,u11,u12,v13,v14,v15,v16,u17,u18,u19,u20,u21,u22,u23,u24,u25,u26,u27,u28,u29,u30,u31,u32,u33,u34,u35,u36,u37,u38,u39,u40,u41,u42,u43,u44,u45,u46,u47,u48,u49,u50,u51,u52,u53,u54,u55,u56,u57,u58,u59,u60,u61,u62,u63,u64,u65,u66,u67,u68,u69,u70,u71,u72,u73,u74,u75,u76,u77,u78,u79,u80,u81,u82,u83,u84,u85,u86,u87,u88,u89,u90,u91,u92,u93,u94,u95,u96,u97,u98,u99,u100,u101,u102,u103,u104,v105,v106,v107,v108,v109,v110,v111,v112,v113,v114,v115,v116,v117,v118,v119,v120,v121,v122,v123,v124,v125,v126,v127,v128,v129,v130,v131,u132,u133,u134,u135,u136,u137,u138,u139,u140,u141,u142,u143,u144,u145,u146,u147,u148],defers:=[] } wx):Code.wp Try.prog (List.foldl stepC ((Try.f3.body).getD .skip) [1,1,1,1,1,1,1,1,1,1,1,0]) Q { tmps:=#[u0,u1,u2,u3,u4,u5,.slice (some ⟨Pb,0,none⟩) c cap,u7,u8,u9,u10,u11,u12,.slice none 0 0,u14,u15,u16,u17,u18,u19,u20,u21,u22,u23,u24,u25,u26,u27,u28,u29,u30,u31,u32,u33,u34,u35,u36,u37,u38,u39,u40,u41,u42,u43,u44,u45,u46,u47,u48,u49,u50,u51,u52,u53,u54,u55,u56,u57,u58,u59,u60,u61,u62,u63,u64,u65,u66,u67,u68,u69,u70,u71,u72,u73,u74,u75,u76,u77,u78,u79,u80,u81,u82,u83,u84,u85,u86,u87,u88,u89,u90,u91,u92,u93,u94,u95,u96,u97,u98,u99,u100,u101,u102,u103,u104,u105,u106,u107,u108,u109,u110,u111,u112,u113,u114,u115,u116,u117,u118,u119,u120,u121,u122,u123,u124,u125,u126,u127,u128,u129,u130,u131,u132,u133,u134,u135,u136,u137,u138,u139,u140,u141,u142,u143,u144,u145,u146,u147,u148],defers:=[] } w:=by
 have HR:=h_ hr
 have HU:=h_ hu
 have HL:=h_ hl
 have HBD:=h_ hB
 have HQ:=h_ hQ
 have HS:Hid (∀i,i<c→∃a k,us i=.slice a n k):=h_ fun i hi=>by
  obtain ⟨a,k,e,-⟩:=hu i hi
  exact ⟨a,k,by rw[e,hl i hi]⟩
 obtain ⟨a0,k0,e0⟩:=HS.out 0 (by omega)
 have r0:=hr 0 (by omega)
 rw[e0]at r0
 clear hr hu hl hB hQ e0
 simp only[List.foldl,stepC,Try.f3,Option.getD]
 go_wp2_with fail
 go_loopw [13,14,15,16] (fun v13 v14 _ _ wr=>∃(i:Nat) (xi:Int),i≤n∧xi=(i:Int)∧v14=.int .i64 xi∧OwnZ wr w.heap.size v13 ((sumX n c ps).take i)∧AllI wr v13∧Below w.heap.size w wr) (fun _ v14 _ _ _=>n - (intOf v14).toNat)
 case atStart=>exact ⟨0,0,Nat.zero_le _,rfl,rfl,OwnZ.nil _ _,AllI.nil _ _ _,Below.refl _ _⟩
 case round=>
  obtain ⟨i,xi,hi,hxi,rfl,ho,ha,hb⟩:=hrel
  have HXI:=h_ hxi
  have HO:=h_ ho
  have HA:=h_ ha
  have HB:=h_ hb
  have hx0:0≤xi:=by omega
  have hx6:xi≤60:=by omega
  have HQL:=h_ (show (sumX n c ps).length=n from sumX_len)
  have hlen:((sumX n c ps).take i).length=i:=by rw[List.length_take,HQL.out];omega
  obtain ⟨la,lk,rfl⟩:=ho.shape
  rw[hlen]at HO HA ⊢
  have HLEN:=h_ hlen
  have c1:=(HB.out.cell (World.block_lt_of_cell? w _ r0)).trans r0
  obtain ⟨W1,hW1⟩:=gM (wr)
  subst hW1
  clear hxi ho ha hb hlen
  by_cases hlt:xi<(n:Int)
  ·have hin:i<n:=by have:=HXI.out;omega
   go_wp2_with fail
   go_loopw [15,16] (fun v15 v16 w2=>∃(k:Nat) (xk s:Int),k≤c∧xk=(k:Int)∧v16=.int .i64 xk∧v15=.int .i64 s∧s=plainS (fun j=>(ps j).getD i 0) k∧w2=W1) (fun _ v16 _=>c - (intOf v16).toNat)
   case atStart=>exact ⟨0,0,0,Nat.zero_le _,rfl,rfl,rfl,rfl,rfl⟩
   case round=>
    obtain ⟨k,xk,s,hk,hxk,rfl,rfl,hs,hw⟩:=hrel
    have HXK:=h_ hxk
    have HSS:=h_ hs
    have HW:=h_ hw
    have hk0:0≤xk:=by omega
    have hk6:xk≤6:=by omega
    have hgd:∀j,j<c→-268435455≤(ps j).getD i 0∧(ps j).getD i 0≤268435455:=fun j hj=>by
     have hl:=HL.out j hj
     have:(ps j)[i]?=some (ps j)[i]:=List.getElem?_eq_getElem (by rw[hl];exact hin)
     rw[List.getD_eq_getElem?_getD,this]
     exact HBD.out j hj _ (List.getElem_mem _)
    have HGD:=h_ hgd
    have hsb:-1610612730≤s∧s≤1610612730:=by
     have:=plainS_bd (f:=fun j=>(ps j).getD i 0) k (by omega) fun j hj=>hgd j (by omega)
     rw[←hs]at this
     omega
    clear hxk hs hw hgd
    by_cases hl2:xk<(c:Int)
    ·have hkc:k<c:=by have:=HXK.out;omega
     obtain ⟨a,q,e⟩:=HS.out k hkc
     have c2:=(HB.out.cell (World.block_lt_of_cell? w _ (HR.out k hkc))).trans (HR.out k hkc)
     obtain ⟨ab,ac,ae,h4,h5,h6⟩:=HU.out k hkc
     rw[e]at ae c2
     obtain ⟨ae1,-,ae3⟩:=Value.slice.inj ae
     subst ae1 ae3
     obtain ⟨B,off,rfl,hc⟩:=h6.resolve_left (fun e=>by have:=HL.out k hkc;rw[e]at this;simp at this;omega)
     obtain ⟨x,hx⟩:∃x,(ps k)[i]?=some x:=⟨_,List.getElem?_eq_getElem (by rw[HL.out k hkc];exact hin)⟩
     have hbx:=HBD.out k hkc x (List.mem_of_getElem? hx)
     have c3:W1.cell? ⟨B,off+i,none⟩=some (.int .i64 x):=by
      have h0:=hc i x hx
      exact (HB.out.cell (World.block_lt_of_cell? w _ h0)).trans h0
     rw[show 0+k=xk.toNat by have:=HXK.out;omega,←HW.out]at c2
     rw[show off+i=off+xi.toNat by have:=HXI.out;omega,←HW.out]at c3
     obtain ⟨y,hy⟩:=gN (s+x)
     have hw0:IntKind.i64.wrap (s+x)=y:=by rw[IntKind.wrap_i64];omega
     have hv0:wrap64 (s+x)=y:=by unfold wrap64;omega
     have HY:=h_ (show y=plainS (fun j=>(ps j).getD i 0) (k+1) by
      show y=plainS (fun j=>(ps j).getD i 0) k+(ps k).getD i 0
      rw[←HSS.out,List.getD_eq_getElem?_getD,hx,←hy]
      rfl)
     clear hc hx h4 h5 e
     go_wp2_with fail
     go_roundw
     case rel=>exact ⟨k+1,_,_,by omega,by have:=HXK.out;omega,rfl,rfl,by first|exact HY.out|(rw[hv0];exact HY.out)|(rw[hw0];exact HY.out)|(rw[hy];exact HY.out),HW.out⟩
     case measure=>have:=HXK.out;simp[intOf];omega
    ·obtain rfl:k=c:=by have:=HXK.out;omega
     have hTK:(sumX n k ps).take (i+1)=(sumX n k ps).take i++[s]:=by
      have h1:(sumX n k ps)[i]?=some s:=by rw[HSS.out];exact sumX_at hin
      obtain ⟨q1,q2⟩:=List.getElem?_eq_some_iff.1 h1
      rw[List.take_succ_eq_append_getElem q1,q2]
     have HTK:=h_ hTK
     obtain ⟨W2,hW2⟩:=gM (wr)
     subst hW2
     have HU1:=h_ (show I_ (W2.alloc (.cells #[.int .i64 s] 3)) (.slice (some ⟨W2.heap.size,0,none⟩) 1 1) [s] from ⟨_,1,rfl,Nat.le_refl _,by unfold maxLen;omega,.inr ⟨_,0,rfl,fun q z hq=>by
      match q,hq with
      |0,hq=>
       have hq:s=z:=by simpa using hq
       subst hq
       rw[Joins.cell_of_block (heap_alloc_new _ _)]
       rfl⟩⟩)
     have HO1:=h_ (show OwnZ (W2.alloc (.cells #[.int .i64 s] 3)) w.heap.size (.slice la i lk) ((sumX n k ps).take i) by rw[HW.out];exact HO.out.alloc _)
     have HA1:=h_ (show AllI (W2.alloc (.cells #[.int .i64 s] 3)) (.slice la i lk) by
      rw[HW.out]
      exact HA.out.block fun x n k e=>heap_alloc_old _ _ (HO.out.rlt x n k e).2)
     have HBW:=h_ (show Below w.heap.size w (W2.alloc (.cells #[.int .i64 s] 3)) by rw[HW.out];exact bl_nx HB.out (o_ _ _))
     clear hTK
     go_wp2_with (at_builtin;refine app_zsI (w:=W2.alloc (.cells #[.int .i64 s] 3)) rfl _ _ rfl w.heap.size (.slice la i lk) (.slice (some ⟨W2.heap.size,0,none⟩) 1 1) ((sumX n k ps).take i) [s] rfl HO1.out HA1.out rfl HU1.out ?nn ?h1 ?h2 ?_)
     case nn=>exact fun _ _ e=>by cases e
     case h1=>first|(rw[HLEN.out];simp;omega)|omega
     case h2=>first|exact HBW.out.size|(have:=HBW.out.size;simp at this ⊢;omega)
     intro v' w' ho' ha' hb'
     have HO2:=h_ (show OwnZ w' w.heap.size v' ((sumX n k ps).take (i+1)) by rw[HTK.out];exact ho')
     have HA2:=h_ ha'
     have HB2:=h_ (hb' w HBW.out (Nat.le_refl _))
     clear ho' ha' hb'
     go_wp2_with fail
     go_roundw
     case rel=>exact ⟨i+1,_,by omega,by have:=HXI.out;omega,rfl,HO2.out,HA2.out,HB2.out⟩
     case measure=>have:=HXI.out;simp[intOf];omega
  ·have htn:(sumX n c ps).take i=sumX n c ps:=List.take_of_length_le (by rw[HQL.out];have:=HXI.out;omega)
   have HF:=h_ (FrZ.of (htn▸HO.out:OwnZ W1 w.heap.size (.slice la i lk) (sumX n c ps)) HA.out)
   clear htn
   go_wp2_with fail
   exact HQ.out _ _ _ _ _ _ _ _ _ _ _ _ _ _ _ _ _ _ _ _ _ _ _ _ _ _ _ _ _ _ _ W1 HF.out HB.out
end Go.Proofs.Ytniloklglpchfai
