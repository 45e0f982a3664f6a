/- A round, all in all: each of its lists holds the plain sums. -/
import Derived.Test.YtniloklglpchfaiRgJ
import Derived.Test.YtniloklglpchfaiPkRgZ
namespace Go.Proofs.Ytniloklglpchfai
open Go Go.RowKit Go.Conc
theorem stN_find{n c:Nat}(hc:1≤c)(hc6:c≤6){x:Nat}:∀k,k≤c→x<stN n c k→∃p,p<c∧stN n c p≤x∧x<stN n c (p+1)
 |0,_,h=>by rw[stN_0 hc hc6]at h;omega
 |k+1,hk,h=>by
  by_cases q:x<stN n c k
  ·exact stN_find hc hc6 k (by omega) q
  ·exact ⟨k,by omega,by omega,h⟩
theorem pcL_ext{n c:Nat}(hc:1≤c)(hc6:c≤6){ts us:List Int}(ht:ts.length=n)(hu:us.length=n)(h:∀p,p<c→pcL n c p ts=pcL n c p us):ts=us:=by
 refine List.ext_getElem? fun x=>?_
 by_cases hx:x<n
 ·obtain ⟨p,hp,h1,h2⟩:=stN_find (n:=n) hc hc6 (x:=x) c (Nat.le_refl _) (by rw[stN_c hc hc6];exact hx)
  have h3:x - stN n c p<stN n c (p+1) - stN n c p:=by omega
  have h4:=pcL_at (l:=ts) h3
  have h5:=pcL_at (l:=us) h3
  rw[show stN n c p+(x - stN n c p)=x by omega]at h4 h5
  rw[←h4,←h5,h p hp]
 ·rw[List.getElem?_eq_none (by omega),List.getElem?_eq_none (by omega)]
theorem sumX_len{n c:Nat}{ps:Nat→List Int}:(sumX n c ps).length=n:=by unfold sumX;simp
def Rng.Summed (y:Rng) (W:World):Prop:=∀w,w<y.c→∃z:Nat×Nat,z.2≤z.1∧W.heap[y.T w]?=some (.cells ((sumX y.n y.c y.ps).map (Value.int .i64)).toArray 3 z)
theorem Rng.Sums.plain{y:Rng}{W:World}(S:y.Sums W)(K:y.Ok)(hB:∀i,i<y.c→∀x,x∈y.ps i→-268435455≤x∧x≤268435455):y.Summed W:=fun w hw=>by
 obtain ⟨z,ts,h1,h2,h3,h4⟩:=S w hw
 obtain rfl:=pcL_ext K.c1 K.c6 h3 sumX_len fun p hp=>(h4 p hp).trans (partX_sum K.c1 K.c6 hp K.len hB)
 exact ⟨z,h1,h2⟩
theorem round_whole{Goal2:Stand}{W:World}{Pb po cap c n:Nat}{us:Nat→Value}{O:Nat→Option Nat}{ps:Nat→List Int}{k0:Nat→Prop}(hPt:Parts W Pb po c n us O ps)(hk:∀B,kP Pb c O B→k0 B)(hK:Lies W k0)(hc1:1≤c)(hc6:c≤6)(hn:n≤60)(hB:∀i,i<c→∀x,x∈ps i→-268435455≤x∧x≤268435455)
  {kn ow:Nat→Prop} (hl:∀B,kn B→B<W.heap.size) (how:∀B,ow B→kn B) (hkn:∀B,k0 B→kn B) {c0:Frame} {cs:List Frame} {nE:Nat}
  (hend:∀(y:Rng) (Wb Zb:Nat) (W2:World),y.Ok→y.Apart Wb k0→y.c=c→y.n=n→y.ps=ps→y.X=StillB W→G0≤Zb→¬y.kE Wb k0 Zb→y.Bh Wb k0 Zb W2 c→y.Summed W2→∃ρ,Path (mkE Try.prog rgF rgF) Goal2 nE ρ (G (c0.finish (.slice (some ⟨Zb,0,none⟩) c c)) cs) W2 (y.kZ Wb k0 Zb) (y.oZ Zb)):
  ∃ρ,Path (mkE Try.prog rgF rgF) (StartG (mkE Try.prog rgF rgF) Goal2) 40 ρ (G (Frame.enter Try.prog 9 #[.slice (some ⟨Pb,po,none⟩) c cap] .normal) (c0::cs)) W kn ow:=by
 refine round_path hPt hk hK hc1 hc6 hn hl how hkn fun y Wb U hU K A ec en ep eX a f ops W2 hs f3 M S=>⟨_,round_behind K A hU (nE:=nE) (fun Zb W3 hZg hZn BB=>?_) hs f3 M S⟩
 have h:=hend y Wb Zb W3 K A ec en ep eX hZg hZn (ec▸BB) (BB.S.plain K fun i hi x hx=>hB i (ec▸hi) x (ep▸hx))
 rw[ec]
 exact h
theorem StillB.trans{W W1:World}{B:Nat}{o:Option Obj}(h:StillB W B W1.heap[B]?)(g:StillB W1 B o):StillB W B o:=by
 obtain ⟨a,e,z,z1,h1,h2,h3⟩:=h
 obtain ⟨a',e',z',z2,g1,g2,g3⟩:=g
 rw[h2]at g1
 cases g1
 exact ⟨a,e,z,z2,h1,g2,g3⟩
def kS (k0:Nat→Prop) (c Zb:Nat) (T:Nat→Nat):Nat→Prop:=fun B=>k0 B∨B=Zb∨∃i,i<c∧B=T i
def oS (c Zb:Nat) (T:Nat→Nat):Nat→Prop:=fun B=>B=Zb∨∃i,i<c∧B=T i
structure SumOut (W W2:World) (k0:Nat→Prop) (c:Nat) (S:List Int) (Zb:Nat) (T:Nat→Nat):Prop where
 g0:G0≤W2.heap.size
 still:∀B,k0 B→StillB W B W2.heap[B]?
 row:∃z:Nat×Nat,z.2≤z.1∧W2.heap[Zb]?=some (.cells ((List.range c).map fun i=>Value.slice (some ⟨T i,0,none⟩) S.length S.length).toArray 27 z)
 ts:∀i,i<c→∃z:Nat×Nat,z.2≤z.1∧W2.heap[T i]?=some (.cells (S.map (Value.int .i64)).toArray 3 z)
 gz:G0≤Zb
 gt:∀i,i<c→G0≤T i
 kz:¬k0 Zb
 kt:∀i,i<c→¬k0 (T i)
 tz:∀i,i<c→T i≠Zb
 tt:∀i j,i<c→j<c→T i=T j→i=j
theorem SumOut.of{y:Rng}{W W1 W2:World}{k0:Nat→Prop}{Wb Zb:Nat}(hS:∀B,k0 B→StillB W B W1.heap[B]?)(K:y.Ok)(A:y.Apart Wb k0)(eX:y.X=StillB W1)(hZg:G0≤Zb)(hZn:¬y.kE Wb k0 Zb)(BB:y.Bh Wb k0 Zb W2 y.c)(S:y.Summed W2):SumOut W W2 k0 y.c (sumX y.n y.c y.ps) Zb y.T:=by
 refine ⟨BB.M.g0,fun B hB=>(hS B hB).trans (eX▸BB.M.x B hB),?_,S,hZg,fun i hi=>(K.wk i hi).gt,fun q=>hZn (.inl (.inl q)),A.t0,fun i hi e=>hZn (e▸.inr ⟨i,Nat.zero_le _,hi,rfl⟩),A.tt⟩
 obtain ⟨z,h1,h2⟩:=BB.z
 refine ⟨z,h1,h2.trans ?_⟩
 have e:y.zC y.c=((List.range y.c).map fun i=>Value.slice (some ⟨y.T i,0,none⟩) (sumX y.n y.c y.ps).length (sumX y.n y.c y.ps).length).toArray:=by
  unfold Rng.zC
  congr 1
  refine List.map_congr_left fun i hi=>?_
  rw[if_pos (List.mem_range.1 hi),sumX_len]
  rfl
 rw[e]
section
variable {E:Env} {Goal:Stand} {n m:Nat} {b:Frame} {a:Act} {f:Nat→Value} {k:List Item} {cs:List Frame} {W:World} {kn ow:Nat→Prop}
theorem path_back{ops:Array Oper}{i d:Nat}{rest:List Nat}{o:Oper}{v:Value}(ho:ops[i]?=some o)(hdst:o.dst=some d)(hd:d<m)(hs:Slots a m f)(hp:∀a',Slots a' m (upF f d v)→∃ρ,Path E Goal n ρ (G (b.at a' (.inRegion ops rest::k)) cs) W kn ow):∃ρ,Path E Goal n ρ (G ((b.at a (.inRegion ops (i::rest)::k)).finish v) cs) W kn ow:=by
 have e:G ((b.at a (.inRegion ops (i::rest)::k)).finish v) cs=G (b.at (a.put o.dst v) (.inRegion ops rest::k)) cs:=by
  rw[←served_put (cs:=cs) ho]
  rfl
 rw[e,hdst]
 exact hp _ (hs.put hd v)
end
set_option linter.unusedSimpArgs false in
set_option linter.unusedVariables false in
set_option maxRecDepth 100000 in
set_option maxHeartbeats 4000000 in
theorem sum_path{Goal2:Stand}{W:World}{Pb po cap c n:Nat}{us:Nat→Value}{O:Nat→Option Nat}{ps:Nat→List Int}{k0:Nat→Prop}(hPt:Parts W Pb po c n us O ps)(hk:∀B,kP Pb c O B→k0 B)(hK:Lies W k0)(hc1:1≤c)(hc6:c≤6)(hn:n≤60)(hB:∀i,i<c→∀x,x∈ps i→-268435455≤x∧x≤268435455)
  {kn ow:Nat→Prop} (hl:∀B,kn B→B<W.heap.size) (how:∀B,ow B→kn B) (hkn:∀B,k0 B→kn B) {c0:Frame} {cs:List Frame} {nE:Nat}
  (hend:∀(W2:World) (Zb:Nat) (T:Nat→Nat),SumOut W W2 k0 c (sumX n c ps) Zb T→∃ρ,Path (mkE Try.prog rgF rgF) Goal2 nE ρ (G (c0.finish (.tuple #[.slice (some ⟨Zb,0,none⟩) c c,.nilIface])) cs) W2 (kS k0 c Zb T) (oS c Zb T)):
  ∃ρ,Path (mkE Try.prog rgF rgF) (StartG (mkE Try.prog rgF rgF) Goal2) 100 ρ (G (Frame.enter Try.prog 4 #[.slice (some ⟨Pb,po,none⟩) c cap] .normal) (c0::cs)) W kn ow:=by
 have hP:(mkE Try.prog rgF rgF).P=Try.prog:=rfl
 have hke:(base 4).kind≠.early:=by decide
 have hH:Here W kn ow:=⟨hl,how⟩
 refine path_begin (m:=12) Try.func4 rfl rfl (by simp) fun a hs=>?_
 refine path_seq hH ?_
 refine path_region hH rfl ?_
 refine path_slot hH hs (.slice none 0 0) rfl rfl (by decide) (fun _=>rfl) hke (fun a W' h=>by clear h;rw[hP];go_simp<;>omega) (fun a W' h e he=>by have hm:=mem_listed he;clear h;rw[hP]at hm;simp[go_sem,Act.eval,-Array.getD_eq_getD_getElem?]at hm) fun a hs'=>?_
 replace hs:=hs'
 clear hs'
 refine path_slot hH hs (.nilIface) rfl rfl (by decide) (fun _=>rfl) hke (fun a W' h=>by clear h;rw[hP];go_simp<;>omega) (fun a W' h e he=>by have hm:=mem_listed he;clear h;rw[hP]at hm;simp[go_sem,Act.eval,-Array.getD_eq_getD_getElem?]at hm) fun a hs'=>?_
 replace hs:=hs'
 clear hs'
 refine path_region_end hH ?_
 refine path_seq hH ?_
 refine path_seq hH ?_
 refine path_region hH rfl ?_
 refine path_slot hH hs (.slice (some ⟨Pb,po,none⟩) c cap) rfl rfl (by decide) (fun _=>rfl) hke (fun a W' h=>by have e0:a.tmps.getD 0 undef=.slice (some ⟨Pb,po,none⟩) c cap:=(h 0).trans (by simp[upF,slot0]);clear h;rw[hP];go_simp<;>omega) (fun a W' h e he=>by have hm:=mem_listed he;have e0:a.tmps.getD 0 undef=.slice (some ⟨Pb,po,none⟩) c cap:=(h 0).trans (by simp[upF,slot0]);clear h;rw[hP]at hm;simp[go_sem,Act.eval,e0,-Array.getD_eq_getD_getElem?]at hm) fun a hs'=>?_
 replace hs:=hs'
 clear hs'
 refine path_check (cap:=cap) hPt hk hK hc1 hc6 hn (fun i hi x hx=>by have:=hB i hi x hx;omega) hl hkn hs rfl rfl (by decide) (fun _=>rfl) hke rfl (p:=5) (show _=_ by simp[upF,slot0]) fun W1 kn2 ow2 hPt1 hK1 hS1 hgr hk2 ho2 hl2 a hs'=>?_
 replace hs:=hs'
 clear hs' hH
 have hH:Here W1 kn2 ow2:=⟨hl2,ho2⟩
 refine path_slot hH hs (.nilIface) rfl rfl (by decide) (fun _=>rfl) hke (fun a W' h=>by have e0:a.tmps.getD 6 undef=.nilIface:=(h 6).trans (by simp[upF,slot0]);clear h;rw[hP];go_simp<;>omega) (fun a W' h e he=>by have hm:=mem_listed he;have e0:a.tmps.getD 6 undef=.nilIface:=(h 6).trans (by simp[upF,slot0]);clear h;rw[hP]at hm;simp[go_sem,Act.eval,e0,-Array.getD_eq_getD_getElem?]at hm) fun a hs'=>?_
 replace hs:=hs'
 clear hs'
 refine path_region_end hH ?_
 refine path_seq hH ?_
 refine path_region hH rfl ?_
 refine path_slot hH hs (.nilIface) rfl rfl (by decide) (fun _=>rfl) hke (fun a W' h=>by have e0:a.tmps.getD 4 undef=.nilIface:=(h 4).trans (by simp[upF,slot0]);clear h;rw[hP];go_simp<;>omega) (fun a W' h e he=>by have hm:=mem_listed he;have e0:a.tmps.getD 4 undef=.nilIface:=(h 4).trans (by simp[upF,slot0]);clear h;rw[hP]at hm;simp[go_sem,Act.eval,e0,-Array.getD_eq_getD_getElem?]at hm) fun a hs'=>?_
 replace hs:=hs'
 clear hs'
 refine path_slot hH hs (.bool false) rfl rfl (by decide) (fun _=>rfl) hke (fun a W' h=>by have e0:a.tmps.getD 7 undef=.nilIface:=(h 7).trans (by simp[upF,slot0]);clear h;rw[hP];go_simp<;>omega) (fun a W' h e he=>by have hm:=mem_listed he;have e0:a.tmps.getD 7 undef=.nilIface:=(h 7).trans (by simp[upF,slot0]);clear h;rw[hP]at hm;simp[go_sem,Act.eval,e0,-Array.getD_eq_getD_getElem?]at hm;rw[show Sem.events Try.prog (binOp BinOp.neq 24 Value.nilIface Value.nilIface) W' #[]=#[] from by first|rfl|(simp[binOp,go_sem];done)]at hm;simp at hm) fun a hs'=>?_
 replace hs:=hs'
 clear hs'
 refine path_region_end hH ?_
 refine path_cond hH (t:=false) ((hs.at_ 8).trans (by simp[upF])) ?_
 refine path_skip hH ?_
 refine path_seq hH ?_
 refine path_region hH rfl ?_
 refine path_slot hH hs (.slice (some ⟨Pb,po,none⟩) c cap) rfl rfl (by decide) (fun _=>rfl) hke (fun a W' h=>by have e0:a.tmps.getD 0 undef=.slice (some ⟨Pb,po,none⟩) c cap:=(h 0).trans (by simp[upF,slot0]);clear h;rw[hP];go_simp<;>omega) (fun a W' h e he=>by have hm:=mem_listed he;have e0:a.tmps.getD 0 undef=.slice (some ⟨Pb,po,none⟩) c cap:=(h 0).trans (by simp[upF,slot0]);clear h;rw[hP]at hm;simp[go_sem,Act.eval,e0,-Array.getD_eq_getD_getElem?]at hm) fun a hs'=>?_
 replace hs:=hs'
 clear hs'
 have e10:=(hs.at_ 10).trans (show _=.slice (some ⟨Pb,po,none⟩) c cap by simp[upF,slot0])
 refine path_enter_to hH.knl (fun _ q=>q) (fun _ q=>q) hH.owk #[.slice (some ⟨Pb,po,none⟩) c cap] rfl rfl hke rfl (fn:=Try.f9) Try.func9 rfl rfl (by simp[Act.eval,e10,-Array.getD_eq_getD_getElem?]) ?_
 refine Path.up (N:=40) (by omega) ?_
 refine round_whole hPt1 hk hK1 hc1 hc6 hn hB hl2 ho2 hk2 (nE:=nE+5) fun y Wb Zb W2 K A ec en ep eX hZg hZn BB S=>?_
 refine path_back (d:=11) (m:=12) rfl rfl (by decide) hs fun a hs'=>?_
 replace hs:=hs'
 clear hs' hH
 have hH:=BB.here
 refine path_slot hH hs (.slice (some ⟨Zb,0,none⟩) c c) rfl rfl (by decide) (fun _=>rfl) hke (fun a W' h=>by have e0:a.tmps.getD 11 undef=.slice (some ⟨Zb,0,none⟩) c c:=(h 11).trans (by simp[upF,slot0]);clear h;rw[hP];go_simp<;>omega) (fun a W' h e he=>by have hm:=mem_listed he;have e0:a.tmps.getD 11 undef=.slice (some ⟨Zb,0,none⟩) c c:=(h 11).trans (by simp[upF,slot0]);clear h;rw[hP]at hm;simp[go_sem,Act.eval,e0,-Array.getD_eq_getD_getElem?]at hm) fun a hs'=>?_
 replace hs:=hs'
 clear hs'
 refine path_slot hH hs (.nilIface) rfl rfl (by decide) (fun _=>rfl) hke (fun a W' h=>by clear h;rw[hP];go_simp<;>omega) (fun a W' h e he=>by have hm:=mem_listed he;clear h;rw[hP]at hm;simp[go_sem,Act.eval,-Array.getD_eq_getD_getElem?]at hm) fun a hs'=>?_
 replace hs:=hs'
 clear hs'
 have hsub:∀B,kS k0 c Zb y.T B→y.kZ Wb k0 Zb B:=fun B q=>by
  rcases q with q|q|⟨i,hi,q⟩
  ·exact .inl (.inl (.inl q))
  ·exact .inr q
  ·exact .inl (.inr ⟨i,Nat.zero_le _,ec▸hi,q⟩)
 refine path_region_end_less (kn1:=kS k0 c Zb y.T) (ow1:=oS c Zb y.T) hH.knl hsub (fun B q=>?_) (fun B q=>.inr q) ?_
 ·rcases q with q|⟨i,hi,q⟩
  ·exact .inr q
  ·exact .inl ⟨i,Nat.zero_le _,ec▸hi,q⟩
 have hH:Here W2 (kS k0 c Zb y.T) (oS c Zb y.T):=⟨fun B q=>BB.here.knl B (hsub B q),fun B q=>.inr q⟩
 have e2:=(hs.at_ 2).trans (show _=.slice (some ⟨Zb,0,none⟩) c c by simp[upF])
 have e3:=(hs.at_ 3).trans (show _=Value.nilIface by simp[upF])
 refine path_ret (v:=.tuple #[.slice (some ⟨Zb,0,none⟩) c c,.nilIface]) hH rfl hs.defers (by rw[hP];exact Try.func4) (fun W3=>by simp[results,Try.results4,go_sem,e2,e3,-Array.getD_eq_getD_getElem?]) (fun W3=>by simp[results,Try.results4,go_sem,e2,e3,-Array.getD_eq_getD_getElem?]) ?_
 subst ec en ep
 exact hend W2 Zb y.T (SumOut.of hS1 K A eX hZg hZn BB S)
theorem part_own{W:World}{B n:Nat}{xs:List Int}{e:TypeId}{z:Nat×Nat}(h:W.heap[B]?=some (.cells (xs.map (Value.int .i64)).toArray e z))(_hz:z.2≤z.1)(hn:n≤60):
  ∃(B' off cap:Nat) (cs:Array Value) (e':TypeId) (z':Nat×Nat),some B=some B'∧Value.slice (some ⟨B,0,none⟩) n n=.slice (some ⟨B',off,none⟩) n cap∧n≤cap∧cap≤maxLen∧W.heap[B']?=some (.cells cs e' z')∧(∀i,z'.1≤i→i<z'.2→0≤i)∧(∀v∈cs,∃q,v=.int .i64 q)∧∀(j:Nat) (y:Int),xs[j]?=some y→cs[off+j]?=some (.int .i64 y):=by
 refine ⟨B,0,n,_,e,z,rfl,rfl,Nat.le_refl _,by unfold maxLen;omega,h,fun i q1 q2=>by omega,fun v hv=>?_,fun j y hj=>?_⟩
 ·obtain ⟨q,-,rfl⟩:=List.mem_map.1 (List.mem_toArray.1 hv)
  exact ⟨q,rfl⟩
 ·rw[Nat.zero_add,List.getElem?_toArray,List.getElem?_map,hj]
  rfl
theorem parts_two{W:World}{Pb B0 B1 n:Nat}{xs ys:List Int}{e e0 e1:TypeId}{z z0 z1:Nat×Nat}(hP:W.heap[Pb]?=some (.cells #[.slice (some ⟨B0,0,none⟩) n n,.slice (some ⟨B1,0,none⟩) n n] e z))(_hz:z.2≤z.1)(h0:W.heap[B0]?=some (.cells (xs.map (Value.int .i64)).toArray e0 z0))(hz0:z0.2≤z0.1)(h1:W.heap[B1]?=some (.cells (ys.map (Value.int .i64)).toArray e1 z1))(hz1:z1.2≤z1.1)
  (hx:xs.length=n) (hy:ys.length=n) (hn:n≤60) (g0:G0≤W.heap.size) (gp:G0≤Pb) (gb0:G0≤B0) (gb1:G0≤B1):
  Parts W Pb 0 2 n (fun i=>.slice (some ⟨if i=0 then B0 else B1,0,none⟩) n n) (fun i=>some (if i=0 then B0 else B1)) (fun i=>if i=0 then xs else ys):=by
 have two:∀i,i<2→i=0∨i=1:=fun i h=>by omega
 refine ⟨⟨_,e,z,hP,fun i q1 q2=>by omega,fun i hi=>?_⟩,fun i hi=>.inr ?_,fun i hi=>?_,g0,gp,fun i hi B hB=>?_⟩
 ·rcases two i hi with rfl|rfl<;>rfl
 ·rcases two i hi with rfl|rfl
  ·exact part_own h0 hz0 hn
  ·exact part_own h1 hz1 hn
 ·rcases two i hi with rfl|rfl
  ·exact hx
  ·exact hy
 ·rcases two i hi with rfl|rfl
  ·cases hB;exact gb0
  ·cases hB;exact gb1
end Go.Proofs.Ytniloklglpchfai
