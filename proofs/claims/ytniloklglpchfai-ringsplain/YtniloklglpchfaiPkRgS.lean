/- A ring is started and joined: one step on main's way. -/
import Derived.Test.YtniloklglpchfaiRgR
namespace Go.Proofs.Ytniloklglpchfai
open Go Go.RowKit Go.Conc
def Rng.on (y:Rng) (b0:Nat):Rng:={ y with b0:=b0 }
section
variable {y:Rng} {Wb:Nat} {k0:Nat→Prop} {W:World} {w b0:Nat}
theorem Rng.Mn.on(M:y.Mn Wb k0 W w)(b0:Nat):(y.on b0).Mn Wb k0 W w:=⟨M.g0,M.kl,M.row,M.mem,M.S,M.x⟩
theorem Rng.Mn.off(M:(y.on b0).Mn Wb k0 W w):y.Mn Wb k0 W w:=⟨M.g0,M.kl,M.row,M.mem,M.S,M.x⟩
theorem Rng.Apart.on(A:y.Apart Wb k0)(b0:Nat):(y.on b0).Apart Wb k0:=⟨A.o,A.t0,A.tw,A.ts,A.tt⟩
theorem Rng.Ok.on(K:y.Ok)(h:1≤b0):(y.on b0).Ok:=⟨K.c1,K.c6,h,K.len,K.inj,K.wk⟩
def Rng.Sums (y:Rng) (W:World):Prop:=∀w,w<y.c→∃(z:Nat×Nat) (ts:List Int),z.2≤z.1∧W.heap[y.T w]?=some (.cells (ts.map (Value.int .i64)).toArray 3 z)∧ts.length=y.n∧∀p,p<y.c→pcL y.n y.c p ts=partX y.n y.c y.ps p (y.c - 1)
def Rng.kE (y:Rng) (Wb:Nat) (k0:Nat→Prop):Nat→Prop:=fun B=>y.kM Wb k0 y.c B∨y.oM 0 B
theorem round_starts(K:y.Ok)(A:y.Apart Wb k0){c0:Frame}{cs:List Frame}{T U:Code}(hT:IsT T)(hU:IsU U){Goal2:Stand}
  (hbeh:∀a f ops W,Slots a 40 f→f 3=wslV Wb y.c→y.Mn Wb k0 W y.c→y.Sums W→∃n ρ,Path (mkE Try.prog rgF rgF) Goal2 n ρ (G (bRound.at a [.inRegion ops [],.code U]) (c0::cs)) W (y.kE Wb k0) (y.oM 0))
  {a:Act} {f:Nat→Value} (hs:Slots a 40 f) (f3:f 3=wslV Wb y.c) (f4:f 4=.pointer (some ⟨y.Wg,0,none⟩)) (M:y.Mn Wb k0 W 0) {kn ow:Nat→Prop}
  (hC:∀j,j<y.c→ow (y.C j)∧W.heap[y.C j]?=some (.chan 1 #[] false 0 0 false)∧y.C j≠y.Wg) (hwo:ow y.Wg) (hwg:ConcR.WgAt wgL.tWg y.Wg W 0 0)
  (hk:∀B,y.kM Wb k0 0 B→kn B∧(∀j,j<y.c→B≠y.C j)∧B≠y.Wg) (ho:∀B,y.oM 0 B→ow B):
  StartG (mkE Try.prog rgF rgF) Goal2 (G (bRound.at a [.code T]) (c0::cs)) W kn ow:=by
 refine ⟨rfl,fun b0 Out0 base N0 hb=>?_⟩
 have K1:=K.on hb
 have A1:=A.on b0
 obtain ⟨Res0,hR⟩:∃Res0:Goroutine→World→(Nat→Prop)→(Nat→Prop)→Prop,Res0=fun bk W kn _=>(y.on b0).Mn Wb k0 W y.c∧(∀B,y.kM Wb k0 y.c B→kn B)∧∃a f ops,Slots a 40 f∧f 3=wslV Wb y.c∧bk=G (bRound.at a [.inRegion ops [],.code U]) (c0::cs):=⟨_,rfl⟩
 obtain ⟨o,e⟩:∃o,(y.on b0).IsBo (fun B=>Out0 B∨B∈(List.range y.c).map y.C∨B=y.Wg) Res0 base N0 o:=⟨_,rfl⟩
 obtain ⟨ρ,hp⟩:=round_ahead K1 e A1 hT hU (fun a f ops W h1 h2 h3=>by rw[hR];exact ⟨h3,fun _ q=>q,a,f,ops,h1,h2,rfl⟩) hs f3 f4 (M.on b0)
 have hok:=Rng.bok K1 e (fun bk W W' kn ow h hx=>by
  rw[hR]at h ⊢
  obtain ⟨h1,h2,h3⟩:=h
  exact ⟨h1.ext A1 hx h2,h2,h3⟩) (fun bk W kn ow h=>by
  rw[hR]at h
  obtain ⟨-,-,a,f,ops,-,-,rfl⟩:=h
  rfl)
 have hL:=Rng.live K1 e
 have hO:=Rng.ord K1 e
 have enL:∀r,o.nextL r=[]:=fun r=>by
  cases r with
  |zero=>show o.sc0=[];unfold Rng.IsBo at e;rw[e]
  |succ r=>rfl
 have hrun:Run o.E o.M (o.nextF o.nk) (o.nextL o.nk)=o.nextF o.nk:=by rw[enL];rfl
 refine ⟨o,y.kM Wb k0 0,y.oM 0,100,ρ,?_⟩
 rw[hrun]
 unfold Rng.IsBo at e
 subst e
 refine ⟨rfl,rfl,rfl,rfl,hok,hL,fun B=>Iff.rfl,fun B=>Iff.rfl,fun c hc=>?_,hwo,hwg,fun B q=>⟨(hk B q).1,fun z=>?_,(hk B q).2.2⟩,fun B q=>⟨ho B q,.inr (.inr (.inr q))⟩,hp,trivial,hO,fun bk W' knw oww h1 h2 h3=>?_⟩
 ·have hc:c∈(List.range y.c).map y.C:=hc
  simp only[List.mem_map,List.mem_range]at hc
  obtain ⟨j,hj,rfl⟩:=hc
  obtain ⟨q1,q2,q3⟩:=hC j hj
  exact ⟨q1,q2,Nat.one_pos,q3⟩
 ·have z:B∈(List.range y.c).map y.C:=z
  simp only[List.mem_map,List.mem_range]at z
  obtain ⟨j,hj,z⟩:=z
  exact (hk B q).2.1 j hj z.symm
 ·rw[hR]at h1
  obtain ⟨q1,q2,a,f,ops,q3,q4,rfl⟩:=h1
  have h2:∀w,w<y.c→(y.on b0).Res w W' (knw (b0+w)) (oww (b0+w)):=fun w hw=>by
   have:=h2 (b0+w) ⟨Nat.le_add_right _ _,Nat.add_lt_add_left hw b0⟩
   have this:(y.on b0).Res (b0+w - b0) W' (knw (b0+w)) (oww (b0+w)):=this
   rwa [Nat.add_sub_cancel_left]at this
  have hwk:∀w,w<y.c→b0≤b0+w∧b0+w<b0+y.c:=fun w hw=>⟨Nat.le_add_right _ _,Nat.add_lt_add_left hw b0⟩
  refine ⟨y.kE Wb k0,y.oM 0,fun B q=>?_,fun B q=>?_,fun B q=>.inr q,hbeh a f ops W' q3 q4 q1.off fun w hw=>?_⟩
  ·rcases q with q|⟨w,-,hw,rfl⟩
   ·exact .inl (q2 B q)
   ·exact .inr ⟨b0+w,hwk w hw,(h2 w hw).1⟩
  ·obtain ⟨w,-,hw,rfl⟩:=q
   exact .inr ⟨b0+w,hwk w hw,(h2 w hw).2.1⟩
  ·obtain ⟨-,-,-,h⟩:=h2 w hw
   exact h
end
structure Parts (W:World) (Pb po c n:Nat) (us:Nat→Value) (O:Nat→Option Nat) (ps:Nat→List Int):Prop where
 row:∃(cs:Array Value) (e:TypeId) (z:Nat×Nat),W.heap[Pb]?=some (.cells cs e z)∧(∀i,z.1≤i→i<z.2→0≤i)∧∀i,i<c→cs[po+i]?=some (us i)
 own:∀i,i<c→(O i=none∧us i=.slice none 0 0∧ps i=[])∨∃(B off cap:Nat) (cs:Array Value) (e:TypeId) (z:Nat×Nat),O i=some B∧us i=.slice (some ⟨B,off,none⟩) n cap∧n≤cap∧cap≤maxLen∧W.heap[B]?=some (.cells cs e z)∧(∀i,z.1≤i→i<z.2→0≤i)∧(∀v∈cs,∃q,v=.int .i64 q)∧∀(j:Nat) (y:Int),(ps i)[j]?=some y→cs[off+j]?=some (.int .i64 y)
 len:∀i,i<c→(ps i).length=n
 g0:G0≤W.heap.size
 gp:G0≤Pb
 go:∀i,i<c→∀B,O i=some B→G0≤B
def kP (Pb c:Nat) (O:Nat→Option Nat):Nat→Prop:=fun B=>B=Pb∨∃i,i<c∧O i=some B
section
variable {W W' w0 w V:World} {Pb po c n:Nat} {us:Nat→Value} {O:Nat→Option Nat} {ps:Nat→List Int} {r:Nat→Nat} {fl gl:List Nat} {P:Program} {kn ow ch:Nat→Prop}
theorem Parts.blk(h:Parts W Pb po c n us O ps){B:Nat}(hB:kP Pb c O B):∃(a:Array Value) (e:TypeId) (z:Nat×Nat),W.heap[B]?=some (.cells a e z)∧∀i,z.1≤i→i<z.2→0≤i:=by
 rcases hB with rfl|⟨i,hi,e⟩
 ·obtain ⟨cs,e,z,h1,h2,-⟩:=h.row
  exact ⟨cs,e,z,h1,h2⟩
 ·rcases h.own i hi with ⟨q,-⟩|⟨B',off,cap,cs,e',z,q1,q2,q3,q4,q5,q6,-⟩
  ·rw[q]at e;cases e
  ·rw[q1]at e
   obtain rfl:=Option.some.inj e
   exact ⟨cs,e',z,q5,q6⟩
theorem Parts.kv(h:Parts W Pb po c n us O ps){i:Nat}(hi:i<c){ch:Nat→Prop}:KV (kP Pb c O) ch (us i):=by
 rcases h.own i hi with ⟨-,q,-⟩|⟨B',off,cap,cs,e',z,q1,q2,-⟩
 ·rw[q];intro a ha;cases ha
 ·rw[q2];intro a ha;cases ha;exact ⟨.inr ⟨i,hi,q1⟩,rfl⟩
theorem Parts.sl(h:Parts W Pb po c n us O ps){i:Nat}(hi:i<c):∃a k,us i=.slice a n k:=by
 rcases h.own i hi with ⟨-,q,q2⟩|⟨B',off,cap,cs,e',z,q1,q2,-⟩
 ·have:=h.len i hi
  rw[q2]at this
  exact ⟨none,0,by rw[q,←this];rfl⟩
 ·exact ⟨_,_,q2⟩
theorem Parts.hold(h:Parts W Pb po c n us O ps)(hs:W.heap.size≤W'.heap.size)(hk:∀B,kP Pb c O B→HoldB False W W' B):Parts W' Pb po c n us O ps:=by
 refine ⟨?_,fun i hi=>?_,h.len,Nat.le_trans h.g0 hs,h.gp,h.go⟩
 ·obtain ⟨cs,e,z,h1,h2,h3⟩:=h.row
  obtain ⟨z',g1,-,g2⟩:=hk Pb (.inl rfl) cs e z h1
  exact ⟨cs,e,z',g1,g2 id,h3⟩
 ·rcases h.own i hi with q|⟨B',off,cap,cs,e',z,q1,q2,q3,q4,q5,q6,q7⟩
  ·exact .inl q
  ·obtain ⟨z',g1,-,g2⟩:=hk B' (.inr ⟨i,hi,q1⟩) cs e' z q5
   exact .inr ⟨B',off,cap,cs,e',z',q1,q2,q3,q4,g1,g2 id,q7⟩
theorem Over.chan(h:Over P fl gl W kn ow ch r V w W'){b:Nat}(hb:W.heap.size≤b){k:Nat}{bf:Array Value}{cl:Bool}{s q:Nat}{tm:Bool}(ho:w.heap[b]?=some (.chan k bf cl s q tm)):W'.heap[r b]?=some (.chan k (bf.map (rnV r)) cl s q tm):=by
 obtain ⟨-,-,q⟩:=h.rl.blk b _ (over_new hb (lt_of_some ho)) ho
 exact q
def rngOf (r:Nat→Nat) (H c n Wg:Nat) (us:Nat→Value) (O:Nat→Option Nat) (ps:Nat→List Int) (X:Nat→Option Obj→Prop):Rng:=⟨c,n,Wg,1,fun j=>r (H+1+j),fun j=>r (H+c+3+3*j),fun j=>r (H+c+2+3*j),O,us,ps,X⟩
structure Manned (y:Rng) (Wb:Nat) (k0:Nat→Prop) (W:World):Prop where
 mn:y.Mn Wb k0 W 0
 ap:y.Apart Wb k0
 ok:y.Ok
 chan:∀j,j<y.c→W.heap[y.C j]?=some (.chan 1 #[] false 0 0 false)
 cne:∀j,j<y.c→∀B,y.kM Wb k0 0 B→B≠y.C j
theorem zeros_map(n:Nat):zeros n=((List.replicate n (0:Int)).map (Value.int .i64)).toArray:=by
 apply Array.ext (by simp[zeros,size_madeCells])
 intro i h1 h2
 simp[zeros,madeCells,Nat.mod_one]
def Lies (W:World) (k0:Nat→Prop):Prop:=∀B,k0 B→∃(a:Array Value) (e:TypeId) (z:Nat×Nat),W.heap[B]?=some (.cells a e z)∧(∀i,z.1≤i→i<z.2→0≤i)∧G0≤B
def StillB (W:World) (B:Nat) (o:Option Obj):Prop:=∃(a:Array Value) (e:TypeId) (z z':Nat×Nat),W.heap[B]?=some (.cells a e z)∧o=some (.cells a e z')∧∀i,z'.1≤i→i<z'.2→0≤i
theorem Lies.lt{k0:Nat→Prop}(h:Lies W k0){B:Nat}(hB:k0 B):B<W.heap.size:=by
 obtain ⟨a,e,z,h1,-⟩:=h B hB
 exact lt_of_some h1
theorem Lies.geo{k0:Nat→Prop}(h:Lies W k0)(hg:G0≤W.heap.size):Geo Try.prog W k0 noP noP:=⟨hg,fun B hB=>by
 obtain ⟨a,e,z,h1,-,h2⟩:=h B hB
 exact h2,fun B hB=>h.lt hB,fun B q=>q.elim,fun B q=>q.elim⟩
theorem Lies.rdy{k0:Nat→Prop}(h:Lies W k0):Rdy (mkE Try.prog rgF rgF) W k0 noP noP:=Rdy.of fun B hB=>by
 obtain ⟨a,e,z,h1,h2,-⟩:=h B hB
 exact ⟨a,e,z,h1,.inr ⟨id,h2⟩⟩
theorem manned_over{k0:Nat→Prop}(h:Over Try.prog rgF rgF W k0 noP noP r V w W')(hP:Parts W Pb po c n us O ps)(hk:∀B,kP Pb c O B→k0 B)(hK:Lies W k0)(h0:Alone W k0 noP noP w0)(hM:ManM W.heap.size c n us c w)(hb:Below W.heap.size w0 w)(hc1:1≤c)(hc6:c≤6)(hn:n≤60)(Wg:Nat):
  Parts W' Pb po c n us O ps∧Manned (rngOf r W.heap.size c n Wg us O ps (StillB W)) (r (W.heap.size+c+1)) k0 W':=by
 have hinj:=h.rl.inj
 have hgeo:=hK.geo hP.g0
 have hwl:W.heap.size≤w.heap.size:=by rw[hM.size];omega
 have hgr:=h.grew hwl
 have hlow:∀B,B<w.heap.size→r B<W'.heap.size:=fun B q=>h.low q
 have hold:∀B,k0 B→HoldB False W W' B:=fun B hB=>by
  refine h.hold hgeo h0 hB (fun q=>q.elim) ?_
  exact hb.block B (hK.lt hB)
 have hP':=hP.hold hgr fun B q=>hold B (hk B q)
 have hab:∀g,W.heap.size≤g→¬k0 (r g):=fun g hg q=>by have:=hK.lt q;have:=h.above hg;omega
 refine ⟨hP',?_⟩
 have hS:∀j,j<c→∃z:Nat×Nat,(∀i,z.1≤i→i<z.2→0≤i)∧W'.heap[r (W.heap.size+c+3+3*j)]?=some (.cells #[.int .i64 (j:Int),.int .i64 (c:Int),us j,.slice (some ⟨r (W.heap.size+c+2+3*j),0,none⟩) n n,.chan (some (r (W.heap.size+1+j))),.chan (some (r (W.heap.size+1+(j+1) % c)))] 56 z):=fun j hj=>by
  obtain ⟨z',h1,h2⟩:=h.block (.inl (by omega)) (hM.S j hj)
  refine ⟨z',fun i q1 q2=>by have:=(h2 i q1 q2).2;simp at this,?_⟩
  rw[h1]
  have:=h.same hgeo.knl hgeo.chl ((hP.kv hj (ch:=noP)).mono hk (fun _=>id))
  simp[rnV,rnS_at,this]
 have hT:∀j,j<c→∃z:Nat×Nat,z.2≤z.1∧W'.heap[r (W.heap.size+c+2+3*j)]?=some (.cells ((List.replicate n (0:Int)).map (Value.int .i64)).toArray 3 z):=fun j hj=>by
  have h1:=hM.T j hj
  rw[zeros_map]at h1
  obtain ⟨z',h1,h2⟩:=h.fresh (by omega) h1
  exact ⟨z',rng_empty h2 (Nat.le_refl _),h1⟩
 have hlw:∀j,j<c→W.heap.size+c+3+3*j<w.heap.size:=fun j hj=>by rw[hM.size];omega
 have hmem:∀j,j<c→((rngOf r W.heap.size c n Wg us O ps (StillB W)).wkr j).Mem W' (List.replicate n 0):=fun j hj=>by
  refine ⟨hP'.g0,?_,?_,hS j hj,hT j hj,by simp[Rng.wkr,rngOf],?_⟩
  ·have:=Nat.mod_lt (j+1) (show 0<c by omega)
   exact hlow _ (by rw[hM.size];show W.heap.size+1+(j+1) % c<_;omega)
  ·exact hlow _ (by rw[hM.size];show W.heap.size+1+j<_;omega)
  ·exact hP'.own j hj
 refine ⟨⟨hP'.g0,fun B q=>Nat.lt_of_lt_of_le (hK.lt q) hgr,?_,fun j _ hj=>hmem j hj,fun j hj=>?_,fun B q=>?_⟩,⟨fun j hj B q=>hk B (.inr ⟨j,hj,q⟩),fun j hj=>hab _ (by omega),fun j hj q=>?_,fun i j hi hj q=>?_,fun i j hi hj q=>?_⟩,⟨hc1,hc6,Nat.le_refl _,hP.len,fun i j hi hj q=>?_,fun j hj=>?_⟩,fun j hj=>?_,fun j hj B q z=>?_⟩
 ·obtain ⟨z',h1,h2⟩:=h.block (.inl (by omega)) hM.wk
  refine ⟨z',?_⟩
  rw[h1]
  congr 2
  unfold wkL Rng.wkV rngOf
  simp only[List.map_toArray,List.map_map]
  congr 1
  refine List.map_congr_left fun j hj=>?_
  have hj:j<c:=by simpa using hj
  simp[rnV,rnA,hj]
 ·obtain ⟨z,-,hz⟩:=hS j hj
  show W'.cell? ⟨r _,3,none⟩=_
  rw[Joins.cell_of_block hz]
  rfl
 ·obtain ⟨a,e,z,h1,h2,-⟩:=hK B q
  obtain ⟨z',g1,-,g2⟩:=hold B q a e z h1
  exact ⟨a,e,z,z',h1,g1,g2 id⟩
 ·have:=hinj _ _ q;omega
 ·have q:W.heap.size+c+2+3*i=W.heap.size+c+3+3*j:=hinj _ _ q
  omega
 ·have q:W.heap.size+c+2+3*i=W.heap.size+c+2+3*j:=hinj _ _ q
  omega
 ·have q:W.heap.size+1+i=W.heap.size+1+j:=hinj _ _ q
  omega
 ·have hg:=hP.g0
  have hk0:∀g,W.heap.size≤g→O j≠some (r g):=fun g hg q=>hab g hg (hk _ (.inr ⟨j,hj,q⟩))
  refine ⟨hc1,hc6,hj,hn,hP.len j hj,fun q=>?_,hk0 _ (by omega),hk0 _ (by omega),?_,?_,fun B q=>hP.go j hj B q⟩
  ·have q:W.heap.size+c+3+3*j=W.heap.size+c+2+3*j:=hinj _ _ q
   omega
  ·exact Nat.le_trans hg (h.above (by omega))
  ·exact Nat.le_trans hg (h.above (by omega))
 ·have:=h.chan (show W.heap.size≤W.heap.size+1+j by omega) (hM.chan j hj)
  rw[Array.map_empty]at this
  exact this
 ·have z:B=r (W.heap.size+1+j):=z
  subst z
  have hj:j<c:=hj
  rcases q with q|q|⟨i,hi,q⟩|⟨i,-,hi,q⟩
  ·exact hab _ (by omega) q
  ·have:=hinj _ _ q;omega
  ·have q:W.heap.size+1+j=W.heap.size+c+3+3*i:=hinj _ _ q
   omega
  ·have q:W.heap.size+1+j=W.heap.size+c+2+3*i:=hinj _ _ q
   omega
end
end Go.Proofs.Ytniloklglpchfai
