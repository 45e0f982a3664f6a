/- Plain facts on what Mul and Turn of package mat give: what stands where, and that Check takes it. -/
import Derived.Test.YtniloklglpchfafMOps1
import Derived.Test.YtniloklglpchfafMOps2
import Derived.Test.YtniloklglpchfafPkMOps
namespace Go.Proofs.Ytniloklglpchfaf
theorem dot_bd(us vs:List Int)(Ca Cb i j:Nat):∀k,inEnds (dot us vs Ca Cb i j k)=true
 |0=>by simp[dot,inEnds]
 |k+1=>by rw[ends_iff];exact ad_bd _ _
theorem tab_ends{n:Nat}{f:Nat→Int}(h:∀q,q<n→inEnds (f q)=true):(tab n f).all inEnds=true:=by
 refine all_yes (fun k x hk hx=>?_)
 rw[tab_len]at hk
 rw[tab_at hk]at hx
 rw[←Option.some.inj hx];exact h k hk
theorem tab_get{n:Nat}{f:Nat→Int}{i:Nat}(h:i<n):((tab n f)[i]?).getD 0=f i:=by rw[tab_at h];rfl
theorem Good.mul0{a b:Mx}{Ra Ca Cb:Nat}(ga:Good a Ra Ca)(gb:Good b Ca Cb):mulE a b=0:=by
 unfold mulE faults
 rw[ga.fault]
 have:faults [b]=0:=by rw[faults_one,gb.fault]
 simp only[if_pos,this,ne_eq,not_true,if_false]
 rw[if_neg (by simp[ga.c,gb.r])]
theorem Good.mul{a b:Mx}{Ra Ca Cb:Nat}(ga:Good a Ra Ca)(gb:Good b Ca Cb):Good (mulX a b) Ra Cb:=by
 rw[mulX_yes (ga.mul0 gb) ga.r ga.c gb.c]
 exact ⟨rfl,rfl,ga.hR,gb.hC,tab_len _ _,tab_ends (fun q _=>dot_bd _ _ _ _ _ _ _)⟩
theorem mul_cell{a b:Mx}{Ra Ca Cb i j:Nat}(ga:Good a Ra Ca)(gb:Good b Ca Cb)(hi:i<Ra)(hj:j<Cb):((mulX a b).cells[i*Cb+j]?).getD 0=dot a.cells b.cells Ca Cb i j Ca:=by
 rw[mulX_yes (ga.mul0 gb) ga.r ga.c gb.c]
 obtain ⟨e1,e2⟩:=at_row (C:=Cb) (i:=i) (j:=j) hj
 show ((tab _ _)[_]?).getD 0=_
 rw[tab_get (idx_lt hi hj),e1,e2]
theorem Good.turn0{a:Mx}{R C:Nat}(ga:Good a R C)(hR:R≤12):turnE a=0:=by
 unfold turnE;rw[ga.fault,if_neg (by simp),if_neg (by rw[ga.r];omega)]
theorem getD_ends{zs:List Int}(h:zs.all inEnds=true)(i:Nat):inEnds ((zs[i]?).getD 0)=true:=by
 rcases Nat.lt_or_ge i zs.length with hi|hi
 ·rw[List.getElem?_eq_getElem hi];exact (List.all_eq_true.1 h) _ (List.getElem_mem hi)
 ·rw[List.getElem?_eq_none hi];simp[inEnds]
theorem Good.turn{a:Mx}{R C:Nat}(ga:Good a R C)(hR:R≤12):Good (turnX a) C R:=by
 rw[turnX_yes (ga.turn0 hR) ga.r ga.c]
 exact ⟨rfl,rfl,by have:=ga.hC;omega,hR,tab_len _ _,tab_ends (fun q _=>getD_ends ga.e _)⟩
open Go.RowKit
theorem b_{w u v:World}(h:Below w.heap.size w u)(k:Below u.heap.size u v):Below w.heap.size w v:=h.trans (k.mono h.size)
theorem below_box{w u v:World}{o:Obj}(h:Below w.heap.size w u)(k:Below (u.alloc o).heap.size (u.alloc o) v):Below w.heap.size w v:=b_ (b_ h (o_ _ _)) k
def GoodEnd (w:World) (m:Mx) (e:Ending) (w':World):Prop:=∃a n k,e=.returned (.tuple #[.agg #[.int .i64 m.rows,.int .i64 m.cols,.slice a n k],.nilIface])∧M_ w' (.agg #[.int .i64 m.rows,.int .i64 m.cols,.slice a n k]) m∧Below w.heap.size w w'
def BadEnd (w:World) (j:Int) (e:Ending) (w':World):Prop:=∃a n k,e=.returned (.tuple #[.agg #[.int .i64 0,.int .i64 0,.slice a n k],.iface 65 (.int .i64 j)])∧M_ w' (.agg #[.int .i64 0,.int .i64 0,.slice a n k]) noMx∧Below w.heap.size w w'
theorem MxErr.good{w:World}{m:Mx}{j:Int}{e:Ending}{w':World}(h:MxErr w m j e w')(hj:j=0):GoodEnd w m e w':=by
 obtain ⟨v,rfl,⟨s,rfl,hs⟩,hb,_⟩:=h
 obtain ⟨a,n,k,rfl⟩:=hs.shape
 exact ⟨a,n,k,by rw[e_ hj],⟨_,rfl,hs⟩,hb⟩
theorem MxErr.bad{w:World}{m:Mx}{j:Int}{e:Ending}{w':World}(h:MxErr w m j e w')(hj:j≠0)(hm:m=noMx):BadEnd w j e w':=by
 subst hm
 obtain ⟨v,rfl,⟨s,rfl,hs⟩,hb,_⟩:=h
 obtain ⟨a,n,k,rfl⟩:=hs.shape
 exact ⟨a,n,k,by rw[n_ hj];rfl,⟨_,rfl,hs⟩,hb⟩
theorem MxErr.fresh{w:World}{m:Mx}{j:Int}{v x:Value}{w':World}(h:MxErr w m j (.returned (.tuple #[v,x])) w'):F_ w.heap.size v:=by
 obtain ⟨v',e,_,_,hf⟩:=h
 have:v=v':=by simp at e;exact e.1
 rw[this];exact hf
theorem M_.set{B:Nat}{w:World}{m:Mx}{v:Value}(h:M_ w v m)(hf:F_ B v){b:Nat}(hb:b<B)(q:Nat)(u:Value):M_ (w.setCell ⟨b,q,none⟩ u) v m:=by
 obtain ⟨s,rfl,a,cap,rfl,h2,h3,h4⟩:=h
 refine ⟨_,rfl,a,cap,rfl,h2,h3,?_⟩
 rcases h4 with h0|⟨b',off,rfl,hc⟩
 ·exact .inl h0
 ·rcases hf _ _ _ _ _ rfl with hz|hz
  ·exact .inl (List.eq_nil_of_length_eq_zero hz)
  ·refine .inr ⟨b',off,rfl,fun i x hx=>cell_other (hc i x hx) (by show b'≠b;simp only[]at hz;omega) q u⟩
theorem M_.ints{w:World}{m:Mx}{r c s:Value}(h:M_ w (.agg #[r,c,s]) m):I_ w s m.cells:=by
 obtain ⟨s',e,hs⟩:=h
 have:s=s':=by simp at e;exact e.2.2
 rw[this];exact hs
theorem sameM_refl(m:Mx):sameM m m=true:=by unfold sameM;simp
theorem M_.set3{B:Nat}{w:World}{m:Mx}{v:Value}(h:M_ w v m)(hf:F_ B v){b:Nat}(hb:b<B)(x y z:Value):M_ (((w.setCell ⟨b,0,none⟩ x).setCell ⟨b,1,none⟩ y).setCell ⟨b,2,none⟩ z) v m:=
 ((h.set hf hb 0 x).set hf hb 1 y).set hf hb 2 z
theorem Good.turn1{a:Mx}{R C:Nat}(ga:Good a R C)(hR:12<R):Go.Proofs.Ytniloklglpchfaf.turnE a=1:=by
 unfold Go.Proofs.Ytniloklglpchfaf.turnE;rw[ga.fault,if_neg (by simp),if_pos (by rw[ga.r];omega)]
end Go.Proofs.Ytniloklglpchfaf
/- Layers as plain data and in memory: what is wrong with one, how wide it is, what comes of a matrix by it, what goes back. No program in sight. -/
namespace Go.Proofs.Ytniloklglpchfaf
open Go.RowKit
structure Ly where
 k:Int
 w:Mx
 b:Mx
def IsLy (w:World) (v:Value) (l:Ly):Prop:=∃s t,v=.agg #[.int .i64 l.k,.int .i64 l.w.rows,.int .i64 l.w.cols,s,.int .i64 l.b.rows,.int .i64 l.b.cols,t]∧I_ w s l.w.cells∧I_ w t l.b.cells
theorem IsLy.u_{w w':World}{v:Value}{l:Ly}(h:IsLy w v l)(hb:Below w.heap.size w w'):IsLy w' v l:=by
 obtain ⟨s,t,h1,h2,h3⟩:=h;exact ⟨s,t,h1,h2.u_ hb,h3.u_ hb⟩
def IsTwo (w:World) (v:Value) (a b:Mx):Prop:=∃s t,v=.agg #[.int .i64 a.rows,.int .i64 a.cols,s,.int .i64 b.rows,.int .i64 b.cols,t]∧I_ w s a.cells∧I_ w t b.cells
def fitsL (l:Ly):Bool:=
 if l.k=1 then decide (1≤l.w.rows∧l.w.rows≤12∧1≤l.w.cols∧l.b.rows=1∧l.b.cols=l.w.cols)
 else if l.k=2 then decide (l.w.rows=0∧l.w.cols=0∧l.b.rows=0∧l.b.cols=0)
 else if l.k=3 then decide (l.w.rows=1∧l.w.cols=1∧l.b.rows=0∧l.b.cols=0)
 else decide (l.w.rows=0∧l.w.cols=0∧l.b.rows=1∧1≤l.b.cols)
def l_ (l:Ly):Int:=if l.k<1∨4<l.k then 1 else if q_ l.w≠0 then q_ l.w else if q_ l.b≠0 then q_ l.b else if fitsL l=false then 2 else 0
def takesL (l:Ly) (n:Int):Bool:=if l.k=1 then decide (n=l.w.rows) else if l.k=4 then decide (n=l.b.cols) else true
def g_ (l:Ly) (n:Int):Int:=if l.k=1 then l.w.cols else n
def wideE (l:Ly) (n:Int):Int:=if l_ l≠0 then l_ l else if n<0∨12<n then 1 else if takesL l n=false then 2 else 0
def wideX (l:Ly) (n:Int):Int:=if wideE l n=0 then g_ l n else 0
def goE (l:Ly) (x:Mx):Int:=if l_ l≠0 then l_ l else if q_ x≠0 then q_ x else if takesL l x.cols=false then 2 else 0
def eachX (a:Mx) (f:Nat→Int):Mx:=⟨a.rows,a.cols,tab a.cells.length f⟩
def A_ (m:Mx) (q:Nat):Int:=(m.cells[q]?).getD 0
theorem cellAt_some{m:Mx}{i:Nat}{x:Int}(h:m.cells[i]?=some x):A_ m i=x:=by unfold A_;rw[h];rfl
def addRows (a b:Mx):Mx:=eachX a (fun q=>ad (A_ a q) (A_ b (q % b.cols.toNat)))
def reluX (a:Mx):Mx:=eachX a (fun q=>max (A_ a q) 0)
def reluB (x g:Mx):Mx:=eachX g (fun q=>if 0<A_ x q then A_ g q else 0)
def goG (l:Ly) (x:Mx):Mx:=if l.k=1 then addRows (mulX x l.w) l.b else if l.k=2 then reluX x else if l.k=3 then timesX x (A_ l.w 0) else addRows x l.b
def goX (l:Ly) (x:Mx):Mx:=if goE l x=0 then goG l x else noMx
def backE (l:Ly) (x g:Mx):Int:=if goE l x≠0 then goE l x else if q_ g≠0 then q_ g else if g.rows≠x.rows∨g.cols≠g_ l x.cols then 2 else if l.k=1∧12<x.rows then 1 else 0
def sumP (x g:Mx):Nat→Int
 |0=>0
 |n+1=>ad (sumP x g n) (ml (A_ x n) (A_ g n))
def backG (l:Ly) (x g:Mx):Mx:=if l.k=1 then mulX g (turnX l.w) else if l.k=2 then reluB x g else if l.k=3 then timesX g (A_ l.w 0) else eachX g (A_ g)
def backX (l:Ly) (x g:Mx):Mx:=if backE l x g=0 then backG l x g else noMx
def gradW (l:Ly) (x g:Mx):Mx:=if backE l x g=0 then (if l.k=1 then mulX (turnX x) g else if l.k=3 then ⟨1,1,[sumP x g x.cells.length]⟩ else noMx) else noMx
def gradB (l:Ly) (x g:Mx):Mx:=if backE l x g=0 then (if l.k=1∨l.k=4 then sumsX g else noMx) else noMx
def Fresh2 (B:Nat) (v:Value):Prop:=∀r c x n k r' c' x' n' k',v=.agg #[r,c,.slice x n k,r',c',.slice x' n' k']→F_ B (.agg #[r,c,.slice x n k])∧F_ B (.agg #[r',c',.slice x' n' k'])
def BackErr (w:World) (m a b:Mx) (k:Int) (e:Ending) (w':World):Prop:=∃v' d,e=.returned (.tuple #[v',d,errV k])∧M_ w' v' m∧IsTwo w' d a b∧Below w.heap.size w w'∧F_ w.heap.size v'∧Fresh2 w.heap.size d
theorem lgood_of{l:Ly}(h:l_ l=0):1≤l.k∧l.k≤4∧q_ l.w=0∧q_ l.b=0∧fitsL l=true:=by
 unfold l_ at h
 by_cases h1:l.k<1∨4<l.k
 ·rw[if_pos h1]at h;cases h
 ·rw[if_neg h1]at h
  by_cases h2:q_ l.w≠0
  ·rw[if_pos h2]at h;exact absurd h h2
  ·rw[if_neg h2]at h
   by_cases h3:q_ l.b≠0
   ·rw[if_pos h3]at h;exact absurd h h3
   ·rw[if_neg h3]at h
    by_cases h4:fitsL l=false
    ·rw[if_pos h4]at h;cases h
    ·exact ⟨by omega,by omega,Decidable.not_not.1 h2,Decidable.not_not.1 h3,by simpa using h4⟩
def Three (w:World) (B:Nat) (r c:Int) (s:Value):Prop:=w.cell? ⟨B,0,none⟩=some (.int .i64 r)∧w.cell? ⟨B,1,none⟩=some (.int .i64 c)∧w.cell? ⟨B,2,none⟩=some s
structure Mut (w:World) (B:Nat) (r c:Int) (s:Value):Prop where
 t:Three w B r c s
 f:∀j,w.frozen? ⟨B,j,none⟩=false
theorem Mut.set{w:World}{B:Nat}{r c:Int}{s:Value}(h:Mut w B r c s)(r' c':Int)(s':Value):Mut (((w.setCell ⟨B,0,none⟩ (.int .i64 r')).setCell ⟨B,1,none⟩ (.int .i64 c')).setCell ⟨B,2,none⟩ s') B r' c' s':=by
 obtain ⟨⟨h0,h1,h2⟩,hf⟩:=h
 have o:∀(u:World) (i j:Nat) (x:Value),i≠j→(u.setCell ⟨B,i,none⟩ x).cell? ⟨B,j,none⟩=u.cell? ⟨B,j,none⟩:=fun u i j x hij=>World.cell?_setCell_other _ _ _ _ (fun e=>hij (by injection e))
 refine ⟨⟨?_,?_,?_⟩,fun j=>by simp[hf]⟩
 ·rw[o _ 2 0 _ (by decide),o _ 1 0 _ (by decide)];exact World.cell?_setCell_same _ _ _ h0
 ·rw[o _ 2 1 _ (by decide)];exact World.cell?_setCell_same _ _ _ ((o _ 0 1 _ (by decide)).trans h1)
 ·exact World.cell?_setCell_same _ _ _ ((o _ 1 2 _ (by decide)).trans ((o _ 0 2 _ (by decide)).trans h2))
theorem cell_at_other(u:World)(B i j:Nat)(x:Value)(hij:i≠j):(u.setCell ⟨B,i,none⟩ x).cell? ⟨B,j,none⟩=u.cell? ⟨B,j,none⟩:=World.cell?_setCell_other _ _ _ _ (fun e=>hij (by injection e))
theorem S_{V u:World}{B:Nat}(h:Below V.heap.size V u)(hB:V.heap.size≤B)(x y z:Value):Below V.heap.size V (((u.setCell ⟨B,0,none⟩ x).setCell ⟨B,1,none⟩ y).setCell ⟨B,2,none⟩ z):=
 ((h.setCell hB _).setCell hB _).setCell hB _
end Go.Proofs.Ytniloklglpchfaf
