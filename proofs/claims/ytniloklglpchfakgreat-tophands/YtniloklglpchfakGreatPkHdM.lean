/- What lies in memory while two stages work by hand: rows of the law's own, and two boxes. -/
import Derived.Test.YtniloklglpchfakGreatPkHdP
import Derived.Test.YtniloklglpchfakGreatPkTrC4
import Derived.Test.YtniloklglpchfakGreatPkNetBk
import Derived.Test.YtniloklglpchfakGreatPkWrR1
import Derived.Test.YtniloklglpchfakGreatPkMbC
import Derived.BigQuiet
namespace Go.Proofs.YtniloklglpchfakGreat
open Go.RowKit
theorem Hold.kept{G X:Nat→Prop}{w w':World}{F:World→Prop}(h:Hold G w F)(hk:Kept X w w')(hx:∀b,X b→G b):Hold G w' F:=fun W hW=>h W (fun p x hp hc=>hW p x hp (hk.cell (fun e=>hp (hx _ e)) hc))
theorem Hold.imp{G:Nat→Prop}{w:World}{F F':World→Prop}(h:Hold G w F)(hf:∀W,F W→F' W):Hold G w F':=fun W hW=>hf W (h W hW)
theorem Hold.pure{G:Nat→Prop}{w:World}{p:Prop}(h:p):Hold G w (fun _=>p):=fun _ _=>h
structure HBk where
 yb:Nat
 s0:Nat
 s1:Nat
 i0:Nat
 i1:Nat
 k0:Nat
 k1:Nat
 nx:Nat
 b1:Nat
 c1:Nat
 b0:Nat
 c0:Nat
def HBk.A (h:HBk) (b:Nat):Prop:=b=h.yb∨b=h.s0∨b=h.s1∨b=h.i0∨b=h.i1∨b=h.k0∨b=h.k1∨b=h.nx∨b=h.b1∨b=h.c1∨b=h.b0∨b=h.c0
structure HBk.Ord (h:HBk):Prop where
 rows:h.yb<h.s0∧h.s0<h.s1∧h.s1<h.i0∧h.i0<h.i1∧h.i1<h.k0∧h.k0<h.k1∧h.k1<h.nx
 bxs:h.b1<h.yb∧h.c1<h.yb∧h.b0<h.yb∧h.c0<h.yb
 ne:h.b1≠h.c1∧h.b0≠h.c0∧h.b1≠h.b0∧h.b1≠h.c0∧h.c1≠h.b0∧h.c1≠h.c0
def RowOf (A:Nat→Prop) (w:World) (blk:Nat) (t:TypeId) (n:Nat) (F:Nat→Value→World→Prop):Prop:=∃arr:Array Value,WBk w blk arr t∧arr.size=n∧∀(m:Nat) v,arr[m]?=some v→Hold A w (F m v)
theorem RowOf.keep{A X:Nat→Prop}{w w':World}{blk:Nat}{t:TypeId}{n:Nat}{F:Nat→Value→World→Prop}(h:RowOf A w blk t n F)(hk:Kept X w w')(hx:∀b,X b→A b)(hb:¬X blk):RowOf A w' blk t n F:=by
 obtain ⟨arr,h1,h2,h3⟩:=h
 exact ⟨arr,(hk.block _ h1.lt hb).trans h1,h2,fun m v hv=>(h3 m v hv).kept hk hx⟩
theorem RowOf.cell{A:Nat→Prop}{w:World}{blk:Nat}{t:TypeId}{n:Nat}{F:Nat→Value→World→Prop}(h:RowOf A w blk t n F){m:Nat}(hm:m<n):∃v,w.cell? ⟨blk,m,none⟩=some v∧w.frozen? ⟨blk,m,none⟩=false∧Hold A w (F m v):=by
 obtain ⟨arr,h1,h2,h3⟩:=h
 obtain ⟨v,hv⟩:∃v,arr[m]?=some v:=⟨_,Array.getElem?_eq_getElem (by omega)⟩
 exact ⟨v,h1.c hv,h1.f m,h3 m v hv⟩
theorem RowOf.set{A:Nat→Prop}{w:World}{blk:Nat}{t:TypeId}{n:Nat}{F F':Nat→Value→World→Prop}(h:RowOf A w blk t n F)(hA:A blk){m:Nat}(x:Value)(hx:Hold A w (F' m x))(ho:∀k v W,k≠m→F k v W→F' k v W):RowOf A (w.setCell ⟨blk,m,none⟩ x) blk t n F':=by
 obtain ⟨arr,h1,h2,h3⟩:=h
 have hk:Kept (fun b=>b=blk) w (w.setCell ⟨blk,m,none⟩ x):=Kept.set (X:=fun b=>b=blk) w rfl m x
 refine ⟨_,h1.set m x,by simpa using h2,fun k v hv=>?_⟩
 by_cases e:k=m
 ·subst e
  have hlt:k<arr.size:=by
   have:=(Array.getElem?_eq_some_iff.1 hv).1
   simpa using this
  rw[Array.getElem?_setIfInBounds_self_of_lt hlt]at hv
  obtain rfl:=Option.some.inj hv
  exact hx.kept hk (fun b hb=>by rw[hb];exact hA)
 ·rw[Array.getElem?_setIfInBounds_ne (fun q=>e q.symm)]at hv
  exact ((h3 k v hv).imp (fun W=>ho k v W e)).kept hk (fun b hb=>by rw[hb];exact hA)
def Row3 (A:Nat→Prop) (w:World) (blk:Nat) (t:TypeId) (n:Nat) (F:Nat→Value→Value→Value→World→Prop):Prop:=∃arr:Array Value,WBk w blk arr t∧arr.size=n*3∧∀(m:Nat) x y z,arr[m*3]?=some x→arr[m*3+1]?=some y→arr[m*3+2]?=some z→Hold A w (F m x y z)
theorem Row3.keep{A X:Nat→Prop}{w w':World}{blk:Nat}{t:TypeId}{n:Nat}{F:Nat→Value→Value→Value→World→Prop}(h:Row3 A w blk t n F)(hk:Kept X w w')(hx:∀b,X b→A b)(hb:¬X blk):Row3 A w' blk t n F:=by
 obtain ⟨arr,h1,h2,h3⟩:=h
 exact ⟨arr,(hk.block _ h1.lt hb).trans h1,h2,fun m x y z a b c=>(h3 m x y z a b c).kept hk hx⟩
theorem Row3.cell{A:Nat→Prop}{w:World}{blk:Nat}{t:TypeId}{n:Nat}{F:Nat→Value→Value→Value→World→Prop}(h:Row3 A w blk t n F){m:Nat}(hm:m<n):∃x y z,w.cell? ⟨blk,m*3,none⟩=some x∧w.cell? ⟨blk,m*3+1,none⟩=some y∧w.cell? ⟨blk,m*3+2,none⟩=some z∧Hold A w (F m x y z)∧∀j,w.frozen? ⟨blk,j,none⟩=false:=by
 obtain ⟨arr,h1,h2,h3⟩:=h
 obtain ⟨x,hx⟩:∃v,arr[m*3]?=some v:=⟨_,Array.getElem?_eq_getElem (by omega)⟩
 obtain ⟨y,hy⟩:∃v,arr[m*3+1]?=some v:=⟨_,Array.getElem?_eq_getElem (by omega)⟩
 obtain ⟨z,hz⟩:∃v,arr[m*3+2]?=some v:=⟨_,Array.getElem?_eq_getElem (by omega)⟩
 exact ⟨x,y,z,h1.c hx,h1.c hy,h1.c hz,h3 m x y z hx hy hz,fun j=>h1.f j⟩
theorem Row3.set{A:Nat→Prop}{w:World}{blk:Nat}{t:TypeId}{n:Nat}{F F':Nat→Value→Value→Value→World→Prop}(h:Row3 A w blk t n F)(hA:A blk){m:Nat}(hm:m<n)(x y z:Value)(hx:Hold A w (F' m x y z))(ho:∀k a b c W,k≠m→F k a b c W→F' k a b c W):Row3 A (((w.setCell ⟨blk,m*3,none⟩ x).setCell ⟨blk,m*3+1,none⟩ y).setCell ⟨blk,m*3+2,none⟩ z) blk t n F':=by
 obtain ⟨arr,h1,h2,h3⟩:=h
 have q:∀(u:World) (i:Nat) (v:Value),Kept (fun b=>b=blk) u (u.setCell ⟨blk,i,none⟩ v):=fun u i v=>Kept.set (X:=fun b=>b=blk) u rfl i v
 have hk:=((q w (m*3) x).trans (q _ (m*3+1) y) (fun _ _ e=>e)).trans (q _ (m*3+2) z) (fun _ _ e=>e)
 have hAb:∀b,b=blk→A b:=fun b hb=>by rw[hb];exact hA
 refine ⟨_,((h1.set (m*3) x).set (m*3+1) y).set (m*3+2) z,by simpa using h2,fun k a b c ha hb hc=>?_⟩
 by_cases e:k=m
 ·subst e
  rw[Array.getElem?_setIfInBounds_ne (by omega),Array.getElem?_setIfInBounds_ne (by omega),Array.getElem?_setIfInBounds_self_of_lt (by omega)]at ha
  rw[Array.getElem?_setIfInBounds_ne (by omega),Array.getElem?_setIfInBounds_self_of_lt (by simp;omega)]at hb
  rw[Array.getElem?_setIfInBounds_self_of_lt (by simp;omega)]at hc
  obtain rfl:=Option.some.inj ha
  obtain rfl:=Option.some.inj hb
  obtain rfl:=Option.some.inj hc
  exact hx.kept hk hAb
 ·rw[Array.getElem?_setIfInBounds_ne (by omega),Array.getElem?_setIfInBounds_ne (by omega),Array.getElem?_setIfInBounds_ne (by omega)]at ha hb hc
  exact ((h3 k a b c ha hb hc).imp (fun W=>ho k a b c W e)).kept hk hAb
structure HD where
 a:List Ly
 b:List Ly
 L:List (Mx×Mx)
 p0:List (Int×Int)
 p1:List (Int×Int)
 P:Nat
def HD.at (D:HD) (m:Nat):Mx×Mx:=(D.L[m]?).getD (noMx,noMx)
def HD.ms1 (D:HD) (m:Nat):Int×Int×Mx:=(1,(m:Int),midH D.a (D.at m))
def HD.ms0 (D:HD) (m:Nat):Int×Int×Mx:=(2,(m:Int),bckH D.a D.b (D.at m))
def fGds (ds0 ds1:List (Mx×Mx)) (m:Nat) (v:Value) (W:World):Prop:=(m=0→D_ W v ds0)∧(m=1→D_ W v ds1)
def fSaw (did:Nat→Prop) (ms:Nat→List Mx) (m:Nat) (v:Value) (W:World):Prop:=did m→IsMxs W v (ms m)
def fIn (came:Nat→Bool) (mx:Nat→Mx) (m:Nat) (x y z:Value) (W:World):Prop:=(∃r c a n k,x=.int .i64 r∧y=.int .i64 c∧z=.slice a n k)∧(came m=true→x=.int .i64 (mx m).rows∧y=.int .i64 (mx m).cols∧I_ W z (mx m).cells)
def fCame (came:Nat→Bool) (m:Nat) (v:Value) (_:World):Prop:=v=.bool (came m)
def BoxOf (A:Nat→Prop) (w:World) (B C:Nat) (ms:List (Int×Int×Mx)):Prop:=∃P,BoxIs w P B C 16 false ms∧∀b,P b→b=B∨b=C∨¬A b
theorem BoxOf.keep{A X:Nat→Prop}{w w':World}{B C:Nat}{ms:List (Int×Int×Mx)}(h:BoxOf A w B C ms)(hk:Kept X w w')(hx:∀b,X b→A b)(hB:¬X B)(hC:¬X C):BoxOf A w' B C ms:=by
 obtain ⟨P,h1,h2⟩:=h
 refine ⟨P,h1.keep hk (fun b hb hX=>?_),h2⟩
 rcases h2 b hb with rfl|rfl|q
 ·exact hB hX
 ·exact hC hX
 ·exact q (hx b hX)
theorem keep3(w:World)(R i:Nat)(x y z:Value):Kept (fun b=>b=R) w (((w.setCell ⟨R,i,none⟩ x).setCell ⟨R,i+1,none⟩ y).setCell ⟨R,i+2,none⟩ z):=by
 have q:∀(u:World) (i:Nat) (v:Value),Kept (fun b=>b=R) u (u.setCell ⟨R,i,none⟩ v):=fun u i v=>Kept.set (X:=fun b=>b=R) u rfl i v
 exact ((q w i x).trans (q _ (i+1) y) (fun _ _ e=>e)).trans (q _ (i+2) z) (fun _ _ e=>e)
structure HMem (D:HD) (h:HBk) (W0 w:World) (c0 c1:Nat) (d0 d1:Nat→Prop) (y0 y1:List (Mx×Mx)) (q1 q0:List Nat) (m1 m0 g1 g0:Nat→Bool):Prop where
 od:h.Ord
 lt:∀b,h.A b→b<w.heap.size
 kp:Kept h.A W0 w
 nxt:WBk w h.nx #[.int .i64 (c0:Int),.int .i64 (c1:Int)] 3
 yy:RowOf h.A w h.yb 23 2 (fGds y0 y1)
 w0:RowOf h.A w h.s0 55 D.P (fSaw d0 (fun m=>ngX D.a (D.at m).1))
 w1:RowOf h.A w h.s1 55 D.P (fSaw d1 (fun m=>ngX D.b (midH D.a (D.at m))))
 n0:Row3 h.A w h.i0 28 D.P (fIn g0 (fun m=>bckH D.a D.b (D.at m)))
 n1:Row3 h.A w h.i1 28 D.P (fIn g1 (fun m=>midH D.a (D.at m)))
 e0:RowOf h.A w h.k0 4 D.P (fCame m0)
 e1:RowOf h.A w h.k1 4 D.P (fCame m1)
 x1:BoxOf h.A w h.b1 h.c1 (q1.map D.ms1)
 x0:BoxOf h.A w h.b0 h.c0 (q0.map D.ms0)
section
variable {D:HD} {h:HBk} {W0 w:World} {c0 c1:Nat} {d0 d1:Nat→Prop} {y0 y1:List (Mx×Mx)} {q1 q0:List Nat} {m1 m0 g1 g0:Nat→Bool}
theorem HMem.u_{w':World}(i:HMem D h W0 w c0 c1 d0 d1 y0 y1 q1 q0 m1 m0 g1 g0)(hb:Below w.heap.size w w'):HMem D h W0 w' c0 c1 d0 d1 y0 y1 q1 q0 m1 m0 g1 g0:=by
 have hk:Kept (fun _=>False) w w':=Kept.of hb
 have hx:∀b,False→h.A b:=fun _ q=>q.elim
 exact ⟨i.od,fun b q=>Nat.lt_of_lt_of_le (i.lt b q) hb.size,i.kp.trans hk (fun _ _ q=>q.elim),i.nxt.kept hb,i.yy.keep hk hx (fun q=>q),i.w0.keep hk hx (fun q=>q),i.w1.keep hk hx (fun q=>q),i.n0.keep hk hx (fun q=>q),i.n1.keep hk hx (fun q=>q),i.e0.keep hk hx (fun q=>q),i.e1.keep hk hx (fun q=>q),i.x1.keep hk hx (fun q=>q) (fun q=>q),i.x0.keep hk hx (fun q=>q) (fun q=>q)⟩
theorem HMem.drew(i:HMem D h W0 w c0 c1 d0 d1 y0 y1 q1 q0 m1 m0 g1 g0):HMem D h W0 w.drew c0 c1 d0 d1 y0 y1 q1 q0 m1 m0 g1 g0:=i.u_ ⟨rfl,rfl,rfl,Nat.le_refl _,fun _ _=>rfl⟩
theorem HMem.next0(i:HMem D h W0 w c0 c1 d0 d1 y0 y1 q1 q0 m1 m0 g1 g0)(x:Nat):HMem D h W0 (w.setCell ⟨h.nx,0,none⟩ (.int .i64 (x:Int))) x c1 d0 d1 y0 y1 q1 q0 m1 m0 g1 g0:=by
 obtain ⟨⟨o1,o2,o3,o4,o5,o6,o7⟩,⟨o8,o9,o10,o11⟩,o12,o13,o14,o15,o16,o17⟩:=i.od
 have hA:h.A h.nx:=by unfold HBk.A;simp
 have hk:Kept (fun b=>b=h.nx) w (w.setCell ⟨h.nx,0,none⟩ (.int .i64 (x:Int))):=Kept.set (X:=fun b=>b=h.nx) w rfl 0 _
 have hx:∀b,b=h.nx→h.A b:=fun b e=>by rw[e];exact hA
 exact ⟨i.od,fun b q=>Nat.lt_of_lt_of_le (i.lt b q) hk.size,i.kp.trans hk (fun b _ e=>hx b e),i.nxt.set 0 _,i.yy.keep hk hx (by omega),i.w0.keep hk hx (by omega),i.w1.keep hk hx (by omega),i.n0.keep hk hx (by omega),i.n1.keep hk hx (by omega),i.e0.keep hk hx (by omega),i.e1.keep hk hx (by omega),i.x1.keep hk hx (by omega) (by omega),i.x0.keep hk hx (by omega) (by omega)⟩
theorem HMem.next1(i:HMem D h W0 w c0 c1 d0 d1 y0 y1 q1 q0 m1 m0 g1 g0)(x:Nat):HMem D h W0 (w.setCell ⟨h.nx,1,none⟩ (.int .i64 (x:Int))) c0 x d0 d1 y0 y1 q1 q0 m1 m0 g1 g0:=by
 obtain ⟨⟨o1,o2,o3,o4,o5,o6,o7⟩,⟨o8,o9,o10,o11⟩,o12,o13,o14,o15,o16,o17⟩:=i.od
 have hA:h.A h.nx:=by unfold HBk.A;simp
 have hk:Kept (fun b=>b=h.nx) w (w.setCell ⟨h.nx,1,none⟩ (.int .i64 (x:Int))):=Kept.set (X:=fun b=>b=h.nx) w rfl 1 _
 have hx:∀b,b=h.nx→h.A b:=fun b e=>by rw[e];exact hA
 exact ⟨i.od,fun b q=>Nat.lt_of_lt_of_le (i.lt b q) hk.size,i.kp.trans hk (fun b _ e=>hx b e),i.nxt.set 1 _,i.yy.keep hk hx (by omega),i.w0.keep hk hx (by omega),i.w1.keep hk hx (by omega),i.n0.keep hk hx (by omega),i.n1.keep hk hx (by omega),i.e0.keep hk hx (by omega),i.e1.keep hk hx (by omega),i.x1.keep hk hx (by omega) (by omega),i.x0.keep hk hx (by omega) (by omega)⟩
theorem HMem.gath0(i:HMem D h W0 w c0 c1 d0 d1 y0 y1 q1 q0 m1 m0 g1 g0){y:List (Mx×Mx)}(v:Value)(hv:Hold h.A w (fun W=>D_ W v y)):HMem D h W0 (w.setCell ⟨h.yb,0,none⟩ v) c0 c1 d0 d1 y y1 q1 q0 m1 m0 g1 g0:=by
 obtain ⟨⟨o1,o2,o3,o4,o5,o6,o7⟩,⟨o8,o9,o10,o11⟩,o12,o13,o14,o15,o16,o17⟩:=i.od
 have hA:h.A h.yb:=by unfold HBk.A;simp
 have hk:Kept (fun b=>b=h.yb) w (w.setCell ⟨h.yb,0,none⟩ v):=Kept.set (X:=fun b=>b=h.yb) w rfl 0 v
 have hx:∀b,b=h.yb→h.A b:=fun b e=>by rw[e];exact hA
 exact ⟨i.od,fun b q=>Nat.lt_of_lt_of_le (i.lt b q) hk.size,i.kp.trans hk (fun b _ e=>hx b e),(hk.block _ i.nxt.lt (by omega)).trans i.nxt,i.yy.set hA v (hv.imp (fun W q=>⟨fun _=>q,fun e=>absurd e (by decide)⟩)) (fun k u W hk q=>⟨fun e=>absurd e hk,q.2⟩),i.w0.keep hk hx (by omega),i.w1.keep hk hx (by omega),i.n0.keep hk hx (by omega),i.n1.keep hk hx (by omega),i.e0.keep hk hx (by omega),i.e1.keep hk hx (by omega),i.x1.keep hk hx (by omega) (by omega),i.x0.keep hk hx (by omega) (by omega)⟩
theorem HMem.gath1(i:HMem D h W0 w c0 c1 d0 d1 y0 y1 q1 q0 m1 m0 g1 g0){y:List (Mx×Mx)}(v:Value)(hv:Hold h.A w (fun W=>D_ W v y)):HMem D h W0 (w.setCell ⟨h.yb,1,none⟩ v) c0 c1 d0 d1 y0 y q1 q0 m1 m0 g1 g0:=by
 obtain ⟨⟨o1,o2,o3,o4,o5,o6,o7⟩,⟨o8,o9,o10,o11⟩,o12,o13,o14,o15,o16,o17⟩:=i.od
 have hA:h.A h.yb:=by unfold HBk.A;simp
 have hk:Kept (fun b=>b=h.yb) w (w.setCell ⟨h.yb,1,none⟩ v):=Kept.set (X:=fun b=>b=h.yb) w rfl 1 v
 have hx:∀b,b=h.yb→h.A b:=fun b e=>by rw[e];exact hA
 exact ⟨i.od,fun b q=>Nat.lt_of_lt_of_le (i.lt b q) hk.size,i.kp.trans hk (fun b _ e=>hx b e),(hk.block _ i.nxt.lt (by omega)).trans i.nxt,i.yy.set hA v (hv.imp (fun W q=>⟨fun e=>absurd e (by decide),fun _=>q⟩)) (fun k u W hk q=>⟨q.1,fun e=>absurd e hk⟩),i.w0.keep hk hx (by omega),i.w1.keep hk hx (by omega),i.n0.keep hk hx (by omega),i.n1.keep hk hx (by omega),i.e0.keep hk hx (by omega),i.e1.keep hk hx (by omega),i.x1.keep hk hx (by omega) (by omega),i.x0.keep hk hx (by omega) (by omega)⟩
theorem HMem.saw0(i:HMem D h W0 w c0 c1 d0 d1 y0 y1 q1 q0 m1 m0 g1 g0){m:Nat}{d:Nat→Prop}(v:Value)(hv:Hold h.A w (fun W=>IsMxs W v (ngX D.a (D.at m).1)))(hd:∀k,k≠m→d k→d0 k):HMem D h W0 (w.setCell ⟨h.s0,m,none⟩ v) c0 c1 d d1 y0 y1 q1 q0 m1 m0 g1 g0:=by
 obtain ⟨⟨o1,o2,o3,o4,o5,o6,o7⟩,⟨o8,o9,o10,o11⟩,o12,o13,o14,o15,o16,o17⟩:=i.od
 have hA:h.A h.s0:=by unfold HBk.A;simp
 have hk:Kept (fun b=>b=h.s0) w (w.setCell ⟨h.s0,m,none⟩ v):=Kept.set (X:=fun b=>b=h.s0) w rfl m v
 have hx:∀b,b=h.s0→h.A b:=fun b e=>by rw[e];exact hA
 exact ⟨i.od,fun b q=>Nat.lt_of_lt_of_le (i.lt b q) hk.size,i.kp.trans hk (fun b _ e=>hx b e),(hk.block _ i.nxt.lt (by omega)).trans i.nxt,i.yy.keep hk hx (by omega),i.w0.set hA v (hv.imp (fun W q _=>q)) (fun k u W hk q e=>q (hd k hk e)),i.w1.keep hk hx (by omega),i.n0.keep hk hx (by omega),i.n1.keep hk hx (by omega),i.e0.keep hk hx (by omega),i.e1.keep hk hx (by omega),i.x1.keep hk hx (by omega) (by omega),i.x0.keep hk hx (by omega) (by omega)⟩
theorem HMem.saw1(i:HMem D h W0 w c0 c1 d0 d1 y0 y1 q1 q0 m1 m0 g1 g0){m:Nat}{d:Nat→Prop}(v:Value)(hv:Hold h.A w (fun W=>IsMxs W v (ngX D.b (midH D.a (D.at m)))))(hd:∀k,k≠m→d k→d1 k):HMem D h W0 (w.setCell ⟨h.s1,m,none⟩ v) c0 c1 d0 d y0 y1 q1 q0 m1 m0 g1 g0:=by
 obtain ⟨⟨o1,o2,o3,o4,o5,o6,o7⟩,⟨o8,o9,o10,o11⟩,o12,o13,o14,o15,o16,o17⟩:=i.od
 have hA:h.A h.s1:=by unfold HBk.A;simp
 have hk:Kept (fun b=>b=h.s1) w (w.setCell ⟨h.s1,m,none⟩ v):=Kept.set (X:=fun b=>b=h.s1) w rfl m v
 have hx:∀b,b=h.s1→h.A b:=fun b e=>by rw[e];exact hA
 exact ⟨i.od,fun b q=>Nat.lt_of_lt_of_le (i.lt b q) hk.size,i.kp.trans hk (fun b _ e=>hx b e),(hk.block _ i.nxt.lt (by omega)).trans i.nxt,i.yy.keep hk hx (by omega),i.w0.keep hk hx (by omega),i.w1.set hA v (hv.imp (fun W q _=>q)) (fun k u W hk q e=>q (hd k hk e)),i.n0.keep hk hx (by omega),i.n1.keep hk hx (by omega),i.e0.keep hk hx (by omega),i.e1.keep hk hx (by omega),i.x1.keep hk hx (by omega) (by omega),i.x0.keep hk hx (by omega) (by omega)⟩
theorem HMem.in0(i:HMem D h W0 w c0 c1 d0 d1 y0 y1 q1 q0 m1 m0 g1 g0){m:Nat}(hm:m<D.P)(s:Value)(hs:Hold h.A w (fun W=>I_ W s (bckH D.a D.b (D.at m)).cells)){g:Nat→Bool}(hg:∀k,k≠m→g k=true→g0 k=true):HMem D h W0 (((w.setCell ⟨h.i0,m*3,none⟩ (.int .i64 (bckH D.a D.b (D.at m)).rows)).setCell ⟨h.i0,m*3+1,none⟩ (.int .i64 (bckH D.a D.b (D.at m)).cols)).setCell ⟨h.i0,m*3+2,none⟩ s) c0 c1 d0 d1 y0 y1 q1 q0 m1 m0 g1 g:=by
 obtain ⟨⟨o1,o2,o3,o4,o5,o6,o7⟩,⟨o8,o9,o10,o11⟩,o12,o13,o14,o15,o16,o17⟩:=i.od
 have hA:h.A h.i0:=by unfold HBk.A;simp
 have hk:Kept (fun b=>b=h.i0) w (((w.setCell ⟨h.i0,m*3,none⟩ (.int .i64 (bckH D.a D.b (D.at m)).rows)).setCell ⟨h.i0,m*3+1,none⟩ (.int .i64 (bckH D.a D.b (D.at m)).cols)).setCell ⟨h.i0,m*3+2,none⟩ s):=keep3 w h.i0 (m*3) _ _ _
 have hx:∀b,b=h.i0→h.A b:=fun b e=>by rw[e];exact hA
 exact ⟨i.od,fun b q=>Nat.lt_of_lt_of_le (i.lt b q) hk.size,i.kp.trans hk (fun b _ e=>hx b e),(hk.block _ i.nxt.lt (by omega)).trans i.nxt,i.yy.keep hk hx (by omega),i.w0.keep hk hx (by omega),i.w1.keep hk hx (by omega),i.n0.set hA hm _ _ s (hs.imp (fun W q=>⟨by obtain ⟨a,n,k,e⟩:=hs.now.shape;exact ⟨_,_,a,n,k,rfl,rfl,e⟩,fun _=>⟨rfl,rfl,q⟩⟩)) (fun k a b c W hk q=>⟨q.1,fun e=>q.2 (hg k hk e)⟩),i.n1.keep hk hx (by omega),i.e0.keep hk hx (by omega),i.e1.keep hk hx (by omega),i.x1.keep hk hx (by omega) (by omega),i.x0.keep hk hx (by omega) (by omega)⟩
theorem HMem.came0(i:HMem D h W0 w c0 c1 d0 d1 y0 y1 q1 q0 m1 m0 g1 g0){m:Nat}{g:Nat→Bool}(hm:g m=true)(hg:∀k,k≠m→g k=m0 k):HMem D h W0 (w.setCell ⟨h.k0,m,none⟩ (.bool true)) c0 c1 d0 d1 y0 y1 q1 q0 m1 g g1 g0:=by
 obtain ⟨⟨o1,o2,o3,o4,o5,o6,o7⟩,⟨o8,o9,o10,o11⟩,o12,o13,o14,o15,o16,o17⟩:=i.od
 have hA:h.A h.k0:=by unfold HBk.A;simp
 have hk:Kept (fun b=>b=h.k0) w (w.setCell ⟨h.k0,m,none⟩ (.bool true)):=Kept.set (X:=fun b=>b=h.k0) w rfl m _
 have hx:∀b,b=h.k0→h.A b:=fun b e=>by rw[e];exact hA
 exact ⟨i.od,fun b q=>Nat.lt_of_lt_of_le (i.lt b q) hk.size,i.kp.trans hk (fun b _ e=>hx b e),(hk.block _ i.nxt.lt (by omega)).trans i.nxt,i.yy.keep hk hx (by omega),i.w0.keep hk hx (by omega),i.w1.keep hk hx (by omega),i.n0.keep hk hx (by omega),i.n1.keep hk hx (by omega),i.e0.set hA _ (Hold.pure (by rw[hm])) (fun k v W hk q=>q.trans (by rw[hg k hk])),i.e1.keep hk hx (by omega),i.x1.keep hk hx (by omega) (by omega),i.x0.keep hk hx (by omega) (by omega)⟩
theorem HMem.in1(i:HMem D h W0 w c0 c1 d0 d1 y0 y1 q1 q0 m1 m0 g1 g0){m:Nat}(hm:m<D.P)(s:Value)(hs:Hold h.A w (fun W=>I_ W s (midH D.a (D.at m)).cells)){g:Nat→Bool}(hg:∀k,k≠m→g k=true→g1 k=true):HMem D h W0 (((w.setCell ⟨h.i1,m*3,none⟩ (.int .i64 (midH D.a (D.at m)).rows)).setCell ⟨h.i1,m*3+1,none⟩ (.int .i64 (midH D.a (D.at m)).cols)).setCell ⟨h.i1,m*3+2,none⟩ s) c0 c1 d0 d1 y0 y1 q1 q0 m1 m0 g g0:=by
 obtain ⟨⟨o1,o2,o3,o4,o5,o6,o7⟩,⟨o8,o9,o10,o11⟩,o12,o13,o14,o15,o16,o17⟩:=i.od
 have hA:h.A h.i1:=by unfold HBk.A;simp
 have hk:Kept (fun b=>b=h.i1) w (((w.setCell ⟨h.i1,m*3,none⟩ (.int .i64 (midH D.a (D.at m)).rows)).setCell ⟨h.i1,m*3+1,none⟩ (.int .i64 (midH D.a (D.at m)).cols)).setCell ⟨h.i1,m*3+2,none⟩ s):=keep3 w h.i1 (m*3) _ _ _
 have hx:∀b,b=h.i1→h.A b:=fun b e=>by rw[e];exact hA
 exact ⟨i.od,fun b q=>Nat.lt_of_lt_of_le (i.lt b q) hk.size,i.kp.trans hk (fun b _ e=>hx b e),(hk.block _ i.nxt.lt (by omega)).trans i.nxt,i.yy.keep hk hx (by omega),i.w0.keep hk hx (by omega),i.w1.keep hk hx (by omega),i.n0.keep hk hx (by omega),i.n1.set hA hm _ _ s (hs.imp (fun W q=>⟨by obtain ⟨a,n,k,e⟩:=hs.now.shape;exact ⟨_,_,a,n,k,rfl,rfl,e⟩,fun _=>⟨rfl,rfl,q⟩⟩)) (fun k a b c W hk q=>⟨q.1,fun e=>q.2 (hg k hk e)⟩),i.e0.keep hk hx (by omega),i.e1.keep hk hx (by omega),i.x1.keep hk hx (by omega) (by omega),i.x0.keep hk hx (by omega) (by omega)⟩
theorem HMem.came1(i:HMem D h W0 w c0 c1 d0 d1 y0 y1 q1 q0 m1 m0 g1 g0){m:Nat}{g:Nat→Bool}(hm:g m=true)(hg:∀k,k≠m→g k=m1 k):HMem D h W0 (w.setCell ⟨h.k1,m,none⟩ (.bool true)) c0 c1 d0 d1 y0 y1 q1 q0 g m0 g1 g0:=by
 obtain ⟨⟨o1,o2,o3,o4,o5,o6,o7⟩,⟨o8,o9,o10,o11⟩,o12,o13,o14,o15,o16,o17⟩:=i.od
 have hA:h.A h.k1:=by unfold HBk.A;simp
 have hk:Kept (fun b=>b=h.k1) w (w.setCell ⟨h.k1,m,none⟩ (.bool true)):=Kept.set (X:=fun b=>b=h.k1) w rfl m _
 have hx:∀b,b=h.k1→h.A b:=fun b e=>by rw[e];exact hA
 exact ⟨i.od,fun b q=>Nat.lt_of_lt_of_le (i.lt b q) hk.size,i.kp.trans hk (fun b _ e=>hx b e),(hk.block _ i.nxt.lt (by omega)).trans i.nxt,i.yy.keep hk hx (by omega),i.w0.keep hk hx (by omega),i.w1.keep hk hx (by omega),i.n0.keep hk hx (by omega),i.n1.keep hk hx (by omega),i.e0.keep hk hx (by omega),i.e1.set hA _ (Hold.pure (by rw[hm])) (fun k v W hk q=>q.trans (by rw[hg k hk])),i.x1.keep hk hx (by omega) (by omega),i.x0.keep hk hx (by omega) (by omega)⟩
theorem HMem.box1(i:HMem D h W0 w c0 c1 d0 d1 y0 y1 q1 q0 m1 m0 g1 g0){w':World}{q:List Nat}(hk:Kept (fun b=>b=h.b1∨b=h.c1) w w')(hb:BoxOf h.A w' h.b1 h.c1 (q.map D.ms1)):HMem D h W0 w' c0 c1 d0 d1 y0 y1 q q0 m1 m0 g1 g0:=by
 obtain ⟨⟨o1,o2,o3,o4,o5,o6,o7⟩,⟨o8,o9,o10,o11⟩,o12,o13,o14,o15,o16,o17⟩:=i.od
 have hx:∀b,(b=h.b1∨b=h.c1)→h.A b:=fun b e=>by unfold HBk.A;rcases e with rfl|rfl<;>simp
 exact ⟨i.od,fun b q=>Nat.lt_of_lt_of_le (i.lt b q) hk.size,i.kp.trans hk (fun b _ e=>hx b e),(hk.block _ i.nxt.lt (by omega)).trans i.nxt,i.yy.keep hk hx (by omega),i.w0.keep hk hx (by omega),i.w1.keep hk hx (by omega),i.n0.keep hk hx (by omega),i.n1.keep hk hx (by omega),i.e0.keep hk hx (by omega),i.e1.keep hk hx (by omega),hb,i.x0.keep hk hx (by omega) (by omega)⟩
theorem HMem.box0(i:HMem D h W0 w c0 c1 d0 d1 y0 y1 q1 q0 m1 m0 g1 g0){w':World}{q:List Nat}(hk:Kept (fun b=>b=h.b0∨b=h.c0) w w')(hb:BoxOf h.A w' h.b0 h.c0 (q.map D.ms0)):HMem D h W0 w' c0 c1 d0 d1 y0 y1 q1 q m1 m0 g1 g0:=by
 obtain ⟨⟨o1,o2,o3,o4,o5,o6,o7⟩,⟨o8,o9,o10,o11⟩,o12,o13,o14,o15,o16,o17⟩:=i.od
 have hx:∀b,(b=h.b0∨b=h.c0)→h.A b:=fun b e=>by unfold HBk.A;rcases e with rfl|rfl<;>simp
 exact ⟨i.od,fun b q=>Nat.lt_of_lt_of_le (i.lt b q) hk.size,i.kp.trans hk (fun b _ e=>hx b e),(hk.block _ i.nxt.lt (by omega)).trans i.nxt,i.yy.keep hk hx (by omega),i.w0.keep hk hx (by omega),i.w1.keep hk hx (by omega),i.n0.keep hk hx (by omega),i.n1.keep hk hx (by omega),i.e0.keep hk hx (by omega),i.e1.keep hk hx (by omega),i.x1.keep hk hx (by omega) (by omega),hb⟩
end
theorem hbnew(w:World):Calls Tryz.prog 10 #[.int .i64 16] w fun e w'=>∃B C P,e=.returned (.tuple #[.pointer (some ⟨B,0,none⟩),.nilIface])∧BoxIs w' P B C 16 false []∧(∀b,P b→w.heap.size≤b)∧Below w.heap.size w w':=mnew_any 16 16 rfl (by omega) (by omega) w
theorem hbput{A:Nat→Prop}{w:World}{B C:Nat}{ms:List (Int×Int×Mx)}{m:Int×Int×Mx}{v:Value}(h:BoxOf A w B C ms)(hl:ms.length<16)(hA:∀b,A b→b<w.heap.size)(hv:IsMsg w v m.1 m.2.1 m.2.2)(hno:∀a0 a1 a2 a3 s,v=.agg #[a0,a1,a2,a3,s]→NilOk s)(hc:m.2.2.cells.length≤1000):
  Calls Tryz.prog 37 #[.pointer (some ⟨B,0,none⟩),v] w fun e w'=>e=.returned .nilIface∧BoxOf A w' B C (ms++[m])∧Kept (fun b=>b=B∨b=C) w w':=by
 obtain ⟨P,h1,h2⟩:=h
 refine (mput_room P B C 16 ms m v w h1 hv hno (by omega) hl).mono ?_
 rintro e w' ⟨rfl,P',hb,hp,hk⟩
 refine ⟨rfl,⟨P',hb,fun b q=>?_⟩,hk.mono (fun _ _ e=>.inr e)⟩
 rcases hp b q with q|q
 ·exact h2 b q
 ·exact .inr (.inr (fun e=>by have:=hA b e;omega))
theorem BoxIs.inHold{A P:Nat→Prop}{B C n:Nat}{cl:Bool}{ms:List (Int×Int×Mx)}{w:World}(h:BoxIs w P B C n cl ms)(h2:∀b,P b→b=B∨b=C∨¬A b){s:Value}{zs:List Int}(hs:I_ w s zs)(hp:zs=[]∨∀a n c,s=.slice (some a) n c→P a.block):Hold A w (fun W=>I_ W s zs):=by
 intro W hW
 obtain ⟨a,cap,g1,g2,g3,g4⟩:=hs
 refine ⟨a,cap,g1,g2,g3,?_⟩
 rcases hp with hp|hp
 ·exact .inl hp
 rcases g4 with g4|⟨b,off,ha,hcell⟩
 ·exact .inl g4
 refine .inr ⟨b,off,ha,fun i x hx=>hW _ _ (fun e=>?_) (hcell i x hx)⟩
 have hh:=hcell i x hx
 have hb:=hp ⟨b,off,none⟩ zs.length cap (by rw[g1,ha])
 rcases h2 b hb with q|q|q
 ·subst q
  rw[Joins.cell_of_block h.bx]at hh
  match hq:off+i,hh with
  |0,hh=>simp at hh
  |1,hh=>simp at hh
  |2,hh=>simp at hh
  |3,hh=>simp at hh
  |k+4,hh=>simp at hh
 ·subst q
  obtain ⟨buf,t,r,hch,_,_⟩:=h.ch
  simp[World.cell?,hch]at hh
 ·exact q e
theorem hbtake{A:Nat→Prop}{w:World}{B C:Nat}{ms:List (Int×Int×Mx)}{m:Int×Int×Mx}(h:BoxOf A w B C (m::ms))(_:∀b,A b→b<w.heap.size):
  Calls Tryz.prog 31 #[.pointer (some ⟨B,0,none⟩)] w fun e w'=>∃s,e=.returned (.tuple #[.agg #[.int .i64 m.1,.int .i64 m.2.1,.int .i64 m.2.2.rows,.int .i64 m.2.2.cols,s],.nilIface])∧BoxOf A w' B C ms∧Hold A w' (fun W=>I_ W s m.2.2.cells)∧Kept (fun b=>b=B∨b=C) w w':=by
 obtain ⟨P,h1,h2⟩:=h
 refine (mtake_q (fun _=>True) P B C 16 false ms .nilIface m.1 m.2.1 m.2.2 w (h1.lt C h1.pC) h1.lt (fun W hb=>(qtake_some P B C 16 false m ms W (h1.keep (Kept.of (X:=fun _=>False) hb) (fun _ _ e=>e))).mono ?_)).mono ?_
 ·rintro e w' ⟨u,q1,q2⟩
  exact ⟨u,q1,trivial,q2⟩
 ·rintro e w' ⟨u,rfl,_,⟨s,rfl,q1,q2⟩,q3,q4⟩
  exact ⟨s,rfl,⟨P,q3,h2⟩,q3.inHold h2 q1 q2,q4.mono (fun _ _ e=>.inr e)⟩
theorem hbtake_no{A:Nat→Prop}{w:World}{B C:Nat}(h:BoxOf A w B C [])(_:∀b,A b→b<w.heap.size):
  Calls Tryz.prog 31 #[.pointer (some ⟨B,0,none⟩)] w fun e w'=>∃n,e=.returned (.tuple #[.agg #[.int .i64 0,.int .i64 0,.int .i64 0,.int .i64 0,.slice none 0 0],.iface 94 (.int .i64 n)])∧BoxOf A w' B C []∧Kept (fun b=>b=B∨b=C) w w':=by
 obtain ⟨P,h1,h2⟩:=h
 refine (mtake_q (fun u=>u=.agg #[.int .i64 0,.int .i64 0,.int .i64 0,.int .i64 0,.slice none 0 0]) P B C 16 false [] (.iface 94 (.int .i64 4)) 0 0 ⟨0,0,[]⟩ w (h1.lt C h1.pC) h1.lt (fun W hb=>qtake_none P B C 16 W (h1.keep (Kept.of (X:=fun _=>False) hb) (fun _ _ e=>e)))).mono ?_
 rintro e w' ⟨u,rfl,rfl,_,q3,q4⟩
 exact ⟨4,rfl,⟨P,q3,h2⟩,q4.mono (fun _ _ e=>.inr e)⟩
set_option maxHeartbeats 8000000 in
set_option maxRecDepth 100000 in
theorem wsums_any(v:Value)(l:List Int)(w:World)(hv:IsBys w v l):Calls Tryz.prog 67 #[v] w fun e w'=>∃s0 s1,e=.returned (.agg #[.int .u8 s0,.int .u8 s1])∧sumsG 0 0 l=[s0,s1]∧0≤s0∧s0<255∧0≤s1∧s1<255∧Below w.heap.size w w':=by
 obtain ⟨a,cap,rfl,h2,h3,h5,h4⟩:=hv
 obtain ⟨n,hn⟩:=gN (l.length)
 have H4:=h_ h4
 have H5:=h_ h5
 have HN:=h_ hn
 rw[hn]at h2 ⊢
 have hmx:(n:Int)≤9223372036854775807:=by unfold maxLen at h3;omega
 obtain ⟨W1,hW1⟩:=gM (w.alloc (.cells #[.int .u8 0,.int .u8 0] 156))
 have HW1:=h_ hW1
 obtain ⟨W2,hW2⟩:=gM (W1.alloc (.cells #[.int .i64 0,.int .i64 0] 189))
 have HW2:=h_ hW2
 have HS1:=h_ (show W1.heap.size=w.heap.size+1 by rw[hW1,World.size_alloc])
 have HK1:=h_ (show WBk W1 w.heap.size #[.int .u8 0,.int .u8 0] 156 by rw[hW1];exact WBk.new _ _ _)
 have HK2:=h_ (show WBk W2 (w.heap.size+1) #[.int .i64 0,.int .i64 0] 189 by rw[←HS1.out,hW2];exact WBk.new _ _ _)
 have HK3:=h_ (show WBk W2 w.heap.size #[.int .u8 0,.int .u8 0] 156 by rw[hW2];exact HK1.out.kept (o_ _ _))
 have HB2:=h_ (show Below w.heap.size w W2 by rw[hW2];exact bel_on (by rw[hW1];exact o_ _ _) (o_ _ _))
 clear h4 h5 hn hW1 hW2
 go_enter Tryz.func67,Tryz.ntmps67
 go_wp2
 rw[←HW1.out,←HW2.out]
 go_loopw [8,5] (fun iv _ wr=>∃(k:Nat) (xi x y X Y:Int),k≤n∧xi=(k:Int)∧iv=.int .i64 xi∧x=X % 255∧y=Y % 255∧WBk wr (w.heap.size+1) #[.int .i64 x,.int .i64 y] 189∧WBk wr w.heap.size #[.int .u8 0,.int .u8 0] 156∧Below w.heap.size w wr∧sumsG 0 0 l=sumsG X Y (l.drop k)) (fun iv _ _=>n - (intOf iv).toNat)
 case atStart=>exact ⟨0,0,0,0,0,0,Nat.zero_le _,rfl,rfl,rfl,rfl,HK2.out,HK3.out,HB2.out,by rw[List.drop_zero]⟩
 case round=>
  obtain ⟨k,xi,x,y,X,Y,hk,hxi,rfl,hxX,hyY,hk1,hk2,hbl,hs⟩:=hrel
  have hx0:0≤x:=by omega
  have hx1:x<255:=by omega
  have hy0:0≤y:=by omega
  have hy1:y<255:=by omega
  have HXY:=h_ (And.intro hxX hyY)
  have HXI:=h_ hxi
  have HS:=h_ hs
  have HB1:=h_ hk1
  have HB0:=h_ hk2
  have HBL:=h_ hbl
  have hi0:0≤xi:=by omega
  have hi1:xi≤(n:Int):=by omega
  have c0:=hk1.c (i:=0) rfl
  have c1:=hk1.c (i:=1) rfl
  have f0:=hk1.f 0
  have f1:=hk1.f 1
  clear hxi hs hxX hyY hk1 hk2 hbl
  by_cases hlt:xi<(n:Int)
  ·have hkl:k<l.length:=by have:=HN.out;have:=HXI.out;omega
   obtain ⟨d,hd⟩:∃d,l[k]?=some d:=⟨_,List.getElem?_eq_getElem hkl⟩
   obtain ⟨d0,d1⟩:=H5.out d (List.mem_of_getElem? hd)
   obtain ⟨b1,o1,ha1,hc1⟩:=H4.out.resolve_left (fun e=>by rw[e]at hd;simp at hd)
   subst ha1
   have e1:=(HBL.out.cell (World.block_lt_of_cell? w _ (hc1 k d hd))).trans (hc1 k d hd)
   rw[show k=xi.toNat by have:=HXI.out;omega]at e1
   have HD:=h_ (show l.drop k=d::l.drop (k+1) by
    obtain ⟨hi,e⟩:=List.getElem?_eq_some_iff.1 hd
    rw[List.drop_eq_getElem_cons hi,e])
   have HR:=h_ (show sumsG 0 0 l=sumsG (X+d) (Y+(X+d) % 255) (l.drop (k+1)) by rw[HS.out,HD.out,sumsG])
   obtain ⟨x',hx'⟩:=gN ((x+d) % 255)
   obtain ⟨y',hy'⟩:=gN ((y+x') % 255)
   have HX':=h_ (show x'=(X+d) % 255 by have:=HXY.out;omega)
   have HY':=h_ (show y'=(Y+(X+d) % 255) % 255 by have:=HXY.out;have:=HX'.out;omega)
   have g0:(wr.setCell ⟨w.heap.size+1,0,none⟩ (.int .i64 x')).cell? ⟨w.heap.size+1,0,none⟩=some (.int .i64 x'):=(HB1.out.set 0 _).c rfl
   have g1:(wr.setCell ⟨w.heap.size+1,0,none⟩ (.int .i64 x')).cell? ⟨w.heap.size+1,1,none⟩=some (.int .i64 y):=(HB1.out.set 0 _).c rfl
   have g2:(wr.setCell ⟨w.heap.size+1,0,none⟩ (.int .i64 x')).frozen? ⟨w.heap.size+1,1,none⟩=false:=(HB1.out.set 0 _).f 1
   clear hc1 hd hkl
   go_wp2
   go_roundw
   case rel=>
    refine ⟨k+1,_,x',y',X+d,_,by have:=HXI.out;omega,by have:=HXI.out;omega,rfl,HX'.out,HY'.out,?_,?_,?_,HR.out⟩
    ·exact (HB1.out.set 0 (.int .i64 x')).set 1 (.int .i64 y')
    ·exact (HB0.out.other (by omega) _).other (by omega) _
    ·exact (HBL.out.setCell (p:=⟨w.heap.size+1,0,none⟩) (Nat.le_succ _) _).setCell (p:=⟨w.heap.size+1,1,none⟩) (Nat.le_succ _) _
   case measure=>have:=HXI.out;simp[intOf];omega
  ·have HE:=h_ (show sumsG 0 0 l=[x,y] by
    rw[HS.out,List.drop_of_length_le (by have:=HN.out;have:=HXI.out;omega)]
    have:=HXY.out
    rw[this.1,this.2]
    rfl)
   have hwx:IntKind.u8.wrap x=x:=by rw[IntKind.wrap_u8];omega
   have hwy:IntKind.u8.wrap y=y:=by rw[IntKind.wrap_u8];omega
   have z0:=HB0.out.c (i:=0) rfl
   have z1:=HB0.out.c (i:=1) rfl
   have z2:=HB0.out.f 0
   have z3:=HB0.out.f 1
   have HF:=h_ (((HB0.out.set 0 (.int .u8 x)).set 1 (.int .u8 y)))
   have q0:=HF.out.c (i:=0) rfl
   have q1:=HF.out.c (i:=1) rfl
   go_wp2
   refine bodyPost_ret (v:=.agg #[.int .u8 x,.int .u8 y]) (by simp[results,Tryz.results67,go_sem,q0,q1]) rfl ⟨x,y,rfl,HE.out,hx0,hx1,hy0,hy1,?_⟩
   exact (HBL.out.setCell (p:=⟨w.heap.size,0,none⟩) (Nat.le_refl _) _).setCell (p:=⟨w.heap.size,1,none⟩) (Nat.le_refl _) _
end Go.Proofs.YtniloklglpchfakGreat
