/- Boxes of any size: what a variable holds, cell by cell; a box that is written again. No program in sight. -/
import Derived.Test.YtpniemnfdleiiajGreatDoorPkLy
import Derived.Test.YtpniemnfdleiiajGreatDoorLists
namespace Go.Proofs.YtpniemnfdleiiajGreatDoor
open Go.RowKit
def Box (w:World) (B:Nat) (cs:List Value):Prop:=∀(j:Nat) x,cs[j]?=some x→w.cell? ⟨B,j,none⟩=some x
theorem Box.u_{w w':World}{B:Nat}{cs:List Value}(h:Box w B cs)(hb:Below w.heap.size w w'):Box w' B cs:=fun j x hx=>c_ hb (h j x hx)
theorem Box.new(V:World)(cs:List Value)(t:TypeId){B:Nat}(hB:V.heap.size=B):Box (V.alloc (.cells cs.toArray t)) B cs:=fun j x hx=>box_new V _ t hB (by simpa using hx)
theorem Box.lt{w:World}{B:Nat}{x:Value}{cs:List Value}(h:Box w B (x::cs)):B<w.heap.size:=World.block_lt_of_cell? w _ (h 0 x rfl)
theorem Box.other{w:World}{B B' q:Nat}{cs:List Value}(h:Box w B cs)(hne:B≠B')(u:Value):Box (w.setCell ⟨B',q,none⟩ u) B cs:=fun j x hx=>cell_other (h j x hx) hne q u
def Free (w:World) (B:Nat):Prop:=∀j,w.frozen? ⟨B,j,none⟩=false
theorem Free.new(V:World)(cs:Array Value)(t:TypeId){B:Nat}(hB:V.heap.size=B):Free (V.alloc (.cells cs t)) B:=box_free V cs t hB
theorem Free.u_{w w':World}{B:Nat}(h:Free w B)(hb:Below w.heap.size w w')(hlt:B<w.heap.size):Free w' B:=fun j=>(hb.frozen (p:=⟨B,j,none⟩) hlt).trans (h j)
theorem I_.freshSet{w:World}{B:Nat}{s:Value}{zs:List Int}(h:I_ w s zs){r c:Value}(hf:F_ B (.agg #[r,c,s])){b:Nat}(hb:b<B)(q:Nat)(u:Value):I_ (w.setCell ⟨b,q,none⟩ u) s zs:=by
 obtain ⟨a,cap,rfl,h2,h3,h4⟩:=h
 refine ⟨a,cap,rfl,h2,h3,?_⟩
 rcases h4 with h0|⟨b',off,rfl,hc⟩
 ·exact .inl h0
 ·rcases hf _ _ _ _ _ rfl with hz|hz
  ·exact .inl (List.eq_nil_of_length_eq_zero hz)
  ·exact .inr ⟨b',off,rfl,fun i x hx=>cell_other (hc i x hx) (by show b'≠b;simp only[]at hz;omega) q u⟩
theorem f_{B B':Nat}{v:Value}(h:F_ B v)(hb:B'≤B):F_ B' v:=fun r c x n k e=>(h r c x n k e).imp id (fun h=>Nat.le_trans hb h)
theorem Box.c2{w:World}{B:Nat}{x0 x1:Value}{cs:List Value}(h:Box w B (x0::x1::cs)):w.cell? ⟨B,0,none⟩=some x0∧w.cell? ⟨B,1,none⟩=some x1:=⟨h 0 _ rfl,h 1 _ rfl⟩
theorem Box.c3{w:World}{B:Nat}{x0 x1 x2:Value}{cs:List Value}(h:Box w B (x0::x1::x2::cs)):w.cell? ⟨B,0,none⟩=some x0∧w.cell? ⟨B,1,none⟩=some x1∧w.cell? ⟨B,2,none⟩=some x2:=⟨h 0 _ rfl,h 1 _ rfl,h 2 _ rfl⟩
theorem Box.c35{w:World}{B:Nat}{x0 x1 x2 x3 x4 x5:Value}{cs:List Value}(h:Box w B (x0::x1::x2::x3::x4::x5::cs)):w.cell? ⟨B,3,none⟩=some x3∧w.cell? ⟨B,4,none⟩=some x4∧w.cell? ⟨B,5,none⟩=some x5:=⟨h 3 _ rfl,h 4 _ rfl,h 5 _ rfl⟩
theorem Box.c6{w:World}{B:Nat}{x0 x1 x2 x3 x4 x5:Value}{cs:List Value}(h:Box w B (x0::x1::x2::x3::x4::x5::cs)):w.cell? ⟨B,0,none⟩=some x0∧w.cell? ⟨B,1,none⟩=some x1∧w.cell? ⟨B,2,none⟩=some x2∧w.cell? ⟨B,3,none⟩=some x3∧w.cell? ⟨B,4,none⟩=some x4∧w.cell? ⟨B,5,none⟩=some x5:=⟨h 0 _ rfl,h 1 _ rfl,h 2 _ rfl,h 3 _ rfl,h 4 _ rfl,h 5 _ rfl⟩
theorem Box.c7{w:World}{B:Nat}{x0 x1 x2 x3 x4 x5 x6:Value}{cs:List Value}(h:Box w B (x0::x1::x2::x3::x4::x5::x6::cs)):w.cell? ⟨B,0,none⟩=some x0∧w.cell? ⟨B,1,none⟩=some x1∧w.cell? ⟨B,2,none⟩=some x2∧w.cell? ⟨B,3,none⟩=some x3∧w.cell? ⟨B,4,none⟩=some x4∧w.cell? ⟨B,5,none⟩=some x5∧w.cell? ⟨B,6,none⟩=some x6:=⟨h 0 _ rfl,h 1 _ rfl,h 2 _ rfl,h 3 _ rfl,h 4 _ rfl,h 5 _ rfl,h 6 _ rfl⟩
theorem Free.f3{w:World}{B:Nat}(h:Free w B):w.frozen? ⟨B,0,none⟩=false∧w.frozen? ⟨B,1,none⟩=false∧w.frozen? ⟨B,2,none⟩=false:=⟨h 0,h 1,h 2⟩
theorem Free.f6{w:World}{B:Nat}(h:Free w B):w.frozen? ⟨B,0,none⟩=false∧w.frozen? ⟨B,1,none⟩=false∧w.frozen? ⟨B,2,none⟩=false∧w.frozen? ⟨B,3,none⟩=false∧w.frozen? ⟨B,4,none⟩=false∧w.frozen? ⟨B,5,none⟩=false:=⟨h 0,h 1,h 2,h 3,h 4,h 5⟩
theorem drop_at{α:Type}{xs:List α}{i:Nat}{x:α}(h:xs[i]?=some x):xs.drop i=x::xs.drop (i+1):=by
 obtain ⟨hi,rfl⟩:=List.getElem?_eq_some_iff.1 h
 exact List.drop_eq_getElem_cons hi
theorem infoMx:(Tryz.prog.info? 25).map (fun i=>(i.zero,i.size,i.bytes))=some (some (.agg #[.int .i64 0,.int .i64 0,.slice none 0 0]),3,40):=by kernel_rfl
def runE:List Ly→Mx→Int
 |[],_=>0
 |l::ls,x=>if goE l x≠0 then goE l x else runE ls (goX l x)
def runT:List Ly→Mx→List Mx
 |[],_=>[]
 |l::ls,x=>goX l x::runT ls (goX l x)
def ngE (ls:List Ly) (x:Mx):Int:=if 12<ls.length then 3 else if q_ x≠0 then q_ x else runE ls x
def ngX (ls:List Ly) (x:Mx):List Mx:=if ngE ls x=0 then x::runT ls x else []
theorem isMxs_nil(w:World):IsMxs w (.slice none 0 0) []:=⟨none,0,rfl,Nat.le_refl _,Nat.zero_le _,.inl rfl⟩
theorem enc_mx{w:World}{G:Nat→Prop}{m:Mx}{s:Value}(h:P_ w G (.inr m.cells) s):Enc w G (mxS m) [.int .i64 m.rows,.int .i64 m.cols,s]:=.cons rfl (.cons rfl (.cons h (.nil _ _)))
theorem x_{w:World}{n:Nat}{r c s:Value}{zs:List Int}(h:I_ w s zs)(hf:F_ n (.agg #[r,c,s])){G:Nat→Prop}(hG:∀b,G b→b<n):P_ w G (.inr zs) s:=by
 refine ⟨h,?_⟩
 by_cases h0:zs=[]
 ·exact .inl h0
 ·obtain ⟨a,cap,rfl,_,_,h4⟩:=h
  obtain ⟨b,off,rfl,_⟩:=h4.resolve_left h0
  refine .inr fun k hk hg=>?_
  have hlt:=hG k hg
  obtain rfl:b=k:=by simpa [Value.ownBlock] using hk
  rcases hf r c ⟨b,off,none⟩ zs.length cap rfl with h1|h1
  ·exact absurd (List.eq_nil_of_length_eq_zero h1) h0
  ·have:n≤b:=h1
   omega
theorem part_old{w w':World}{s:Value}{zs:List Int}(h:I_ w s zs)(hb:Below w.heap.size w w'){G:Nat→Prop}(hG:∀b,G b→w.heap.size≤b):P_ w' G (.inr zs) s:=by
 refine ⟨h.u_ hb,?_⟩
 by_cases h0:zs=[]
 ·exact .inl h0
 ·obtain ⟨b,hb',hlt⟩:=h.lt h0
  refine .inr fun k hk hg=>?_
  rw[hb']at hk
  obtain rfl:=Option.some.inj hk
  have:=hG b hg
  omega
theorem three_set{w:World}{B:Nat}{a0 a1 a2:Value}(h:Box w B [a0,a1,a2])(x y z:Value):Box (((w.setCell ⟨B,0,none⟩ x).setCell ⟨B,1,none⟩ y).setCell ⟨B,2,none⟩ z) B [x,y,z]:=by
 have o:∀(u:World) (i j:Nat) (v:Value),i≠j→(u.setCell ⟨B,i,none⟩ v).cell? ⟨B,j,none⟩=u.cell? ⟨B,j,none⟩:=fun u i j v hij=>cell_at_other u B i j v hij
 intro j v hv
 match j,hv with
 |0,hv=>simp at hv;subst hv;rw[o _ 2 0 _ (by decide),o _ 1 0 _ (by decide)];exact World.cell?_setCell_same _ _ _ (h 0 _ rfl)
 |1,hv=>simp at hv;subst hv;rw[o _ 2 1 _ (by decide)];exact World.cell?_setCell_same _ _ _ ((o _ 0 1 _ (by decide)).trans (h 1 _ rfl))
 |2,hv=>simp at hv;subst hv;exact World.cell?_setCell_same _ _ _ ((o _ 1 2 _ (by decide)).trans ((o _ 0 2 _ (by decide)).trans (h 2 _ rfl)))
theorem infoGd:(Tryz.prog.info? 65).map (fun i=>(i.zero,i.size,i.bytes))=some (some (.agg #[.int .i64 0,.int .i64 0,.slice none 0 0,.int .i64 0,.int .i64 0,.slice none 0 0]),6,80):=by kernel_rfl
theorem enc_gd{w:World}{G:Nat→Prop}{d:Mx×Mx}{s t:Value}(h:P_ w G (.inr d.1.cells) s)(h':P_ w G (.inr d.2.cells) t):Enc w G (gdS d) [.int .i64 d.1.rows,.int .i64 d.1.cols,s,.int .i64 d.2.rows,.int .i64 d.2.cols,t]:=.cons rfl (.cons rfl (.cons h (.cons rfl (.cons rfl (.cons h' (.nil _ _))))))
end Go.Proofs.YtpniemnfdleiiajGreatDoor
