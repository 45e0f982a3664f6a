/- What at of package mat and the closures that read one matrix come to. -/
import Derived.Test.YtaajlggpjholeajDoorPkMCheckAll
import Derived.Test.YtaajlggpjholeajDoorPlain
import Derived.Deep.RegionHeld3
namespace Go.Proofs.YtaajlggpjholeajDoor
open Go.RowKit
theorem box_new(V:World)(cs:Array Value)(t:TypeId){B j:Nat}{x:Value}(hB:V.heap.size=B)(h:cs[j]?=some x):(V.alloc (.cells cs t)).cell? ⟨B,j,none⟩=some x:=by
 subst hB;exact (World.cell?_alloc_at _ _ _ _ rfl).trans h
theorem b_{w u v:World}(h:Below w.heap.size w u)(k:Below u.heap.size u v):Below w.heap.size w v:=h.trans (k.mono h.size)
theorem below_box{w u v:World}{o:Obj}(h:Below w.heap.size w u)(k:Below (u.alloc o).heap.size (u.alloc o) v):Below w.heap.size w v:=b_ (b_ h (o_ _ _)) k
theorem sameM_refl(m:Mx):sameM m m=true:=by unfold sameM;simp
structure Ly where
 k:Int
 w:Mx
 b:Mx
def IsLy (w:World) (v:Value) (l:Ly):Prop:=∃s t,v=.agg #[.int .i64 l.k,.int .i64 l.w.rows,.int .i64 l.w.cols,s,.int .i64 l.b.rows,.int .i64 l.b.cols,t]∧I_ w s l.w.cells∧I_ w t l.b.cells
theorem IsLy.u_{w w':World}{v:Value}{l:Ly}(h:IsLy w v l)(hb:Below w.heap.size w w'):IsLy w' v l:=by
 obtain ⟨s,t,h1,h2,h3⟩:=h;exact ⟨s,t,h1,h2.u_ hb,h3.u_ hb⟩
def IsTwo (w:World) (v:Value) (a b:Mx):Prop:=∃s t,v=.agg #[.int .i64 a.rows,.int .i64 a.cols,s,.int .i64 b.rows,.int .i64 b.cols,t]∧I_ w s a.cells∧I_ w t b.cells
def fitsL (l:Ly):Bool:=
 if l.k=1 then decide (1≤l.w.rows∧l.w.rows≤12∧1≤l.w.cols∧l.b.rows=1∧l.b.cols=l.w.cols)
 else if l.k=2 then decide (l.w.rows=0∧l.w.cols=0∧l.b.rows=0∧l.b.cols=0)
 else if l.k=3 then decide (l.w.rows=1∧l.w.cols=1∧l.b.rows=0∧l.b.cols=0)
 else decide (l.w.rows=0∧l.w.cols=0∧l.b.rows=1∧1≤l.b.cols)
def l_ (l:Ly):Int:=if l.k<1∨4<l.k then 1 else if q_ l.w≠0 then q_ l.w else if q_ l.b≠0 then q_ l.b else if fitsL l=false then 2 else 0
def A_ (m:Mx) (q:Nat):Int:=(m.cells[q]?).getD 0
theorem lgood_of{l:Ly}(h:l_ l=0):1≤l.k∧l.k≤4∧q_ l.w=0∧q_ l.b=0∧fitsL l=true:=by
 unfold l_ at h
 by_cases h1:l.k<1∨4<l.k
 ·rw[if_pos h1]at h;cases h
 ·rw[if_neg h1]at h
  by_cases h2:q_ l.w≠0
  ·rw[if_pos h2]at h;exact absurd h h2
  ·rw[if_neg h2]at h
   by_cases h3:q_ l.b≠0
   ·rw[if_pos h3]at h;exact absurd h h3
   ·rw[if_neg h3]at h
    by_cases h4:fitsL l=false
    ·rw[if_pos h4]at h;cases h
    ·exact ⟨by omega,by omega,Decidable.not_not.1 h2,Decidable.not_not.1 h3,by simpa using h4⟩
end Go.Proofs.YtaajlggpjholeajDoor
