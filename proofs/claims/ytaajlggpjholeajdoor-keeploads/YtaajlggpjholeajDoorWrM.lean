/- Lists of bytes in memory: read, and grown by append. -/
import Derived.Test.YtaajlggpjholeajDoorWrP
import Derived.Test.YtaajlggpjholeajDoorPkMCheckAll
import Derived.Laws.AppendOwnNone
namespace Go.Proofs.YtaajlggpjholeajDoor
open Go.RowKit
theorem bel_on{w u v:World}(h:Below w.heap.size w u)(k:Below u.heap.size u v):Below w.heap.size w v:=h.trans (k.mono h.size)
def IsBys (w:World) (v:Value) (l:List Int):Prop:=
 ∃(a:Option Addr) (cap:Nat),v=.slice a l.length cap∧l.length≤cap∧cap≤maxLen∧(∀x∈l,0≤x∧x<256)∧(l=[]∨∃b off,a=some ⟨b,off,none⟩∧∀i x,l[i]?=some x→w.cell? ⟨b,off+i,none⟩=some (.int .u8 x))
theorem IsBys.u_{w w':World}{v:Value}{l:List Int}(h:IsBys w v l)(hb:Below w.heap.size w w'):IsBys w' v l:=by
 obtain ⟨a,cap,h1,h2,h3,h5,h4⟩:=h
 refine ⟨a,cap,h1,h2,h3,h5,h4.imp id ?_⟩
 rintro ⟨b,off,ha,hc⟩
 exact ⟨b,off,ha,fun i x hx=>(hb.cell (World.block_lt_of_cell? w _ (hc i x hx))).trans (hc i x hx)⟩
theorem IsBys.len{w:World}{v:Value}{l:List Int}(h:IsBys w v l):l.length≤maxLen:=by obtain ⟨_,_,_,h2,h3,_⟩:=h;omega
theorem IsBys.shape{w:World}{v:Value}{l:List Int}(h:IsBys w v l):∃a k,v=.slice a l.length k:=by obtain ⟨a,cap,h1,_⟩:=h;exact ⟨a,cap,h1⟩
theorem IsBys.nil(w:World):IsBys w (.slice none 0 0) []:=⟨none,0,rfl,Nat.le_refl _,Nat.zero_le _,fun x h=>by simp at h,.inl rfl⟩
def OwnY (w:World) (base:Nat) (v:Value) (l:List Int):Prop:=w.ownsRow base 5 1 v l.length (l.map (Value.int .u8))∧∀x∈l,0≤x∧x<256
theorem OwnY.isBys{w:World}{base:Nat}{v:Value}{l:List Int}(h:OwnY w base v l):IsBys w v l:=by
 have hc:=fun g e=>World.ownsRow.cells h.1 (g:=g) e
 obtain ⟨⟨h1,h2⟩,h5⟩:=h
 rcases h2 with ⟨rfl,e⟩|⟨g,cap,cur,rfl,_,_,h3,h4,_,_⟩
 ·obtain rfl:l=[]:=List.eq_nil_of_length_eq_zero e
  exact IsBys.nil w
 ·refine ⟨some ⟨g,0,none⟩,cap,rfl,h3,h4,h5,.inr ⟨g,0,rfl,fun i x hx=>?_⟩⟩
  have:=hc g rfl i (.int .u8 x) (by simp[hx])
  rw[Addr.add_lit]at this
  exact this
theorem OwnY.lit(w:World)(l:List Int)(hl:l.length≤1000)(hb:∀x∈l,0≤x∧x<256):OwnY (w.alloc (.cells (l.map (Value.int .u8)).toArray 5)) w.heap.size (.slice (some ⟨w.heap.size,0,none⟩) l.length l.length) l:=
 ⟨⟨by simp,.inr ⟨w.heap.size,l.length,(l.map (Value.int .u8)).toArray,rfl,Nat.le_refl _,heap_alloc_new w _,Nat.le_refl _,by unfold maxLen;omega,by simp,by rw[List.take_of_length_le (by simp)]⟩⟩,hb⟩
theorem grw_set(W:World)(b q:Nat)(v:Value):W.grownBy (W.setCell ⟨b,q,none⟩ v) (some b):=
 ⟨rfl,rfl,rfl,by simp[World.setCell],fun k _ hk=>Below.heap_setCell _ _ _ k (fun e=>hk (by rw[e]))⟩
theorem elemBy:Tryd.prog.underlying 28=some (.slice (Tryd.prog.elem 28)):=by kernel_rfl
theorem sizeBy(w:World):(Go.sizeOf (Tryd.prog.elem 28)).run Tryd.prog w=.ok 1 w:=by kernel_rfl
theorem by_h{w:World}{a:Option Addr}{n cap:Nat}{l:List Int}(h:IsBys w (.slice a n cap) l)(m:Nat)(hi:Int)(hhi:hi=(m:Int))(hm:m≤l.length):
  ∃a' n' c',(∀W,(Instr.slice 28 (.slice a n cap) none (some (.int .i64 hi)) none).run Tryd.prog W=.ok (.slice a' n' c') W)∧IsBys w (.slice a' n' c') (l.take m):=by
 obtain ⟨a0,cap0,e,h2,h3,h5,h4⟩:=h
 injection e with e1 e2 e3
 subst e1 e2 e3
 have q2:hi.toNat=m:=by omega
 have hll:(l.take m).length=m:=by rw[List.length_take];omega
 refine ⟨if cap=0 then a else a.map (·.add (0*1)),m,cap,fun W=>?_,?_⟩
 ·rw[run_slice_h (P:=Tryd.prog) (w:=W) 28 a l.length cap elemBy .i64 hi (by omega) (by omega),sizeBy,q2]
  rfl
 ·refine ⟨_,cap,by rw[hll],by omega,h3,fun x hx=>h5 x (List.mem_of_mem_take hx),?_⟩
  rcases Nat.eq_zero_or_pos m with hC|hC
  ·exact .inl (by apply List.eq_nil_of_length_eq_zero;omega)
  ·obtain ⟨b,off,rfl,hc⟩:=h4.resolve_left (fun e=>by rw[e]at hm;simp at hm;omega)
   refine .inr ⟨b,off,?_,fun j x hx=>?_⟩
   ·rw[if_neg (by omega)]
    show some (Addr.add _ _)=_
    rw[Addr.add_lit]
    rfl
   ·have hj:j<m:=by
     rcases Nat.lt_or_ge j m with h|h
     ·exact h
     ·rw[List.getElem?_eq_none (by omega)]at hx;cases hx
    rw[List.getElem?_take_of_lt hj]at hx
    exact hc _ _ hx
end Go.Proofs.YtaajlggpjholeajDoor
