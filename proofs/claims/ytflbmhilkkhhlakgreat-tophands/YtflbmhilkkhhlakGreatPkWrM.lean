/- Lists of bytes in memory: read, and grown by append. -/
import Derived.Test.YtflbmhilkkhhlakGreatPkLvOf
import Derived.Test.YtflbmhilkkhhlakGreatPkFix
import Derived.Laws.AppendOwn
import Derived.Laws.AppendOwnNone
import Derived.BigQuiet
import Derived.Deep.RegionHeld3
import Derived.ArgAppend
import Derived.Deep.MidRow
import Derived.Deep.Upon
namespace Go.Proofs.YtflbmhilkkhhlakGreat
open Go.RowKit
theorem bel_on{w u v:World}(h:Below w.heap.size w u)(k:Below u.heap.size u v):Below w.heap.size w v:=h.trans (k.mono h.size)
def IsBys (w:World) (v:Value) (l:List Int):Prop:=
 ∃(a:Option Addr) (cap:Nat),v=.slice a l.length cap∧l.length≤cap∧cap≤maxLen∧(∀x∈l,0≤x∧x<256)∧(l=[]∨∃b off,a=some ⟨b,off,none⟩∧∀i x,l[i]?=some x→w.cell? ⟨b,off+i,none⟩=some (.int .u8 x))
theorem IsBys.u_{w w':World}{v:Value}{l:List Int}(h:IsBys w v l)(hb:Below w.heap.size w w'):IsBys w' v l:=by
 obtain ⟨a,cap,h1,h2,h3,h5,h4⟩:=h
 refine ⟨a,cap,h1,h2,h3,h5,h4.imp id ?_⟩
 rintro ⟨b,off,ha,hc⟩
 exact ⟨b,off,ha,fun i x hx=>(hb.cell (World.block_lt_of_cell? w _ (hc i x hx))).trans (hc i x hx)⟩
theorem IsBys.len{w:World}{v:Value}{l:List Int}(h:IsBys w v l):l.length≤maxLen:=by obtain ⟨_,_,_,h2,h3,_⟩:=h;omega
theorem IsBys.shape{w:World}{v:Value}{l:List Int}(h:IsBys w v l):∃a k,v=.slice a l.length k:=by obtain ⟨a,cap,h1,_⟩:=h;exact ⟨a,cap,h1⟩
theorem IsBys.nil(w:World):IsBys w (.slice none 0 0) []:=⟨none,0,rfl,Nat.le_refl _,Nat.zero_le _,fun x h=>by simp at h,.inl rfl⟩
theorem infoByte:(Tryz.prog.info? 5).map (fun i=>(i.zero,i.size,i.bytes))=some (some (.int .u8 0),1,1):=by kernel_rfl
def OwnY (w:World) (base:Nat) (v:Value) (l:List Int):Prop:=w.ownsRow base 5 1 v l.length (l.map (Value.int .u8))∧∀x∈l,0≤x∧x<256
theorem OwnY.nil(w:World)(base:Nat):OwnY w base (.slice none 0 0) []:=⟨World.ownsRow_nil _ _ _ _,fun x h=>by simp at h⟩
theorem OwnY.u_{w w':World}{base:Nat}{v:Value}{l:List Int}(h:OwnY w base v l)(hb:Below w.heap.size w w'):OwnY w' base v l:=by
 refine ⟨World.ownsRow.kept (row:=none) h.1 ⟨hb.os,hb.tape,hb.output,hb.size,fun k hk _=>hb.block k hk⟩ ?_,h.2⟩
 cases e:v.ownBlock with
 |none=>exact .inl rfl
 |some k=>exact .inr (by simp)
theorem OwnY.isBys{w:World}{base:Nat}{v:Value}{l:List Int}(h:OwnY w base v l):IsBys w v l:=by
 have hc:=fun g e=>World.ownsRow.cells h.1 (g:=g) e
 obtain ⟨⟨h1,h2⟩,h5⟩:=h
 rcases h2 with ⟨rfl,e⟩|⟨g,cap,cur,rfl,_,_,h3,h4,_,_⟩
 ·obtain rfl:l=[]:=List.eq_nil_of_length_eq_zero e
  exact IsBys.nil w
 ·refine ⟨some ⟨g,0,none⟩,cap,rfl,h3,h4,h5,.inr ⟨g,0,rfl,fun i x hx=>?_⟩⟩
  have:=hc g rfl i (.int .u8 x) (by simp[hx])
  rw[Addr.add_lit]at this
  exact this
theorem OwnY.lit(w:World)(l:List Int)(hl:l.length≤1000)(hb:∀x∈l,0≤x∧x<256):OwnY (w.alloc (.cells (l.map (Value.int .u8)).toArray 5)) w.heap.size (.slice (some ⟨w.heap.size,0,none⟩) l.length l.length) l:=
 ⟨⟨by simp,.inr ⟨w.heap.size,l.length,(l.map (Value.int .u8)).toArray,rfl,Nat.le_refl _,heap_alloc_new w _,Nat.le_refl _,by unfold maxLen;omega,by simp,by rw[List.take_of_length_le (by simp)]⟩⟩,hb⟩
theorem OwnY.base{w:World}{base base':Nat}{v:Value}{l:List Int}(h:OwnY w base v l)(hb:base'≤base):OwnY w base' v l:=by
 refine ⟨⟨h.1.1,?_⟩,h.2⟩
 rcases h.1.2 with q|⟨g,cap,cur,q1,q2,q3⟩
 ·exact .inl q
 ·exact .inr ⟨g,cap,cur,q1,Nat.le_trans hb q2,q3⟩
theorem app_bys{w:World}{ops:Array Oper}{rest:List Oper}{o:Oper}{a:Act}{Q:Exit→Act→World→Prop}(hgd:o.guard=none)(s x:Operand)
  (ho:o.op=.call { callee:=.builtin .append,args:=#[s,x],argTypes:=#[52,52] }) (base:Nat) (v u:Value) (ys zs:List Int) (hs:a.eval s=v) (hown:OwnY w base v ys) (hx:a.eval x=u) (hu:IsBys w u zs) (hn:NilOk u)
  (hsm:ys.length+zs.length≤140737488355328) (hbase:base≤w.heap.size)
  (h:∀v' w',OwnY w' base v' (ys++zs)→(∀w0:World,Below w0.heap.size w0 w→w0.heap.size≤base→Below w0.heap.size w0 w')→wpList Tryz.prog ops Q rest (a.put o.dst v') w'):wpList Tryz.prog ops Q (o::rest) a w:=by
 obtain ⟨e0,ei,hz0,hz1,hz2⟩:=info_parts infoByte
 obtain ⟨ad,cap,rfl,h2,h3,h5,h4⟩:=hu
 have hbb:∀x∈ys++zs,0≤x∧x<256:=fun x hx=>by
  rcases List.mem_append.1 hx with q|q
  ·exact hown.2 x q
  ·exact h5 x q
 cases ad with
 |none=>
  obtain ⟨q1,q2⟩:=hn _ _ rfl
  obtain rfl:zs=[]:=List.eq_nil_of_length_eq_zero q1
  subst q2
  refine wpList_append_own_none hgd s x 52 ho base 5 e0 1 Tryz.underlying52 ei v _ _ hs hown.1 hx ?_
  refine h v w (by rw[List.append_nil];exact hown) (fun w0 hb _=>hb)
 |some ad=>
  refine wpList_append_own w hgd s x 52 ho base 5 e0 (.int .u8 0) 1 1 Tryz.underlying52 ei hz0 hz1 hz2 rfl (by decide) v _ _ hs hown.1 ad zs.length cap (zs.map (Value.int .u8)) hx (by simp) ?_ ?_ (by unfold maxLen;omega) (by omega) hbase ?_
  ·intro j u' hj
   rcases h4 with rfl|⟨b,off,e,hc⟩
   ·simp at hj
   ·obtain rfl:=Option.some.inj e
    rw[List.getElem?_map]at hj
    cases hz:zs[j]? with
    |none=>rw[hz]at hj;cases hj
    |some y=>
     rw[hz]at hj
     obtain rfl:u'=.int .u8 y:=(Option.some.inj hj).symm
     rw[Addr.add_lit]
     exact hc j y hz
  ·intro u' hu'
   obtain ⟨y,_,rfl⟩:=List.mem_map.1 hu'
   rfl
  ·intro v' w' ho' hg _
   refine h v' w' ⟨?_,hbb⟩ (fun w0 hb hle=>hb.grown hg hb.size (fun k hk=>Nat.le_trans hle (World.ownsRow.lt hown.1 k hk).1))
   rw[List.length_append,List.map_append]
   exact ho'
theorem grw_set(W:World)(b q:Nat)(v:Value):W.grownBy (W.setCell ⟨b,q,none⟩ v) (some b):=
 ⟨rfl,rfl,rfl,by simp[World.setCell],fun k _ hk=>Below.heap_setCell _ _ _ k (fun e=>hk (by rw[e]))⟩
def Blk5 (w:World) (B:Nat) (x0 x1 x2 x3 x4:Value):Prop:=w.heap[B]?=some (.cells #[x0,x1,x2,x3,x4] 82 (0,0))
theorem Blk5.lt{w:World}{B:Nat}{x0 x1 x2 x3 x4:Value}(h:Blk5 w B x0 x1 x2 x3 x4):B<w.heap.size:=(Array.getElem?_eq_some_iff.1 h).1
theorem Blk5.c{w:World}{B:Nat}{x0 x1 x2 x3 x4:Value}(h:Blk5 w B x0 x1 x2 x3 x4):w.cell? ⟨B,0,none⟩=some x0∧w.cell? ⟨B,1,none⟩=some x1∧w.cell? ⟨B,2,none⟩=some x2∧w.cell? ⟨B,3,none⟩=some x3∧w.cell? ⟨B,4,none⟩=some x4:=by
 refine ⟨?_,?_,?_,?_,?_⟩<;>(rw[Joins.cell_of_block h];rfl)
theorem Blk5.f{w:World}{B:Nat}{x0 x1 x2 x3 x4:Value}(h:Blk5 w B x0 x1 x2 x3 x4)(i:Nat):w.frozen? ⟨B,i,none⟩=false:=Joins.unfrozen_of_block h i
theorem Blk5.bel{w w':World}{N B:Nat}{x0 x1 x2 x3 x4:Value}(h:Blk5 w B x0 x1 x2 x3 x4)(hb:Below N w w')(hB:B<N):Blk5 w' B x0 x1 x2 x3 x4:=(hb.block B hB).trans h
theorem Blk5.new(w:World)(x0 x1 x2 x3 x4:Value):Blk5 (w.alloc (.cells #[x0,x1,x2,x3,x4] 82)) w.heap.size x0 x1 x2 x3 x4:=heap_alloc_new w _
theorem Blk5.set4{w:World}{B:Nat}{x0 x1 x2 x3 x4:Value}(h:Blk5 w B x0 x1 x2 x3 x4)(y:Value):Blk5 (w.setCell ⟨B,4,none⟩ y) B x0 x1 x2 x3 y:=by
 unfold Blk5
 rw[Joins.block_setCell h]
 rfl
theorem elemBy:Tryz.prog.underlying 52=some (.slice (Tryz.prog.elem 52)):=by kernel_rfl
theorem sizeBy(w:World):(Go.sizeOf (Tryz.prog.elem 52)).run Tryz.prog w=.ok 1 w:=by kernel_rfl
theorem by_h{w:World}{a:Option Addr}{n cap:Nat}{l:List Int}(h:IsBys w (.slice a n cap) l)(m:Nat)(hi:Int)(hhi:hi=(m:Int))(hm:m≤l.length):
  ∃a' n' c',(∀W,(Instr.slice 52 (.slice a n cap) none (some (.int .i64 hi)) none).run Tryz.prog W=.ok (.slice a' n' c') W)∧IsBys w (.slice a' n' c') (l.take m):=by
 obtain ⟨a0,cap0,e,h2,h3,h5,h4⟩:=h
 injection e with e1 e2 e3
 subst e1 e2 e3
 have q2:hi.toNat=m:=by omega
 have hll:(l.take m).length=m:=by rw[List.length_take];omega
 refine ⟨if cap=0 then a else a.map (·.add (0*1)),m,cap,fun W=>?_,?_⟩
 ·rw[run_slice_h (P:=Tryz.prog) (w:=W) 52 a l.length cap elemBy .i64 hi (by omega) (by omega),sizeBy,q2]
  rfl
 ·refine ⟨_,cap,by rw[hll],by omega,h3,fun x hx=>h5 x (List.mem_of_mem_take hx),?_⟩
  rcases Nat.eq_zero_or_pos m with hC|hC
  ·exact .inl (by apply List.eq_nil_of_length_eq_zero;omega)
  ·obtain ⟨b,off,rfl,hc⟩:=h4.resolve_left (fun e=>by rw[e]at hm;simp at hm;omega)
   refine .inr ⟨b,off,?_,fun j x hx=>?_⟩
   ·rw[if_neg (by omega)]
    show some (Addr.add _ _)=_
    rw[Addr.add_lit]
    rfl
   ·have hj:j<m:=by
     rcases Nat.lt_or_ge j m with h|h
     ·exact h
     ·rw[List.getElem?_eq_none (by omega)]at hx;cases hx
    rw[List.getElem?_take_of_lt hj]at hx
    exact hc _ _ hx
theorem OwnY.nilOk{w:World}{base:Nat}{v:Value}{l:List Int}(h:OwnY w base v l):NilOk v:=by
 obtain ⟨⟨_,h2⟩,_⟩:=h
 rcases h2 with ⟨rfl,_⟩|⟨g,cap,cur,rfl,_⟩
 ·intro n k e
  injection e with e1 e2 e3
  exact ⟨e2.symm,e3.symm⟩
 ·intro n k e
  injection e with e1
  cases e1
def OwnZ (w:World) (base:Nat) (v:Value) (zs:List Int):Prop:=w.ownsRow base 3 1 v zs.length (zs.map (Value.int .i64))
theorem OwnZ.made(w:World)(n:Nat)(hn:n≤1000):OwnZ (w.alloc (.cells (zeros n) 3)) w.heap.size (.slice (some ⟨w.heap.size,0,none⟩) 0 n) []:=World.ownsRow_made _ _ _ (Nat.le_refl _) (by unfold maxLen;omega) (zeros_size n)
theorem OwnZ.nil(w:World)(base:Nat):OwnZ w base (.slice none 0 0) []:=World.ownsRow_nil _ _ _ _
theorem OwnZ.alloc{w:World}{base:Nat}{v:Value}{zs:List Int}(h:OwnZ w base v zs)(o:Obj):OwnZ (w.alloc o) base v zs:=World.ownsRow.alloc h o
theorem OwnZ.u_{w w':World}{base:Nat}{v:Value}{zs:List Int}(h:OwnZ w base v zs)(hb:Below w.heap.size w w'):OwnZ w' base v zs:=by
 refine World.ownsRow.kept (row:=none) h ⟨hb.os,hb.tape,hb.output,hb.size,fun k hk _=>hb.block k hk⟩ ?_
 cases e:v.ownBlock with
 |none=>exact .inl rfl
 |some k=>exact .inr (by simp)
theorem OwnZ.isInts{w:World}{base:Nat}{v:Value}{zs:List Int}(h:OwnZ w base v zs):I_ w v zs:=by
 have hc:=fun g e=>World.ownsRow.cells h (g:=g) e
 obtain ⟨h1,h2⟩:=h
 rcases h2 with ⟨rfl,e⟩|⟨g,cap,cur,rfl,_,_,h3,h4,_,_⟩
 ·obtain rfl:zs=[]:=List.eq_nil_of_length_eq_zero e
  exact I_.nil w
 ·refine ⟨some ⟨g,0,none⟩,cap,rfl,h3,h4,.inr ⟨g,0,rfl,fun i x hx=>?_⟩⟩
  have:=hc g rfl i (.int .i64 x) (by simp[hx])
  rw[Addr.add_lit]at this;exact this
theorem OwnZ.shape{w:World}{base:Nat}{v:Value}{zs:List Int}(h:OwnZ w base v zs):∃a k,v=.slice a zs.length k:=by
 obtain ⟨a,cap,h1,_⟩:=h.isInts;exact ⟨a,cap,h1⟩
theorem OwnZ.step{w:World}{base:Nat}{v:Value}{zs:List Int}{x:Int}(h:w.ownsRow base 3 1 v (zs.length+1) (zs.map (Value.int .i64)++[Value.int .i64 x])):OwnZ w base v (zs++[x]):=by
 unfold OwnZ
 rw[List.length_append,List.map_append]
 exact h
theorem one_cells(w:World)(x:Int):∀(k:Nat) (u':Value),[Value.int .i64 x][k]?=some u'→(w.alloc (.cells #[.int .i64 x] 3)).cell? ((⟨w.heap.size,0,none⟩:Addr).add k)=some u':=by
 intro k u' hk
 match k,hk with
 |0,hk=>simp at hk;subst hk;simp[Addr.add]
theorem one_one(x:Int):∀(u':Value),u'∈[Value.int .i64 x]→u'.oneCell'=true:=by intro u' hu';simp at hu';subst hu';rfl
def IsMsg (w:World) (v:Value) (k mi:Int) (b:Mx):Prop:=∃s,v=.agg #[.int .i64 k,.int .i64 mi,.int .i64 b.rows,.int .i64 b.cols,s]∧I_ w s b.cells
theorem IsMsg.u_{w w':World}{v:Value}{k mi:Int}{b:Mx}(h:IsMsg w v k mi b)(hb:Below w.heap.size w w'):IsMsg w' v k mi b:=by
 obtain ⟨s,h1,h2⟩:=h;exact ⟨s,h1,h2.u_ hb⟩
theorem IsMsg.shape{w:World}{v:Value}{k mi:Int}{b:Mx}(h:IsMsg w v k mi b):∃a n c,v=.agg #[.int .i64 k,.int .i64 mi,.int .i64 b.rows,.int .i64 b.cols,.slice a n c]:=by
 obtain ⟨s,h1,h2⟩:=h
 obtain ⟨a,c,h3,_⟩:=h2
 exact ⟨a,_,c,by rw[h1,h3]⟩
theorem msgF_one{k mi:Int}{b:Mx}(h:k<1∨2<k∨mi<0∨11<mi):1=msgF k mi b:=by unfold msgF;rw[if_pos h]
theorem msgF_mat{k mi:Int}{b:Mx}(h:¬(k<1∨2<k∨mi<0∨11<mi)):q_ b=msgF k mi b:=by unfold msgF;rw[if_neg h]
theorem zig_cast(x:Int):(zig x:Int)=if 0≤x then 2*x else -2*x - 1:=by
 unfold zig
 split<;>omega
theorem wr_take{l:List Nat}{i n:Nat}(h:l[i]?=some n):wrNs (l.take (i+1))=wrNs (l.take i)++sev n:=by
 rw[List.take_add_one,h,wr_app]
 simp[wrNs]
theorem wr_len(l:List Nat):(wrNs l).length≤9*l.length:=by
 induction l with
 |nil=>simp[wrNs]
 |cons n t ih=>
  have e:wrNs (n::t)=sev n++wrNs t:=by simp[wrNs]
  have:=sevF_len 9 n
  rw[e,List.length_append,List.length_cons]
  unfold sev
  omega
def wrI (l:List Nat) (i:Nat):List Int:=wrNs (l.take i)
structure Kept (X:Nat→Prop) (w w':World):Prop where
 os:w'.os=w.os
 tape:w'.tape=w.tape
 output:w'.output=w.output
 size:w.heap.size≤w'.heap.size
 block:∀k,k<w.heap.size→¬X k→w'.heap[k]?=w.heap[k]?
theorem Kept.refl(X:Nat→Prop)(w:World):Kept X w w:=⟨rfl,rfl,rfl,Nat.le_refl _,fun _ _ _=>rfl⟩
theorem Kept.trans{X Y:Nat→Prop}{w u v:World}(h:Kept X w u)(k:Kept Y u v)(hy:∀b,b<w.heap.size→Y b→X b):Kept X w v:=
 ⟨k.os.trans h.os,k.tape.trans h.tape,k.output.trans h.output,Nat.le_trans h.size k.size,fun b hb hx=>(k.block b (Nat.lt_of_lt_of_le hb h.size) (fun e=>hx (hy b hb e))).trans (h.block b hb hx)⟩
theorem Kept.of{X:Nat→Prop}{w w':World}(h:Below w.heap.size w w'):Kept X w w':=⟨h.os,h.tape,h.output,h.size,fun k hk _=>h.block k hk⟩
theorem Kept.mono{X Y:Nat→Prop}{w w':World}(h:Kept X w w')(hxy:∀b,b<w.heap.size→X b→Y b):Kept Y w w':=⟨h.os,h.tape,h.output,h.size,fun k hk hy=>h.block k hk (fun e=>hy (hxy k hk e))⟩
theorem Kept.set{X:Nat→Prop}(w:World){B:Nat}(hB:X B)(q:Nat)(v:Value):Kept X w (w.setCell ⟨B,q,none⟩ v):=
 ⟨rfl,rfl,rfl,by simp[World.setCell],fun k _ hk=>Below.heap_setCell _ _ _ k (fun e=>hk (by rw[e];exact hB))⟩
theorem Kept.cell{X:Nat→Prop}{w w':World}(h:Kept X w w'){p:Addr}{v:Value}(hp:¬X p.block)(hc:w.cell? p=some v):w'.cell? p=some v:=
 (World.cell?_of_block (h.block _ (World.block_lt_of_cell? w _ hc) hp)).trans hc
theorem Kept.u_{X:Nat→Prop}{N:Nat}{w0 w w':World}(hb:Below N w0 w)(h:Kept X w w')(hN:N≤w.heap.size)(hx:∀k,X k→N≤k):Below N w0 w':=
 ⟨h.os.trans hb.os,h.tape.trans hb.tape,h.output.trans hb.output,Nat.le_trans hb.size h.size,fun k hk=>(h.block k (Nat.lt_of_lt_of_le hk hN) (fun e=>absurd (hx k e) (by omega))).trans (hb.block k hk)⟩
theorem Kept.ints{X:Nat→Prop}{w w':World}(h:Kept X w w'){s:Value}{zs:List Int}(hs:I_ w s zs)(hx:zs=[]∨∀a n c,s=.slice (some a) n c→¬X a.block):I_ w' s zs:=by
 obtain ⟨a,cap,h1,h2,h3,h4⟩:=hs
 refine ⟨a,cap,h1,h2,h3,?_⟩
 rcases hx with hx|hx
 ·exact .inl hx
 ·rcases h4 with h4|⟨b,off,ha,hc⟩
  ·exact .inl h4
  ·refine .inr ⟨b,off,ha,fun i x hi=>h.cell ?_ (hc i x hi)⟩
   exact hx ⟨b,off,none⟩ _ _ (by rw[h1,ha])
theorem infoMsg:(Tryz.prog.info? 82).map (fun i=>(i.zero,i.size,i.bytes))=some (some (.agg #[.int .i64 0,.int .i64 0,.int .i64 0,.int .i64 0,.slice none 0 0]),5,56):=by kernel_rfl
end Go.Proofs.YtflbmhilkkhhlakGreat
