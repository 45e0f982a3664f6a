/- Small facts for regions whose order is drawn and that hold a call, a box that is made, and a store into it. No program in sight. -/
import Derived.Test.YtniloklglpchfaeGreatDoorLists
import Derived.Test.YtniloklglpchfaeGreatDoorLBack
import Derived.Deep.CutRange
import Derived.Deep.RegionHeld3
namespace Go.Proofs.YtniloklglpchfaeGreatDoor
open Go.RowKit
def Cells3 (u:World) (B:Nat) (x y z:Value):Prop:=u.cell? ⟨B,0,none⟩=some x/\u.cell? ⟨B,1,none⟩=some y/\u.cell? ⟨B,2,none⟩=some z
theorem c__{u:World}{B:Nat}{x y z:Value}(h:Box u B [x,y,z]):Cells3 u B x y z:=⟨h 0 _ rfl,h 1 _ rfl,h 2 _ rfl⟩
theorem set_three{w:World}{B:Nat}{a0 a1 a2:Value}(h:Box w B [a0,a1,a2])(x y z:Value):Box (((w.setCell ⟨B,0,none⟩ x).setCell ⟨B,1,none⟩ y).setCell ⟨B,2,none⟩ z) B [x,y,z]:=by
 have o:∀(u:World) (i j:Nat) (v:Value),i≠j->(u.setCell ⟨B,i,none⟩ v).cell? ⟨B,j,none⟩=u.cell? ⟨B,j,none⟩:=fun u i j v hij=>cell_at_other u B i j v hij
 intro j v hv
 match j,hv with
 |0,hv=>simp at hv;subst hv;rw[o _ 2 0 _ (by decide),o _ 1 0 _ (by decide)];exact World.cell?_setCell_same _ _ _ (h 0 _ rfl)
 |1,hv=>simp at hv;subst hv;rw[o _ 2 1 _ (by decide)];exact World.cell?_setCell_same _ _ _ ((o _ 0 1 _ (by decide)).trans (h 1 _ rfl))
 |2,hv=>simp at hv;subst hv;exact World.cell?_setCell_same _ _ _ ((o _ 1 2 _ (by decide)).trans ((o _ 0 2 _ (by decide)).trans (h 2 _ rfl)))
theorem szd1(w:World)(a:Obj):w.heap.size+1<=(w.alloc a).drew.heap.size:=by show _<=(w.alloc a).heap.size;rw[World.size_alloc];exact Nat.le_refl _
theorem szd2(w:World)(a b:Obj):w.heap.size+2<=((w.alloc a).alloc b).drew.heap.size:=by show _<=((w.alloc a).alloc b).heap.size;rw[World.size_alloc,World.size_alloc];exact Nat.le_refl _
theorem abv_drew{n:Nat}{w u:World}(h:Above n w u):Above n w u.drew:=h
theorem abv_alloc{n:Nat}{w u:World}{o:Obj}(h:Above n w u):Above n w (u.alloc o):=fun p x hp hx=>p_ (h p x hp hx) o
theorem v_{n B q:Nat}{w u:World}{x:Value}(h:Above n w u)(hB:B<n):Above n w (u.setCell ⟨B,q,none⟩ x):=h.set hB q x
theorem t_{V u:World}{B q:Nat}{x:Value}(h:Below V.heap.size V u)(hB:V.heap.size<=B):Below V.heap.size V (u.setCell ⟨B,q,none⟩ x):=h.setCell hB _
theorem a_{V u:World}{o:Obj}(h:Below V.heap.size V u):Below V.heap.size V (u.alloc o):=b_ h (o_ _ _)
theorem d_{V u:World}(h:Below V.heap.size V u):Below V.heap.size V u.drew:=r_ h
def Cells6 (u:World) (B:Nat) (x y z x' y' z':Value):Prop:=u.cell? ⟨B,0,none⟩=some x/\u.cell? ⟨B,1,none⟩=some y/\u.cell? ⟨B,2,none⟩=some z/\u.cell? ⟨B,3,none⟩=some x'/\u.cell? ⟨B,4,none⟩=some y'/\u.cell? ⟨B,5,none⟩=some z'
theorem cells6_of{u:World}{B:Nat}{x y z x' y' z':Value}(h:Box u B [x,y,z,x',y',z']):Cells6 u B x y z x' y' z':=⟨h 0 _ rfl,h 1 _ rfl,h 2 _ rfl,h 3 _ rfl,h 4 _ rfl,h 5 _ rfl⟩
theorem Box.put{w:World}{B:Nat}{cs:List Value}(h:Box w B cs)(q:Nat)(x:Value):Box (w.setCell ⟨B,q,none⟩ x) B (cs.set q x):=by
 intro j v hv
 rw[List.getElem?_set]at hv
 by_cases hj:q=j
 ·subst hj
  rw[if_pos rfl]at hv
  split at hv
  ·rename_i hlt
   obtain rfl:=Option.some.inj hv
   exact World.cell?_setCell_same _ _ _ (h q _ (List.getElem?_eq_getElem hlt))
  ·cases hv
 ·rw[if_neg hj]at hv
  rw[cell_at_other w B q j x hj]
  exact h j v hv
theorem set_six{w:World}{B:Nat}{a0 a1 a2 a3 a4 a5:Value}(h:Box w B [a0,a1,a2,a3,a4,a5])(y0 y1 y2 y3 y4 y5:Value):Box ((((((w.setCell ⟨B,0,none⟩ y0).setCell ⟨B,1,none⟩ y1).setCell ⟨B,2,none⟩ y2).setCell ⟨B,3,none⟩ y3).setCell ⟨B,4,none⟩ y4).setCell ⟨B,5,none⟩ y5) B [y0,y1,y2,y3,y4,y5]:=(((((h.put 0 y0).put 1 y1).put 2 y2).put 3 y3).put 4 y4).put 5 y5
theorem box_set3{w:World}{B B':Nat}{cs:List Value}(h:Box w B cs)(hne:B≠B')(y0 y1 y2:Value):Box (((w.setCell ⟨B',0,none⟩ y0).setCell ⟨B',1,none⟩ y1).setCell ⟨B',2,none⟩ y2) B cs:=((h.other hne y0).other hne y1).other hne y2
theorem box_set6{w:World}{B B':Nat}{cs:List Value}(h:Box w B cs)(hne:B≠B')(y0 y1 y2 y3 y4 y5:Value):Box ((((((w.setCell ⟨B',0,none⟩ y0).setCell ⟨B',1,none⟩ y1).setCell ⟨B',2,none⟩ y2).setCell ⟨B',3,none⟩ y3).setCell ⟨B',4,none⟩ y4).setCell ⟨B',5,none⟩ y5) B cs:=(((((h.other hne y0).other hne y1).other hne y2).other hne y3).other hne y4).other hne y5
theorem size_set3(w:World)(B:Nat)(y0 y1 y2:Value):(((w.setCell ⟨B,0,none⟩ y0).setCell ⟨B,1,none⟩ y1).setCell ⟨B,2,none⟩ y2).heap.size=w.heap.size:=by simp
theorem size_set6(w:World)(B:Nat)(y0 y1 y2 y3 y4 y5:Value):((((((w.setCell ⟨B,0,none⟩ y0).setCell ⟨B,1,none⟩ y1).setCell ⟨B,2,none⟩ y2).setCell ⟨B,3,none⟩ y3).setCell ⟨B,4,none⟩ y4).setCell ⟨B,5,none⟩ y5).heap.size=w.heap.size:=by simp
theorem I_.aboveF{n:Nat}{w u:World}{r c s:Value}{zs:List Int}(h:I_ w s zs)(hf:F_ n (.agg #[r,c,s]))(ha:Above n w u):I_ u s zs:=h.above hf ha
def bkE:List Ly->List Mx->Mx->Int
 |l::ls,x::xs,g=>if backE l x g≠0 then backE l x g else bkE ls xs (backX l x g)
 |_,_,_=>0
def bkX:List Ly->List Mx->Mx->Mx
 |l::ls,x::xs,g=>bkX ls xs (backX l x g)
 |_,_,g=>g
def bkD:List Ly->List Mx->Mx->List (Mx×Mx)
 |l::ls,x::xs,g=>bkD ls xs (backX l x g)++[(gradW l x g,gradB l x g)]
 |_,_,_=>[]
def nbE (ls:List Ly) (ms:List Mx) (g:Mx):Int:=if 12<ls.length then 3 else if ms.length≠ls.length+1 then 2 else if ls=[] then q_ g else bkE ls.reverse (ms.take ls.length).reverse g
def nbX (ls:List Ly) (ms:List Mx) (g:Mx):Mx:=if nbE ls ms g=0 then bkX ls.reverse (ms.take ls.length).reverse g else noMx
def nbD (ls:List Ly) (ms:List Mx) (g:Mx):List (Mx×Mx):=if nbE ls ms g=0 then bkD ls.reverse (ms.take ls.length).reverse g else []
theorem take_end{α:Type}{xs:List α}{k:Nat}{x:α}(h:xs[k]?=some x):xs.take (k+1)=xs.take k++[x]:=by
 obtain ⟨hk,rfl⟩:=List.getElem?_eq_some_iff.1 h
 rw[List.take_succ_eq_append_getElem hk]
theorem bkD_len:∀(ls:List Ly) (xs:List Mx) (g:Mx),(bkD ls xs g).length<=ls.length
 |[],_,_=>by simp[bkD]
 |_::_,[],_=>by simp[bkD]
 |l::ls,x::xs,g=>by
  have:=bkD_len ls xs (backX l x g)
  simp only[bkD,List.length_append,List.length_cons,List.length_nil]
  omega
section
variable {ls:List Ly} {ms:List Mx} {g:Mx} {k:Nat} {l:Ly} {x:Mx}
theorem nb_rev(hl:ls.length=k+1)(h0:ls[k]?=some l)(h1:ms[k]?=some x):ls.reverse=l::(ls.take k).reverse/\(ms.take ls.length).reverse=x::(ms.take k).reverse:=by
 refine ⟨?_,?_⟩
 ·have:ls=ls.take k++[l]:=by rw[<-take_end h0,<-hl,List.take_length]
  exact (congrArg List.reverse this).trans (by simp)
 ·rw[hl,take_end h1];simp
theorem nbE_step(hl:ls.length=k+1)(h12:¬12<ls.length)(hm:ms.length=ls.length+1)(h0:ls[k]?=some l)(h1:ms[k]?=some x):
  nbE ls ms g=if backE l x g≠0 then backE l x g else bkE (ls.take k).reverse (ms.take k).reverse (backX l x g):=by
 obtain ⟨e1,e2⟩:=nb_rev hl h0 h1
 unfold nbE
 rw[if_neg h12,if_neg (by simp[hm]),if_neg (by intro e;rw[e]at hl;simp at hl),e1,e2]
 rfl
theorem nbX_step(hl:ls.length=k+1)(h0:ls[k]?=some l)(h1:ms[k]?=some x)(hE:nbE ls ms g=0):nbX ls ms g=bkX (ls.take k).reverse (ms.take k).reverse (backX l x g):=by
 obtain ⟨e1,e2⟩:=nb_rev hl h0 h1
 unfold nbX
 rw[if_pos hE,e1,e2];rfl
theorem nbD_step(hl:ls.length=k+1)(h0:ls[k]?=some l)(h1:ms[k]?=some x)(hE:nbE ls ms g=0):nbD ls ms g=bkD (ls.take k).reverse (ms.take k).reverse (backX l x g)++[(gradW l x g,gradB l x g)]:=by
 obtain ⟨e1,e2⟩:=nb_rev hl h0 h1
 unfold nbD
 rw[if_pos hE,e1,e2];rfl
theorem nb_sub(hl:ls.length=k+1)(hk:0<k)(h12:¬12<ls.length)(hm:ms.length=ls.length+1)(t:Mx):
  nbE (ls.take k) (ms.take (k+1)) t=bkE (ls.take k).reverse (ms.take k).reverse t/\(nbE (ls.take k) (ms.take (k+1)) t=0->nbX (ls.take k) (ms.take (k+1)) t=bkX (ls.take k).reverse (ms.take k).reverse t/\nbD (ls.take k) (ms.take (k+1)) t=bkD (ls.take k).reverse (ms.take k).reverse t):=by
 have e1:(ls.take k).length=k:=by rw[List.length_take];omega
 have e2:(ms.take (k+1)).length=k+1:=by rw[List.length_take];omega
 have e3:(ms.take (k+1)).take k=ms.take k:=by rw[List.take_take];congr 1;omega
 have hE:nbE (ls.take k) (ms.take (k+1)) t=bkE (ls.take k).reverse (ms.take k).reverse t:=by
  unfold nbE
  rw[e1,e2,e3,if_neg (by omega),if_neg (by omega),if_neg (by intro e;rw[e]at e1;simp at e1;omega)]
 refine ⟨hE,fun h=>⟨?_,?_⟩⟩
 ·unfold nbX;rw[if_pos h,e1,e3]
 ·unfold nbD;rw[if_pos h,e1,e3]
end
theorem nbX_no{ls:List Ly}{ms:List Mx}{g:Mx}(h:nbE ls ms g≠0):nbX ls ms g=noMx/\nbD ls ms g=[]:=by unfold nbX nbD;rw[if_neg h,if_neg h];exact ⟨rfl,rfl⟩
theorem Reads.take{w:World}{a:Option Addr}{n cap:Nat}{α:Type}{f:α->List (Int⊕List Int)}{xs:List α}(h:Reads w (.slice a n cap) n (xs.flatMap f))(k:Nat)(hk:k<=n):Reads w (.slice a k cap) k ((xs.take k).flatMap f):=by
 obtain ⟨a',cap',e,h2,h3,h4⟩:=h
 injection e with e1 _ e3
 subst e1 e3
 refine ⟨_,_,rfl,by omega,h3,?_⟩
 by_cases h0:k=0
 ·exact .inl h0
 ·obtain ⟨b,off,rfl,hc⟩:=h4.resolve_left (by omega)
  refine .inr ⟨b,off,rfl,fun j p hp=>hc j p ?_⟩
  have e:xs.flatMap f=(xs.take k).flatMap f++(xs.drop k).flatMap f:=by rw[<-List.flatMap_append,List.take_append_drop]
  have hj:j<((xs.take k).flatMap f).length:=by
   rcases Nat.lt_or_ge j ((xs.take k).flatMap f).length with h|h
   ·exact h
   ·rw[List.getElem?_eq_none h]at hp;cases hp
  rw[e,List.getElem?_append_left hj];exact hp
theorem Y_.take{w:World}{a:Option Addr}{cap:Nat}{ls:List Ly}{n:Nat}(hn:ls.length=n)(h:Y_ w (.slice a n cap) ls)(k:Nat)(hk:k<=n):Y_ w (.slice a k cap) (ls.take k):=by
 unfold Y_ at h ⊢
 rw[hn]at h
 rw[show (ls.take k).length=k by rw[List.length_take];omega]
 exact Reads.take h k hk
theorem IsMxs.take{w:World}{a:Option Addr}{cap:Nat}{ms:List Mx}{n:Nat}(hn:ms.length=n)(h:IsMxs w (.slice a n cap) ms)(k:Nat)(hk:k<=n):IsMxs w (.slice a k cap) (ms.take k):=by
 obtain ⟨a',cap',e,h2,h3,h4⟩:=h
 injection e with e1 _ e3
 subst e1 e3
 have e1:(ms.take k).length=k:=by rw[List.length_take];omega
 refine ⟨_,_,by rw[e1],by rw[e1];omega,h3,?_⟩
 rcases h4 with h4|⟨b,off,rfl,hc⟩
 ·exact .inl (by rw[h4];simp)
 ·refine .inr ⟨b,off,rfl,fun i m hm=>hc i m ?_⟩
  rw[List.getElem?_take]at hm
  split at hm
  ·exact hm
  ·cases hm
theorem part_mid{w w':World}{n:Nat}{r c s:Value}{zs:List Int}(h:I_ w s zs)(hb:Below w.heap.size w w')(hf:F_ n (.agg #[r,c,s])){G:Nat->Prop}(hG:∀b,G b->b<n\/w.heap.size<=b):P_ w' G (.inr zs) s:=by
 refine ⟨h.u_ hb,?_⟩
 by_cases h0:zs=[]
 ·exact .inl h0
 ·obtain ⟨b,hb',hlt⟩:=h.lt h0
  refine .inr fun k hk hg=>?_
  rw[hb']at hk
  obtain rfl:=Option.some.inj hk
  obtain ⟨a,cap,rfl,_,_,h4⟩:=h
  obtain ⟨b2,off,rfl,_⟩:=h4.resolve_left h0
  obtain rfl:b2=b:=by simpa [Value.ownBlock] using hb'
  rcases hf r c ⟨b2,off,none⟩ zs.length cap rfl with h1|h1
  ·exact absurd (List.eq_nil_of_length_eq_zero h1) h0
  ·have h2:n<=b2:=h1
   rcases hG b2 hg with h3|h3<;>omega
theorem Owns.weaken{lo base lo' base':Nat}{w:World}{e:TypeId}{size n:Nat}{v:Value}{sp:List (Int⊕List Int)}(h:Owns lo base w e size v n sp)(hb:base'<=base)(hl:lo<=lo'):Owns lo' base' w e size v n sp:=by
 obtain ⟨cs,h1,h2⟩:=h
 refine ⟨cs,⟨h1.1,?_⟩,h2.map (fun p u hp=>hp.mono (fun b _ hg=>hg.imp id (fun h=>⟨by omega,by omega⟩)))⟩
 rcases h1.2 with h|⟨g,cap,cur,e1,hbg,rest⟩
 ·exact .inl h
 ·exact .inr ⟨g,cap,cur,e1,by omega,rest⟩
def NBEnd (w:World) (some':Prop) (X:Mx) (D:List (Mx×Mx)) (E:Int) (e:Ending) (w':World):Prop:=∃sx vd,e=.returned (.tuple #[.agg #[.int .i64 X.rows,.int .i64 X.cols,sx],vd,.int .i64 E])/\
 P_ w' (fun b=>vd.ownBlock=some b\/(some'/\b<w.heap.size)) (.inr X.cells) sx/\Owns 0 w.heap.size w' 61 6 vd D.length (D.flatMap gdS)/\Below w.heap.size w w'
section
variable {P:Program} {w:World}
theorem wp_append_owns{o:Oper}{a:Act}{K:Act->World->Prop}{Q:Exit->Act->World->Prop}(s x:Operand)(t:TypeId)
  (ho:o.op=.call { callee:=.builtin .append,args:=#[s,x],argTypes:=#[t,t] })
  (base:Nat) (e:TypeId) (i:TypeInfo) (z:Value) (size bytes:Nat) (ht:P.underlying t=some (.slice e)) (hi:P.info? e=some i) (hz:i.zero=some z)
  (hsize:i.size=size) (hby:i.bytes=bytes) (hzs:z.cells.size=size) (hsz:0<size)
  (lo:Nat) (v:Value) (n:Nat) (sp:List (Int⊕List Int)) (hs:a.eval s=v) (hown:Owns lo base w e size v n sp)
  (ad:Addr) (m c:Nat) (news:List Value) (hx:a.eval x=.slice (some ad) m c) (hl:news.length=m*size) (hnews:∀j u,news[j]?=some u->w.cell? (ad.add j)=some u)
  (sn:List (Int⊕List Int)) (hen:Enc w (fun b=>v.ownBlock=some b\/(lo<=b/\b<base)) sn news)
  (h63:n+m<=maxLen) (hbytes:(n+m)*bytes<=140737488355328) (hbase:base<=w.heap.size)
  (h:∀v' w',Owns lo base w' e size v' (n+m) (sp++sn)->w.grownBy w' v.ownBlock->(v'.ownBlock=v.ownBlock\/v'.ownBlock=some w.heap.size)->K (a.put o.dst v') w'):o.wp P a w K Q:=by
 obtain ⟨cs,h1,h2⟩:=hown
 obtain ⟨v',w',hr,h3,h4,h5⟩:=append_where (P:=P) base t o.type e i z size bytes ht hi hz hsize hby hzs hsz v n cs h1 ad m c news hl hnews hen.one h63 hbytes hbase
 unfold Oper.wp execOp
 simp only[ho,resolve,invoke,builtin,Sem.run_bind,Sem.run_pure,Result.andThen_ok,List.map_toArray,List.map_cons,List.map_nil,hs,hx,hr]
 refine h v' w' ⟨_,h3,(h2.append hen).map (fun p u hp=>hp.grown h4 (fun b hb=>.inl hb) (fun b hlt hg=>?_))⟩ h4 h5
 rcases hg with hg|hg
 ·rcases h5 with h5|h5
  ·exact .inl (h5▸hg)
  ·rw[h5]at hg
   have:=Option.some.inj hg
   omega
 ·exact .inr hg
end
def Keep (p:Nat->Prop) (w u:World):Prop:=∀(a:Addr) x,p a.block->w.cell? a=some x->u.cell? a=some x
theorem Keep.refl(p:Nat->Prop)(w:World):Keep p w w:=fun _ _ _ h=>h
theorem keep_drew{p:Nat->Prop}{w u:World}(h:Keep p w u):Keep p w u.drew:=h
theorem keep_alloc{p:Nat->Prop}{w u:World}{o:Obj}(h:Keep p w u):Keep p w (u.alloc o):=fun a x ha hx=>p_ (h a x ha hx) o
theorem keep_set{p:Nat->Prop}{w u:World}{B q:Nat}{y:Value}(h:Keep p w u)(hB:¬p B):Keep p w (u.setCell ⟨B,q,none⟩ y):=fun a x ha hx=>cell_other (h a x ha hx) (fun (e:a.block=B)=>hB (e▸ha)) q y
theorem keep_grown{p:Nat->Prop}{w u u':World}{g:Option Nat}(h:Keep p w u)(hg:u.grownBy u' g)(hn:∀b,g=some b->¬p b):Keep p w u':=fun a x ha hx=>hg.cell (h a x ha hx) (fun e=>hn _ e.symm ha)
theorem nb_grow{w W w':World}{u v' sx:Value}{X:Mx}{D:List (Mx×Mx)}{d:Mx×Mx}(hb:Below w.heap.size w W)(hO:Owns 0 (w.heap.size+2) w' 61 6 v' (D.length+1) (D.flatMap gdS++gdS d))(hg:W.grownBy w' u.ownBlock)(hu:∀k,u.ownBlock=some k->w.heap.size+2<=k)
  (hwh:v'.ownBlock=u.ownBlock\/v'.ownBlock=some W.heap.size) (hp:P_ W (fun b=>u.ownBlock=some b\/b<w.heap.size+2) (.inr X.cells) sx) (hW:w.heap.size+2<=W.heap.size):
  P_ w' (fun b=>v'.ownBlock=some b\/b<w.heap.size+2) (.inr X.cells) sx/\Owns 0 (w.heap.size+2) w' 61 6 v' (D++[d]).length ((D++[d]).flatMap gdS)/\Below w.heap.size w w':=by
 refine ⟨hp.grown hg (fun b hb=>.inl hb) (fun b hlt h=>?_),?_,hb.grown hg (by omega) (fun k hk=>by have:=hu k hk;omega)⟩
 ·rcases h with h|h
  ·rcases hwh with hwh|hwh
   ·exact .inl (hwh▸h)
   ·rw[hwh]at h
    have:=Option.some.inj h
    omega
  ·exact .inr h
 ·rw[List.length_append,<-flat_snoc];exact hO
theorem nb_end{w w':World}{p:Prop}{v' sx:Value}{X:Mx}{D:List (Mx×Mx)}(h:P_ w' (fun b=>v'.ownBlock=some b\/b<w.heap.size+2) (.inr X.cells) sx/\Owns 0 (w.heap.size+2) w' 61 6 v' D.length (D.flatMap gdS)/\Below w.heap.size w w'):
  NBEnd w p X D 0 (.returned (.tuple #[.agg #[.int .i64 X.rows,.int .i64 X.cols,sx],v',.int .i64 0])) w':=
 ⟨_,_,rfl,h.1.mono (fun b _ hb=>hb.imp id (fun h=>by omega)),h.2.1.weaken (by omega) (Nat.le_refl _),h.2.2⟩
theorem nb_set{w w':World}{v' sx:Value}{X:Mx}{D:List (Mx×Mx)}(h:P_ w' (fun b=>v'.ownBlock=some b\/b<w.heap.size+2) (.inr X.cells) sx/\Owns 0 (w.heap.size+2) w' 61 6 v' D.length (D.flatMap gdS)/\Below w.heap.size w w')(q:Nat)(x:Value):
  P_ (w'.setCell ⟨w.heap.size+1,q,none⟩ x) (fun b=>v'.ownBlock=some b\/b<w.heap.size+2) (.inr X.cells) sx/\Owns 0 (w.heap.size+2) (w'.setCell ⟨w.heap.size+1,q,none⟩ x) 61 6 v' D.length (D.flatMap gdS)/\Below w.heap.size w (w'.setCell ⟨w.heap.size+1,q,none⟩ x):=
 ⟨h.1.set (.inr (by omega)) q x,h.2.1.set (Nat.zero_le _) (by omega) q x,h.2.2.setCell (by simp) _⟩
theorem nb_drew{w u:World}{p:Prop}{X:Mx}{D:List (Mx×Mx)}{E:Int}{e:Ending}(h:NBEnd w p X D E e u):NBEnd w p X D E e u.drew:=by
 obtain ⟨sx,vd,h1,h2,h3,h4⟩:=h
 exact ⟨sx,vd,h1,h2.u_ (r_ (Below.refl _ u)),h3.u_ (r_ (Below.refl _ u)),r_ h4⟩
end Go.Proofs.YtniloklglpchfaeGreatDoor
