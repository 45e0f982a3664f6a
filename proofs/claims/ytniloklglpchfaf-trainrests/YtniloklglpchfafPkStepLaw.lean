/- A step: without Learn the net stays; without Keep what was does not matter; of nothing all stays. Plain facts, no program in sight. -/
import Derived.Test.YtniloklglpchfafPkStep
import Derived.Test.YtniloklglpchfafPkReg
import Derived.Test.YtniloklglpchfafPkTrFact
namespace Go.Proofs.Ytniloklglpchfaf
open Go.RowKit
theorem ends_cl{x:Int}(h:inEnds x=true):cl x=x:=by rw[ends_iff]at h;exact cl_in x h.1 h.2
theorem sb_zero{x:Int}(h:inEnds x=true):sb x 0=x:=by
 have:=ends_cl h
 unfold sb;rw[this,cl_in 0 (by omega) (by omega),Int.sub_zero,this]
theorem ml_nought(x:Int):ml 0 x=0:=by rw[ml_comm,ml_zero]
theorem Good.tabSelf{a:Mx}{R C:Nat}(g:Good a R C):tab (R*C) (A_ a)=a.cells:=by rw[←g.l];exact tab_list a.cells
theorem new_still{a s:Mx}{R C:Nat}(ga:Good a R C)(gs:Good s R C):newX a s 0=a:=by
 rw[new_eq ga gs]
 refine mx_eq rfl rfl ?_
 show tab _ _=_
 rw[←ga.tabSelf]
 exact tab_congr (fun q _=>by rw[ml_zero,sb_zero (cellAt_ends ga q)])
theorem good_nought{m:Mx}{R C:Nat}(g:Good m R C):Good (zeroM m) R C:=⟨g.r,g.c,g.hR,g.hC,by show (tab _ _).length=_;rw[tab_len,g.l],by
 show (tab _ _).all inEnds=true
 exact tab_ends (fun q _=>by decide)⟩
theorem cell_nought(m:Mx)(q:Nat):A_ (zeroM m) q=0:=by
 unfold A_ zeroM
 by_cases h:q<m.cells.length
 ·rw[tab_at h];rfl
 ·rw[List.getElem?_eq_none (by rw[tab_len];omega)];rfl
theorem spd_nought{m:Mx}{R C:Nat}(g:Good m R C)(ke:Int):spdX (zeroM m) (zeroM m) ke=zeroM m:=by
 rw[spd_eq (good_nought g) (good_nought g)]
 refine mx_eq rfl rfl ?_
 show tab _ _=tab _ _
 rw[g.l]
 refine tab_congr (fun q _=>?_)
 rw[cell_nought,ml_nought,ad_zero]
 exact cl_in 0 (by omega) (by omega)
theorem new_nought{m:Mx}{R C:Nat}(g:Good m R C)(le:Int):newX m (zeroM m) le=m:=by
 rw[new_eq g (good_nought g)]
 refine mx_eq rfl rfl ?_
 show tab _ _=_
 rw[←g.tabSelf]
 exact tab_congr (fun q _=>by rw[cell_nought,ml_nought,sb_zero (cellAt_ends g q)])
theorem stpE_cons{l:Ly}{p q:Mx×Mx}{ls:List Ly}{ps qs:List (Mx×Mx)}(h:stpE (l::ls) (p::ps) (q::qs)=0):stp1E l p q=0∧stpE ls ps qs=0:=by
 have h':(if stp1E l p q≠0 then stp1E l p q else stpE ls ps qs)=0:=h
 by_cases h0:stp1E l p q=0
 ·rw[if_neg (by simp[h0])]at h';exact ⟨h0,h'⟩
 ·rw[if_pos h0]at h';exact absurd h' h0
theorem stp1_mk{l:Ly}{p q:Mx×Mx}{R C R2 C2:Nat}(hl:l_ l=0)(gw:Good l.w R C)(gb:Good l.b R2 C2)(g1:Good p.1 R C)(g2:Good p.2 R2 C2)(g3:Good q.1 R C)(g4:Good q.2 R2 C2):stp1E l p q=0:=by
 have sh:∀{a c:Mx} {R C:Nat},Good a R C→Good c R C→H_ a c=true:=fun ga gc=>decide_eq_true ⟨by rw[ga.r,gc.r],by rw[ga.c,gc.c]⟩
 unfold stp1E
 rw[hl,g1.fault,g2.fault,g3.fault,g4.fault,sh g1 gw,sh g2 gb,sh g3 gw,sh g4 gb]
 simp
theorem stpL_still(ke:Int):∀(ls:List Ly) (ps qs:List (Mx×Mx)),ps.length=ls.length→qs.length=ls.length→stpE ls ps qs=0→stpL 0 ke ls ps qs=ls
 |[],_,_,_,_,_=>by unfold stpL;rfl
 |_::_,[],_,h,_,_=>by simp at h
 |_::_,_::_,[],_,h,_=>by simp at h
 |l::ls,p::ps,q::qs,h1,h2,hE=>by
  obtain ⟨e1,e2⟩:=stpE_cons hE
  obtain ⟨⟨R,C,gw,gp,gq⟩,⟨R2,C2,gb,gp2,gq2⟩⟩:=stp1_sizes e1
  show stp1L l p q 0 ke::stpL 0 ke ls ps qs=_
  rw[stpL_still ke ls ps qs (by simpa using h1) (by simpa using h2) e2]
  unfold stp1L
  rw[new_still gw (gp.spd gq ke),new_still gb (gp2.spd gq2 ke)]
theorem stp_rest(le ke:Int):∀(ls:List Ly) (ps qs:List (Mx×Mx)),ps.length=ls.length→qs.length=ls.length→stpE ls ps qs=0→
  stpE ls (zeroD ls) (zeroD ls)=0∧stpL le ke ls (zeroD ls) (zeroD ls)=ls∧stpG ke ls (zeroD ls) (zeroD ls)=zeroD ls
 |[],_,_,_,_,_=>by simp[stpE,stpL,stpG,zeroD]
 |_::_,[],_,h,_,_=>by simp at h
 |_::_,_::_,[],_,h,_=>by simp at h
 |l::ls,p::ps,q::qs,h1,h2,hE=>by
  obtain ⟨e1,e2⟩:=stpE_cons hE
  obtain ⟨⟨R,C,gw,gp,gq⟩,⟨R2,C2,gb,gp2,gq2⟩⟩:=stp1_sizes e1
  obtain ⟨i1,i2,i3⟩:=stp_rest le ke ls ps qs (by simpa using h1) (by simpa using h2) e2
  have ez:zeroD (l::ls)=(zeroM l.w,zeroM l.b)::zeroD ls:=rfl
  have hz:stp1E l (zeroM l.w,zeroM l.b) (zeroM l.w,zeroM l.b)=0:=stp1_mk (stp1_good e1).1 gw gb (good_nought gw) (good_nought gb) (good_nought gw) (good_nought gb)
  rw[ez]
  refine ⟨?_,?_,?_⟩
  ·show (if stp1E l (zeroM l.w,zeroM l.b) (zeroM l.w,zeroM l.b)≠0 then stp1E l (zeroM l.w,zeroM l.b) (zeroM l.w,zeroM l.b) else stpE ls (zeroD ls) (zeroD ls))=0
   rw[if_neg (by simp[hz]),i1]
  ·show stp1L l (zeroM l.w,zeroM l.b) (zeroM l.w,zeroM l.b) le ke::stpL le ke ls (zeroD ls) (zeroD ls)=_
   rw[i2]
   unfold stp1L
   rw[spd_nought gw,spd_nought gb,new_nought gw,new_nought gb]
  ·show stp1G (zeroM l.w,zeroM l.b) (zeroM l.w,zeroM l.b) ke::stpG ke ls (zeroD ls) (zeroD ls)=_
   rw[i3]
   unfold stp1G
   rw[spd_nought gw,spd_nought gb]
theorem zeroD_len(ls:List Ly):(zeroD ls).length=ls.length:=by unfold zeroD;rw[List.length_map]
theorem beg_nat(P Q j:Nat):∃f t c:Nat,begAt P Q j=(f:Int)∧begAt P Q (j+1)=(t:Int)∧cnt P j Q=(c:Int)∧f≤t∧t≤Q∧t=f+c:=by
 have h0:=begAt_nonneg P Q j
 have h1:=begAt_nonneg P Q (j+1)
 have h2:=cnt_nonneg P j Q
 have h3:=begAt_le P (j+1) Q
 have h4:begAt P Q (j+1)=begAt P Q j+cnt P j Q:=rfl
 exact ⟨(begAt P Q j).toNat,(begAt P Q (j+1)).toNat,(cnt P j Q).toNat,by omega,by omega,by omega,by omega,by omega,by omega⟩
theorem splE_zero{b:Mx×Mx}{parts:Int}(h:splE b parts=0):∃P Q C1 C2:Nat,parts=(P:Int)∧0<P∧P≤12∧P≤Q∧Q≤24∧Good b.1 Q C1∧Good b.2 Q C2∧splX b parts=(List.range P).map (partX b P Q):=by
 have hX:splX b parts=(List.range parts.toNat).map (partX b parts.toNat b.1.rows.toNat):=by unfold splX;rw[if_pos h]
 unfold splE at h
 by_cases hb:batE b=0
 ·rw[if_neg (by simp[hb])]at h
  obtain ⟨h1,h2,h3,h4⟩:=bat_good hb
  obtain ⟨Q,C1,g1⟩:=o__ h1
  obtain ⟨Q2,C2,g2⟩:=o__ h2
  have e:Q2=Q:=by have:=g1.r;have:=g2.r;omega
  subst e
  unfold szE at h
  by_cases a1:b.1.rows<1∨24<b.1.rows∨parts<1∨12<parts
  ·rw[if_pos a1]at h;cases h
  ·rw[if_neg a1]at h
   by_cases a2:b.1.rows<parts
   ·rw[if_pos a2]at h;cases h
   ·have:=g1.r
    refine ⟨parts.toNat,Q2,C1,C2,by omega,by omega,by omega,by omega,by omega,g1,g2,?_⟩
    rw[hX,g1.r,Int.toNat_natCast]
 ·rw[if_pos hb]at h;exact absurd h hb
end Go.Proofs.Ytniloklglpchfaf
