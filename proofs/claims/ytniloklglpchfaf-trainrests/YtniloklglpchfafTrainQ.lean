/- What goes back through a net has the shapes of its layers; what parts come to together; a step of all parts, as plain data. No program in sight. -/
import Derived.Test.YtniloklglpchfafPkReg
namespace Go.Proofs.Ytniloklglpchfaf
open Go.RowKit
theorem colS_ends(cs:List Int)(C q:Nat):∀k,inEnds (colS cs C q k)=true
 |0=>(by decide:inEnds 0=true)
 |k+1=>by rw[ends_iff];exact cl_bd _
theorem Good.sums{a:Mx}{R C:Nat}(g:Good a R C):Good (sumsX a) 1 C:=by
 have e:timesE a=0:=by unfold timesE;rw[if_neg (by simp[g.fault])]
 unfold sumsX
 rw[if_pos e]
 exact ⟨rfl,g.c,by decide,g.hC,by rw[tab_len,g.c];simp,tab_ends (fun q _=>colS_ends _ _ _ _)⟩
theorem good_no:Good noMx 0 0:=⟨rfl,rfl,by decide,by decide,rfl,rfl⟩
theorem sumP_ends(x g:Mx):∀n,inEnds (sumP x g n)=true
 |0=>(by decide:inEnds 0=true)
 |n+1=>by rw[ends_iff];exact cl_bd _
theorem good_one{x:Int}(h:inEnds x=true):Good ⟨1,1,[x]⟩ 1 1:=⟨rfl,rfl,by decide,by decide,rfl,by simp[h]⟩
theorem Good.one{m:Mx}{R C R' C':Nat}(g:Good m R C)(g':Good m R' C'):R'=R∧C'=C:=by
 have h1:=g.r
 have h2:=g'.r
 have h3:=g.c
 have h4:=g'.c
 omega
theorem grad_good{l:Ly}{x g:Mx}(h:backE l x g=0):(∃R C,Good l.w R C∧Good (gradW l x g) R C)∧(∃R C,Good l.b R C∧Good (gradB l x g) R C):=by
 obtain ⟨hg,fg,e1,e2,h4⟩:=backE_zero h
 obtain ⟨hl,fx,ht⟩:=goE_zero hg
 obtain ⟨Rg,Cg,gg⟩:=o__ fg
 obtain ⟨Rx,Cx,gx⟩:=o__ fx
 have gg:=gg.same (R':=Rx) (C':=Cg) (by have:=gg.r;have:=gx.r;omega) rfl
 unfold gradW gradB
 rw[if_pos h,if_pos h]
 cases lyG_of hl using LyG.el with
 |lin Rw Cw hk gw gb h1 h2 h3=>
  have et:=takes_lin hk ht
  have eg:g_ l x.cols=l.w.cols:=by unfold g_;rw[if_pos hk]
  rw[if_pos hk,if_pos (.inl hk)]
  have hR:Rx≤12:=by have:=gx.r;omega
  have c1:Cx=Rw:=by have:=gx.c;have:=gw.r;omega
  have c2:Cg=Cw:=by have:=gg.c;have:=gw.c;omega
  subst c1 c2
  exact ⟨⟨_,_,gw,(gx.turn hR).mul gg⟩,⟨_,_,gb,gg.sums⟩⟩
 |relu hk gw gb=>
  rw[if_neg (by omega),if_neg (by omega),if_neg (by omega)]
  exact ⟨⟨_,_,gw,good_no⟩,⟨_,_,gb,good_no⟩⟩
 |scale hk gw gb=>
  rw[if_neg (by omega),if_pos hk,if_neg (by omega)]
  exact ⟨⟨_,_,gw,good_one (sumP_ends _ _ _)⟩,⟨_,_,gb,good_no⟩⟩
 |shift Cb hk gw gb hb=>
  have et:=takes_shift hk ht
  have eg:g_ l x.cols=x.cols:=by unfold g_;rw[if_neg (by omega)]
  rw[if_neg (by omega),if_neg (by omega),if_pos (.inr hk)]
  have c2:Cg=Cb:=by have:=gg.c;have:=gb.c;omega
  subst c2
  exact ⟨⟨_,_,gw,good_no⟩,⟨_,_,gb,gg.sums⟩⟩
def FitG (l:Ly) (d:Mx×Mx):Prop:=(∃R C,Good l.w R C∧Good d.1 R C)∧(∃R C,Good l.b R C∧Good d.2 R C)
def Fits:List Ly→List (Mx×Mx)→Prop
 |[],[]=>True
 |l::ls,d::ds=>FitG l d∧Fits ls ds
 |_,_=>False
theorem Fits.nil:Fits [] []:=trivial
theorem Fits.cons{l:Ly}{d:Mx×Mx}{ls:List Ly}{ds:List (Mx×Mx)}(h:FitG l d)(t:Fits ls ds):Fits (l::ls) (d::ds):=⟨h,t⟩
theorem Fits.el{motive:(ls:List Ly)→(ds:List (Mx×Mx))→Fits ls ds→Prop}(nil:motive [] [] Fits.nil)(cons:∀{l:Ly} {d:Mx×Mx} {ls:List Ly} {ds:List (Mx×Mx)} (h:FitG l d) (t:Fits ls ds),motive ls ds t→motive (l::ls) (d::ds) (Fits.cons h t)):∀(ls:List Ly) (ds:List (Mx×Mx)) (h:Fits ls ds),motive ls ds h
 |[],[],_=>nil
 |_::ls,_::ds,h=>cons h.1 h.2 (Fits.el nil cons ls ds h.2)
 |[],_::_,h=>(show False from h).elim
 |_::_,[],h=>(show False from h).elim
theorem Fits.len{ls:List Ly}{ds:List (Mx×Mx)}(h:Fits ls ds):ds.length=ls.length:=by
 induction ls,ds,h using Fits.el with
 |nil=>rfl
 |cons _ _ ih=>rw[List.length_cons,List.length_cons,ih]
theorem Fits.snoc{l:Ly}{d:Mx×Mx}(hd:FitG l d){ls:List Ly}{ds:List (Mx×Mx)}(h:Fits ls ds):Fits (ls++[l]) (ds++[d]):=by
 induction ls,ds,h using Fits.el with
 |nil=>exact .cons hd .nil
 |cons h1 _ ih=>exact .cons h1 ih
theorem bk_fits:∀(ls:List Ly) (xs:List Mx) (g:Mx),xs.length=ls.length→bkE ls xs g=0→Fits ls.reverse (bkD ls xs g)
 |[],_,_,_,_=>by simp only[List.reverse_nil];unfold bkD;exact .nil
 |l::ls,[],_,h,_=>by simp at h
 |l::ls,x::xs,g,hl,h=>by
  have h':(if backE l x g≠0 then backE l x g else bkE ls xs (backX l x g))=0:=h
  by_cases hb:backE l x g=0
  ·rw[if_neg (by simp[hb])]at h'
   rw[List.reverse_cons]
   exact Fits.snoc (show FitG l (gradW l x g,gradB l x g) from grad_good hb) (bk_fits ls xs (backX l x g) (by simpa using hl) h')
  ·rw[if_pos hb]at h';exact absurd h' hb
theorem nb_fits{ls:List Ly}{ms:List Mx}{g:Mx}(hl:ls≠[])(h:nbE ls ms g=0):Fits ls (nbD ls ms g):=by
 have h12:¬12<ls.length:=fun h'=>by unfold nbE at h;rw[if_pos h']at h;cases h
 have hm:ms.length=ls.length+1:=Classical.byContradiction fun h'=>by unfold nbE at h;rw[if_neg h12,if_pos h']at h;cases h
 have hb:bkE ls.reverse (ms.take ls.length).reverse g=0:=by unfold nbE at h;rw[if_neg h12,if_neg (by simp[hm]),if_neg hl]at h;exact h
 have:=bk_fits ls.reverse (ms.take ls.length).reverse g (by rw[List.length_reverse,List.length_reverse,List.length_take];omega) hb
 rw[List.reverse_reverse]at this
 unfold nbD;rw[if_pos h];exact this
theorem gat_fits{ls:List Ly}{ds:List (Mx×Mx)}(h:Fits ls ds):∀{es:List (Mx×Mx)},Fits ls es→gatE ds es=0∧Fits ls (gatX ds es):=by
 induction ls,ds,h using Fits.el with
 |nil=>
  intro es he
  cases es with
  |nil=>exact ⟨rfl,.nil⟩
  |cons _ _=>exact (show False from he).elim
 |@cons l d ls ds hd _ ih=>
  intro es he
  cases es with
  |nil=>exact (show False from he).elim
  |cons e es'=>
   obtain ⟨he,he'⟩:=he
   obtain ⟨ih1,ih2⟩:=ih he'
   obtain ⟨⟨R,C,gw,g1⟩,⟨R2,C2,gb,g2⟩⟩:=hd
   obtain ⟨⟨R',C',gw',g1'⟩,⟨R2',C2',gb',g2'⟩⟩:=he
   obtain ⟨rfl,rfl⟩:=gw.one gw'
   obtain ⟨rfl,rfl⟩:=gb.one gb'
   have a1:=g1.addE g1'
   have a2:=g2.addE g2'
   have hE:gat1E d e=0:=by unfold gat1E;rw[if_neg (by simp[a1]),a2]
   refine ⟨?_,.cons ⟨⟨_,_,gw,g1.add g1'⟩,⟨_,_,gb,g2.add g2'⟩⟩ ih2⟩
   show (if gat1E d e≠0 then gat1E d e else gatE ds es')=0
   rw[if_neg (by simp[hE]),ih1]
theorem ga_fits{ls:List Ly}{ds es:List (Mx×Mx)}(h:Fits ls ds)(h':Fits ls es):gaE ds es=0∧Fits ls (gaX ds es):=by
 obtain ⟨h1,h2⟩:=gat_fits h h'
 have hE:gaE ds es=0:=by unfold gaE;rw[if_neg (by rw[h.len,h'.len];simp),h1]
 exact ⟨hE,by unfold gaX;rw[if_pos hE];exact h2⟩
theorem good_zero{m:Mx}{R C:Nat}(g:Good m R C):Good (zeroM m) R C:=⟨g.r,g.c,g.hR,g.hC,by show (tab _ _).length=_;rw[tab_len,g.l],by
 show (tab _ _).all inEnds=true
 exact tab_ends (fun q _=>by decide)⟩
theorem zero_fits:∀(ls:List Ly),(∀l∈ls,q_ l.w=0∧q_ l.b=0)→Fits ls (zeroD ls)
 |[],_=>.nil
 |l::ls,h=>by
  obtain ⟨fw,fb⟩:=h l (by simp)
  obtain ⟨R,C,gw⟩:=o__ fw
  obtain ⟨R2,C2,gb⟩:=o__ fb
  exact .cons ⟨⟨R,C,gw,good_zero gw⟩,⟨R2,C2,gb,good_zero gb⟩⟩ (zero_fits ls (fun l' hl'=>h l' (by simp[hl'])))
theorem stp_of:∀{ls:List Ly} {ps qs:List (Mx×Mx)},ps.length=ls.length→sttE ls ps=0→Fits ls qs→stpE ls ps qs=0
 |[],_,_,_,_,_=>by unfold stpE;rfl
 |l::ls,[],_,h,_,_=>by simp at h
 |l::ls,p::ps,[],_,_,hf=>(show False from hf).elim
 |l::ls,p::ps,q::qs,hl,he,hf=>by
  obtain ⟨hq,hf⟩:=hf
  have he':(if stt1E l p≠0 then stt1E l p else sttE ls ps)=0:=he
  have h1:stt1E l p=0:=by
   by_cases h0:stt1E l p=0
   ·exact h0
   ·rw[if_pos h0]at he';exact he'
  rw[if_neg (by simp[h1])]at he'
  have h2:stp1E l p q=0:=by
   obtain ⟨⟨R,C,gw,g1⟩,⟨R2,C2,gb,g2⟩⟩:=hq
   have s1:H_ q.1 l.w=true:=decide_eq_true ⟨by rw[g1.r,gw.r],by rw[g1.c,gw.c]⟩
   have s2:H_ q.2 l.b=true:=decide_eq_true ⟨by rw[g2.r,gb.r],by rw[g2.c,gb.c]⟩
   unfold stt1E at h1
   unfold stp1E
   rw[g1.fault,g2.fault,s1,s2]
   revert h1
   by_cases a0:l_ l=0<;>by_cases a1:q_ p.1=0<;>by_cases a2:q_ p.2=0<;>simp[a0,a1,a2]
  show (if stp1E l p q≠0 then stp1E l p q else stpE ls ps qs)=0
  rw[if_neg (by simp[h2])]
  exact stp_of (by simpa using hl) he' hf
end Go.Proofs.Ytniloklglpchfaf
