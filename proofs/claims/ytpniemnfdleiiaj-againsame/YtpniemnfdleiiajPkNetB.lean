/- What goes back through a net, as plain data; pieces of lists in memory. No program in sight. -/
import Derived.Test.YtpniemnfdleiiajReg
import Derived.Test.YtpniemnfdleiiajPkMLaw
import Derived.Test.YtpniemnfdleiiajPlain
namespace Go.Proofs.Ytpniemnfdleiiaj
open Go.RowKit
def bkE:List Ly→List Mx→Mx→Int
 |l::ls,x::xs,g=>if backE l x g≠0 then backE l x g else bkE ls xs (backX l x g)
 |_,_,_=>0
def bkX:List Ly→List Mx→Mx→Mx
 |l::ls,x::xs,g=>bkX ls xs (backX l x g)
 |_,_,g=>g
def bkD:List Ly→List Mx→Mx→List (Mx×Mx)
 |l::ls,x::xs,g=>bkD ls xs (backX l x g)++[(gradW l x g,gradB l x g)]
 |_,_,_=>[]
def nbE (ls:List Ly) (ms:List Mx) (g:Mx):Int:=if 12<ls.length then 3 else if ms.length≠ls.length+1 then 2 else if ls=[] then q_ g else bkE ls.reverse (ms.take ls.length).reverse g
def nbX (ls:List Ly) (ms:List Mx) (g:Mx):Mx:=if nbE ls ms g=0 then bkX ls.reverse (ms.take ls.length).reverse g else noMx
def nbD (ls:List Ly) (ms:List Mx) (g:Mx):List (Mx×Mx):=if nbE ls ms g=0 then bkD ls.reverse (ms.take ls.length).reverse g else []
theorem take_end{α:Type}{xs:List α}{k:Nat}{x:α}(h:xs[k]?=some x):xs.take (k+1)=xs.take k++[x]:=by
 obtain ⟨hk,rfl⟩:=List.getElem?_eq_some_iff.1 h
 rw[List.take_succ_eq_append_getElem hk]
section
variable {ls:List Ly} {ms:List Mx} {g:Mx} {k:Nat} {l:Ly} {x:Mx}
end
theorem nbX_no{ls:List Ly}{ms:List Mx}{g:Mx}(h:nbE ls ms g≠0):nbX ls ms g=noMx∧nbD ls ms g=[]:=by unfold nbX nbD;rw[if_neg h,if_neg h];exact ⟨rfl,rfl⟩
theorem part_mid{w w':World}{n:Nat}{r c s:Value}{zs:List Int}(h:I_ w s zs)(hb:Below w.heap.size w w')(hf:F_ n (.agg #[r,c,s])){G:Nat→Prop}(hG:∀b,G b→b<n∨w.heap.size≤b):P_ w' G (.inr zs) s:=by
 refine ⟨h.u_ hb,?_⟩
 by_cases h0:zs=[]
 ·exact .inl h0
 ·obtain ⟨b,hb',hlt⟩:=h.lt h0
  refine .inr fun k hk hg=>?_
  rw[hb']at hk
  obtain rfl:=Option.some.inj hk
  obtain ⟨a,cap,rfl,_,_,h4⟩:=h
  obtain ⟨b2,off,rfl,_⟩:=h4.resolve_left h0
  obtain rfl:b2=b:=by simpa [Value.ownBlock] using hb'
  rcases hf r c ⟨b2,off,none⟩ zs.length cap rfl with h1|h1
  ·exact absurd (List.eq_nil_of_length_eq_zero h1) h0
  ·have h2:n≤b2:=h1
   rcases hG b2 hg with h3|h3<;>omega
section
variable {P:Program} {w:World}
end
def Keep (p:Nat→Prop) (w u:World):Prop:=∀(a:Addr) x,p a.block→w.cell? a=some x→u.cell? a=some x
theorem Keep.refl(p:Nat→Prop)(w:World):Keep p w w:=fun _ _ _ h=>h
theorem keep_drew{p:Nat→Prop}{w u:World}(h:Keep p w u):Keep p w u.drew:=h
theorem keep_set{p:Nat→Prop}{w u:World}{B q:Nat}{y:Value}(h:Keep p w u)(hB:¬p B):Keep p w (u.setCell ⟨B,q,none⟩ y):=fun a x ha hx=>cell_other (h a x ha hx) (fun (e:a.block=B)=>hB (e▸ha)) q y
end Go.Proofs.Ytpniemnfdleiiaj
/- Plain facts on what layers give: what Check takes. No program in sight. -/
namespace Go.Proofs.Ytpniemnfdleiiaj
def LyG (l:Ly):Prop:=(∃Rw Cw:Nat,l.k=1∧Good l.w Rw Cw∧Good l.b 1 Cw∧1≤Rw∧Rw≤12∧1≤Cw)∨(l.k=2∧Good l.w 0 0∧Good l.b 0 0)∨(l.k=3∧Good l.w 1 1∧Good l.b 0 0)∨(∃Cb:Nat,l.k=4∧Good l.w 0 0∧Good l.b 1 Cb∧1≤Cb)
theorem LyG.lin{l:Ly}(Rw Cw:Nat)(hk:l.k=1)(gw:Good l.w Rw Cw)(gb:Good l.b 1 Cw)(h1:1≤Rw)(h2:Rw≤12)(h3:1≤Cw):LyG l:=.inl ⟨Rw,Cw,hk,gw,gb,h1,h2,h3⟩
theorem LyG.relu{l:Ly}(hk:l.k=2)(gw:Good l.w 0 0)(gb:Good l.b 0 0):LyG l:=.inr (.inl ⟨hk,gw,gb⟩)
theorem LyG.scale{l:Ly}(hk:l.k=3)(gw:Good l.w 1 1)(gb:Good l.b 0 0):LyG l:=.inr (.inr (.inl ⟨hk,gw,gb⟩))
theorem LyG.shift{l:Ly}(Cb:Nat)(hk:l.k=4)(gw:Good l.w 0 0)(gb:Good l.b 1 Cb)(h:1≤Cb):LyG l:=.inr (.inr (.inr ⟨Cb,hk,gw,gb,h⟩))
theorem LyG.el{l:Ly}{motive:LyG l→Prop}(lin:∀(Rw Cw:Nat) (hk:l.k=1) (gw:Good l.w Rw Cw) (gb:Good l.b 1 Cw) (h1:1≤Rw) (h2:Rw≤12) (h3:1≤Cw),motive (.lin Rw Cw hk gw gb h1 h2 h3))(relu:∀(hk:l.k=2) (gw:Good l.w 0 0) (gb:Good l.b 0 0),motive (.relu hk gw gb))
  (scale:∀(hk:l.k=3) (gw:Good l.w 1 1) (gb:Good l.b 0 0),motive (.scale hk gw gb)) (shift:∀(Cb:Nat) (hk:l.k=4) (gw:Good l.w 0 0) (gb:Good l.b 1 Cb) (h:1≤Cb),motive (.shift Cb hk gw gb h)) (t:LyG l):motive t:=by
 rcases t with ⟨Rw,Cw,hk,gw,gb,h1,h2,h3⟩|⟨hk,gw,gb⟩|⟨hk,gw,gb⟩|⟨Cb,hk,gw,gb,h⟩
 ·exact lin Rw Cw hk gw gb h1 h2 h3
 ·exact relu hk gw gb
 ·exact scale hk gw gb
 ·exact shift Cb hk gw gb h
theorem Good.same{m:Mx}{R C R' C':Nat}(g:Good m R C)(h1:R=R')(h2:C=C'):Good m R' C':=by subst h1 h2;exact g
theorem lyG_of{l:Ly}(h:l_ l=0):LyG l:=by
 obtain ⟨h1,h2,fw,fb,hf⟩:=lgood_of h
 obtain ⟨Rw,Cw,gw⟩:=o__ fw
 obtain ⟨Rb,Cb,gb⟩:=o__ fb
 have e1:=gw.r
 have e2:=gw.c
 have e3:=gb.r
 have e4:=gb.c
 unfold fitsL at hf
 by_cases k1:l.k=1
 ·rw[if_pos k1]at hf
  have hf:=of_decide_eq_true hf
  exact .lin Rw Cw k1 gw (gb.same (by omega) (by omega)) (by omega) (by omega) (by omega)
 ·rw[if_neg k1]at hf
  by_cases k2:l.k=2
  ·rw[if_pos k2]at hf
   have hf:=of_decide_eq_true hf
   exact .relu k2 (gw.same (by omega) (by omega)) (gb.same (by omega) (by omega))
  ·rw[if_neg k2]at hf
   by_cases k3:l.k=3
   ·rw[if_pos k3]at hf
    have hf:=of_decide_eq_true hf
    exact .scale k3 (gw.same (by omega) (by omega)) (gb.same (by omega) (by omega))
   ·rw[if_neg k3]at hf
    have hf:=of_decide_eq_true hf
    exact .shift Cb (by omega) (gw.same (by omega) (by omega)) (gb.same (by omega) rfl) (by omega)
theorem goE_zero{l:Ly}{x:Mx}(h:goE l x=0):l_ l=0∧q_ x=0∧takesL l x.cols=true:=by
 unfold goE at h
 by_cases h1:l_ l≠0
 ·rw[if_pos h1]at h;exact absurd h h1
 ·rw[if_neg h1]at h
  by_cases h2:q_ x≠0
  ·rw[if_pos h2]at h;exact absurd h h2
  ·rw[if_neg h2]at h
   by_cases h3:takesL l x.cols=false
   ·rw[if_pos h3]at h;cases h
   ·exact ⟨Decidable.not_not.1 h1,Decidable.not_not.1 h2,by simpa using h3⟩
theorem backE_of{l:Ly}{x g:Mx}(h1:goE l x=0)(h2:q_ g=0)(h3:g.rows=x.rows)(h4:g.cols=g_ l x.cols)(h5:¬(l.k=1∧12<x.rows)):backE l x g=0:=by
 unfold backE;rw[if_neg (by simp[h1]),if_neg (by simp[h2]),if_neg (by omega),if_neg h5]
theorem takes_lin{l:Ly}{n:Int}(hk:l.k=1)(h:takesL l n=true):n=l.w.rows:=by unfold takesL at h;rw[if_pos hk]at h;exact of_decide_eq_true h
theorem takes_shift{l:Ly}{n:Int}(hk:l.k=4)(h:takesL l n=true):n=l.b.cols:=by unfold takesL at h;rw[if_neg (by omega),if_pos hk]at h;exact of_decide_eq_true h
end Go.Proofs.Ytpniemnfdleiiaj
