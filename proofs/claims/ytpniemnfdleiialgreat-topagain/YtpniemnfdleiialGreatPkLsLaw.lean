/- How far two matrices are off, the one way and the other way round: plain facts. No program in sight. -/
import Derived.Test.YtpniemnfdleiialGreatPkLoss
import Derived.Test.YtpniemnfdleiialGreatAgC6
import Derived.Test.YtpniemnfdleiialGreatPkLBox
import Derived.Test.YtpniemnfdleiialGreatPkLyGood
namespace Go.Proofs.YtpniemnfdleiialGreat
theorem addE_of{a b:Mx}{R C:Nat}(ga:Good a R C)(gb:Good b R C):addE a b=0:=by
 rw[addE_s ga.fault gb.fault,if_neg (by have:=ga.r;have:=gb.r;have:=ga.c;have:=gb.c;omega)]
theorem off_at{a b:Mx}{R C i:Nat}(ga:Good a R C)(h:addE a b=0)(hi:i<R*C):(offX a b).cells[i]?=some (offAt a b i):=by
 unfold offX;rw[if_pos h,ga.l];exact tab_at hi
theorem off_len{a b:Mx}{R C:Nat}(ga:Good a R C)(h:addE a b=0):(offX a b).cells.length=R*C:=by
 unfold offX;rw[if_pos h,ga.l];simp[tab]
end Go.Proofs.YtpniemnfdleiialGreat
/- What goes back of a net of which little is kept is what goes back of one of which all is kept. No program in sight. -/
namespace Go.Proofs.YtpniemnfdleiialGreat
theorem ev_of{e:Int}(h:1≤e)(h':e≤12):evB e=true:=by unfold evB;rw[decide_eq_true_iff];exact ⟨h,h'⟩
theorem ag_ok{ls:List Ly}{x y:Mx}{e:Int}(h:agE ls x y e=0):evB e=true∧ngE ls x=0∧addE (endX ls x) y=0∧agB ls x y=0:=by
 unfold agE at h
 by_cases h1:evB e=false
 ·rw[if_pos h1]at h;simp at h
 rw[if_neg h1]at h
 by_cases h2:ngE ls x=0
 ·rw[if_neg (by simp[h2])]at h
  by_cases h3:addE (endX ls x) y=0
  ·rw[if_neg (by simp[h3])]at h
   exact ⟨by simpa using h1,h2,h3,h⟩
  ·rw[if_pos h3]at h;exact absurd h h3
 ·rw[if_pos h2]at h;exact absurd h h2
theorem off_good{a b:Mx}(h:addE a b=0):q_ (offX a b)=0:=by
 obtain ⟨R,C,ga,gb⟩:=addE_good h
 have hl:=off_len ga h
 have hr:(offX a b).rows=a.rows:=by unfold offX;rw[if_pos h]
 have hc:(offX a b).cols=a.cols:=by unfold offX;rw[if_pos h]
 have hg:Good (offX a b) R C:=by
  refine ⟨hr.trans ga.r,hc.trans ga.c,ga.hR,ga.hC,hl,?_⟩
  rw[List.all_eq_true]
  intro z hz
  obtain ⟨i,hi⟩:=List.getElem?_of_mem hz
  have hlt:i<R*C:=by rw[←hl];exact (List.getElem?_eq_some_iff.1 hi).1
  rw[off_at ga h hlt]at hi
  rw[←Option.some.inj hi,ends_iff]
  unfold offAt sb
  exact cl_bd _
 exact hg.fault
theorem ag_net{ls:List Ly}{x y:Mx}{e:Int}(h:agE ls x y e=0):nbE ls (ngX ls x) (offX (endX ls x) y)=0∧nbD ls (ngX ls x) (offX (endX ls x) y)=agD ls x y e:=by
 obtain ⟨_,h2,h3,h4⟩:=ag_ok h
 have hn:ngX ls x=x::runT ls x:=by unfold ngX;rw[if_pos h2]
 have h5:=((ngE_iff ls x).1 h2).1
 have hE:nbE ls (ngX ls x) (offX (endX ls x) y)=0:=by
  rw[hn]
  unfold nbE
  rw[if_neg h5,if_neg (by simp[runT_len])]
  by_cases hl:ls=[]
  ·rw[if_pos hl];exact off_good h3
  ·rw[if_neg hl];exact h4
 refine ⟨hE,?_⟩
 unfold nbD agD
 rw[if_pos hE,if_pos h,hn]
end Go.Proofs.YtpniemnfdleiialGreat
/- A step, as plain data: what is wrong, what comes of a net and of its speed. No program in sight. -/
namespace Go.Proofs.YtpniemnfdleiialGreat
open Go.RowKit
def H_ (a b:Mx):Bool:=decide (a.rows=b.rows∧a.cols=b.cols)
def stp1E (l:Ly) (p q:Mx×Mx):Int:=if l_ l≠0 then l_ l else if q_ p.1≠0 then q_ p.1 else if q_ p.2≠0 then q_ p.2 else if q_ q.1≠0 then q_ q.1 else if q_ q.2≠0 then q_ q.2 else
 if H_ p.1 l.w=false∨H_ p.2 l.b=false∨H_ q.1 l.w=false∨H_ q.2 l.b=false then 2 else 0
def stpE:List Ly→List (Mx×Mx)→List (Mx×Mx)→Int
 |l::ls,p::ps,q::qs=>if stp1E l p q≠0 then stp1E l p q else stpE ls ps qs
 |_,_,_=>0
def badR (le ke:Int):Bool:=decide (le<0)||decide (256<le)||decide (ke<0)||decide (256<ke)
def stE (ls:List Ly) (ps qs:List (Mx×Mx)) (le ke:Int):Int:=if badR le ke=true then 1 else if 12<ls.length then 3 else if ps.length≠ls.length∨qs.length≠ls.length then 2 else stpE ls ps qs
def spdX (v d:Mx) (ke:Int):Mx:=addX (timesX v ke) d
def newX (w sp:Mx) (le:Int):Mx:=⟨w.rows,w.cols,tab w.cells.length fun q=>sb (A_ w q) (A_ (timesX sp le) q)⟩
def stp1L (l:Ly) (p q:Mx×Mx) (le ke:Int):Ly:=⟨l.k,newX l.w (spdX p.1 q.1 ke) le,newX l.b (spdX p.2 q.2 ke) le⟩
def stp1G (p q:Mx×Mx) (ke:Int):Mx×Mx:=(spdX p.1 q.1 ke,spdX p.2 q.2 ke)
def stpL (le ke:Int):List Ly→List (Mx×Mx)→List (Mx×Mx)→List Ly
 |l::ls,p::ps,q::qs=>stp1L l p q le ke::stpL le ke ls ps qs
 |_,_,_=>[]
def stpG (ke:Int):List Ly→List (Mx×Mx)→List (Mx×Mx)→List (Mx×Mx)
 |_::ls,p::ps,q::qs=>stp1G p q ke::stpG ke ls ps qs
 |_,_,_=>[]
theorem sameSh_yes{a b:Mx}(h:H_ a b=true):a.rows=b.rows∧a.cols=b.cols:=of_decide_eq_true h
theorem stp1_good{l:Ly}{p q:Mx×Mx}(h:stp1E l p q=0):l_ l=0∧q_ p.1=0∧q_ p.2=0∧q_ q.1=0∧q_ q.2=0∧H_ p.1 l.w=true∧H_ p.2 l.b=true∧H_ q.1 l.w=true∧H_ q.2 l.b=true:=by
 unfold stp1E at h
 by_cases h0:l_ l=0
 ·rw[if_neg (by simp[h0])]at h
  by_cases h1:q_ p.1=0
  ·rw[if_neg (by simp[h1])]at h
   by_cases h2:q_ p.2=0
   ·rw[if_neg (by simp[h2])]at h
    by_cases h3:q_ q.1=0
    ·rw[if_neg (by simp[h3])]at h
     by_cases h4:q_ q.2=0
     ·rw[if_neg (by simp[h4])]at h
      by_cases h5:H_ p.1 l.w=false∨H_ p.2 l.b=false∨H_ q.1 l.w=false∨H_ q.2 l.b=false
      ·rw[if_pos h5]at h;cases h
      ·simp only[not_or,Bool.not_eq_false]at h5
       exact ⟨h0,h1,h2,h3,h4,h5.1,h5.2.1,h5.2.2.1,h5.2.2.2⟩
     ·rw[if_pos h4]at h;exact absurd h h4
    ·rw[if_pos h3]at h;exact absurd h h3
   ·rw[if_pos h2]at h;exact absurd h h2
  ·rw[if_pos h1]at h;exact absurd h h1
 ·rw[if_pos h0]at h;exact absurd h h0
theorem Good.addE{a b:Mx}{R C:Nat}(ga:Good a R C)(gb:Good b R C):addE a b=0:=by
 have hf:faults [a,b]=0:=by unfold faults faults faults;rw[ga.fault,gb.fault];rfl
 show (if faults [a,b]≠0 then faults [a,b] else if a.rows≠b.rows∨a.cols≠b.cols then 2 else 0)=0
 rw[if_neg (by simp[hf]),if_neg (by rw[ga.r,ga.c,gb.r,gb.c];simp)]
theorem Good.add{a b:Mx}{R C:Nat}(ga:Good a R C)(gb:Good b R C):Good (addX a b) R C:=by
 unfold addX
 rw[if_pos (ga.addE gb)]
 have e:a.rows.toNat*a.cols.toNat=R*C:=by rw[ga.r,ga.c];simp
 exact ⟨ga.r,ga.c,ga.hR,ga.hC,by rw[tab_len,e],tab_ends (fun q _=>by rw[ends_iff];exact cl_bd _)⟩
theorem infoLy2:(Tryz.prog.info? 61).map (fun i=>(i.zero,i.size,i.bytes))=some (some (.agg #[.int .i64 0,.int .i64 0,.int .i64 0,.slice none 0 0,.int .i64 0,.int .i64 0,.slice none 0 0]),7,88):=by kernel_rfl
theorem enc_ly2{w:World}{G:Nat→Prop}{l:Ly}{s t:Value}(h:P_ w G (.inr l.w.cells) s)(h':P_ w G (.inr l.b.cells) t):Enc w G (lyS l) [.int .i64 l.k,.int .i64 l.w.rows,.int .i64 l.w.cols,s,.int .i64 l.b.rows,.int .i64 l.b.cols,t]:=.cons rfl (.cons rfl (.cons rfl (.cons h (.cons rfl (.cons rfl (.cons h' (.nil _ _)))))))
theorem stp1_sizes{l:Ly}{p q:Mx×Mx}(h:stp1E l p q=0):(∃R C,Good l.w R C∧Good p.1 R C∧Good q.1 R C)∧(∃R C,Good l.b R C∧Good p.2 R C∧Good q.2 R C):=by
 obtain ⟨h0,h1,h2,h3,h4,h5,h6,h7,h8⟩:=stp1_good h
 obtain ⟨_,_,fw,fb,_⟩:=lgood_of h0
 have key:∀{a c:Mx},q_ a=0→H_ a c=true→∀{R C:Nat},Good c R C→Good a R C:=fun {a c} fa hs {R C} gc=>by
  obtain ⟨R',C',ga⟩:=o__ fa
  obtain ⟨e1,e2⟩:=sameSh_yes hs
  have hr:=ga.r
  have hc:=ga.c
  have hr':=gc.r
  have hc':=gc.c
  obtain rfl:R'=R:=by omega
  obtain rfl:C'=C:=by omega
  exact ga
 obtain ⟨R,C,gw⟩:=o__ fw
 obtain ⟨R2,C2,gb⟩:=o__ fb
 exact ⟨⟨R,C,gw,key h1 h5 gw,key h3 h7 gw⟩,⟨R2,C2,gb,key h2 h6 gb,key h4 h8 gb⟩⟩
def doL (ls:List Ly) (ps qs:List (Mx×Mx)) (le ke:Int):List Ly:=if stE ls ps qs le ke=0 then stpL le ke ls ps qs else []
def doG (ls:List Ly) (ps qs:List (Mx×Mx)) (le ke:Int):List (Mx×Mx):=if stE ls ps qs le ke=0 then stpG ke ls ps qs else []
theorem mx_eq{a b:Mx}(h1:a.rows=b.rows)(h2:a.cols=b.cols)(h3:a.cells=b.cells):a=b:=by cases a;cases b;cases h1;cases h2;cases h3;rfl
theorem Good.timesEq{a:Mx}{R C:Nat}(g:Good a R C)(x:Int):timesX a x=⟨a.rows,a.cols,tab (R*C) (fun q=>ml (A_ a q) x)⟩:=by
 have e:timesE a=0:=by unfold timesE;rw[if_neg (by simp[g.fault])]
 unfold timesX
 rw[if_pos e,g.r,g.c]
 simp[A_]
theorem cellAt_tab{r c:Int}{n q:Nat}{f:Nat→Int}(h:q<n):A_ ⟨r,c,tab n f⟩ q=f q:=by unfold A_;rw[tab_at h];rfl
theorem spd_eq{v d:Mx}{R C:Nat}(gv:Good v R C)(gd:Good d R C)(ke:Int):spdX v d ke=⟨v.rows,v.cols,tab (R*C) (fun q=>ad (ml (A_ v q) ke) (A_ d q))⟩:=by
 unfold spdX addX
 rw[if_pos ((gv.times ke).addE gd),gv.timesEq ke]
 simp only[gv.r,gv.c,Int.toNat_natCast]
 congr 1
 refine tab_congr (fun q hq=>?_)
 rw[tab_at hq];rfl
theorem Good.spd{v d:Mx}{R C:Nat}(gv:Good v R C)(gd:Good d R C)(ke:Int):Good (spdX v d ke) R C:=(gv.times ke).add gd
theorem new_eq{a s:Mx}{R C:Nat}(ga:Good a R C)(gs:Good s R C)(le:Int):newX a s le=⟨a.rows,a.cols,tab (R*C) (fun q=>sb (A_ a q) (ml (A_ s q) le))⟩:=by
 unfold newX
 rw[ga.l,gs.timesEq le]
 congr 1
 exact tab_congr (fun q hq=>by rw[cellAt_tab hq])
def stt1E (l:Ly) (p:Mx×Mx):Int:=if l_ l≠0 then l_ l else if q_ p.1≠0 then q_ p.1 else if q_ p.2≠0 then q_ p.2 else if H_ p.1 l.w=false∨H_ p.2 l.b=false then 2 else 0
def sttE:List Ly→List (Mx×Mx)→Int
 |l::ls,p::ps=>if stt1E l p≠0 then stt1E l p else sttE ls ps
 |_,_=>0
def stateE (ls:List Ly) (ps:List (Mx×Mx)) (n:Int):Int:=if 12<ls.length then 3 else if ps.length≠ls.length then 2 else if n<0∨1000000000<n then 1 else sttE ls ps
def batE (b:Mx×Mx):Int:=if q_ b.1≠0 then q_ b.1 else if q_ b.2≠0 then q_ b.2 else if b.1.rows≠b.2.rows∨b.1.rows=0 then 2 else 0
def cnt (p j:Nat):Nat→Int
 |0=>0
 |i+1=>cnt p j i+if i % p=j then 1 else 0
def szE (rows parts:Int):Int:=if rows<1∨24<rows∨parts<1∨12<parts then 1 else if rows<parts then 2 else 0
def szX (rows parts:Int):List Int:=if szE rows parts=0 then tab parts.toNat (fun j=>cnt parts.toNat j rows.toNat) else []
def begAt (p r:Nat):Nat→Int
 |0=>0
 |j+1=>begAt p r j+cnt p j r
theorem cnt_nonneg(p j:Nat):∀i,0≤cnt p j i
 |0=>Int.le_refl _
 |i+1=>by have:=cnt_nonneg p j i;show 0≤cnt p j i+_;split<;>omega
theorem cnt_le(p j:Nat):∀i,cnt p j i≤(i:Int)
 |0=>Int.le_refl _
 |i+1=>by have:=cnt_le p j i;show cnt p j i+_≤_;split<;>omega
theorem begAt_zero(p:Nat):∀j,begAt p 0 j=0
 |0=>rfl
 |j+1=>by show begAt p 0 j+0=0;rw[begAt_zero p j];rfl
theorem begAt_succ(p r:Nat):∀j,begAt p (r+1) j=begAt p r j+if r % p<j then 1 else 0
 |0=>by simp[begAt]
 |j+1=>by
  show begAt p (r+1) j+(cnt p j r+if r % p=j then 1 else 0)=(begAt p r j+cnt p j r)+_
  rw[begAt_succ p r j]
  by_cases h1:r % p<j
  ·rw[if_pos h1,if_neg (by omega),if_pos (by omega)];omega
  ·by_cases h2:r % p=j
   ·rw[if_neg h1,if_pos h2,if_pos (by omega)];omega
   ·rw[if_neg h1,if_neg h2,if_neg (by omega)];omega
theorem begAt_nonneg(p r:Nat):∀j,0≤begAt p r j
 |0=>Int.le_refl _
 |j+1=>by have:=begAt_nonneg p r j;have:=cnt_nonneg p j r;show 0≤begAt p r j+cnt p j r;omega
theorem begAt_le(p j:Nat):∀r,begAt p r j≤(r:Int)
 |0=>by rw[begAt_zero];exact Int.le_refl _
 |r+1=>by have:=begAt_le p j r;rw[begAt_succ];split<;>omega
theorem begAt_all(p:Nat)(hp:0<p):∀r,begAt p r p=(r:Int)
 |0=>by rw[begAt_zero];rfl
 |r+1=>by rw[begAt_succ,begAt_all p hp r,if_pos (Nat.mod_lt _ hp)];omega
theorem cnt_eq(p j:Nat)(hp:0<p)(hj:j<p):∀r,cnt p j r=((r / p:Nat):Int)+if j<r % p then 1 else 0
 |0=>by simp[cnt]
 |r+1=>by
  show cnt p j r+(if r % p=j then 1 else 0)=_
  rw[cnt_eq p j hp hj r]
  have hlt:=Nat.mod_lt r hp
  have hdm:=Nat.div_add_mod r p
  by_cases h:r % p+1<p
  ·have e1:(r+1) / p=r / p:=by
    apply Nat.div_eq_of_lt_le
    ·rw[Nat.mul_comm];omega
    ·rw[Nat.succ_mul,Nat.mul_comm];omega
   have e2:(r+1) % p=r % p+1:=by have h2:=Nat.div_add_mod (r+1) p;rw[e1]at h2;omega
   rw[e1,e2]
   by_cases h1:j<r % p
   ·rw[if_pos h1,if_neg (by omega),if_pos (by omega)];omega
   ·by_cases h2:r % p=j
    ·rw[if_neg h1,if_pos h2,if_pos (by omega)];omega
    ·rw[if_neg h1,if_neg h2,if_neg (by omega)];omega
  ·have e0:r+1=p*(r / p+1):=by rw[Nat.mul_succ];omega
   have e1:(r+1) / p=r / p+1:=by rw[e0,Nat.mul_div_cancel_left _ hp]
   have e2:(r+1) % p=0:=by rw[e0,Nat.mul_mod_right]
   rw[e1,e2]
   by_cases h1:j<r % p
   ·rw[if_pos h1,if_neg (by omega),if_neg (by omega)];omega
   ·rw[if_neg h1,if_pos (by omega),if_neg (by omega)];omega
def partX (b:Mx×Mx) (p r j:Nat):Mx×Mx:=(rowsX b.1 (begAt p r j) (begAt p r (j+1)),rowsX b.2 (begAt p r j) (begAt p r (j+1)))
def splE (b:Mx×Mx) (parts:Int):Int:=if batE b≠0 then batE b else szE b.1.rows parts
def splX (b:Mx×Mx) (parts:Int):List (Mx×Mx):=if splE b parts=0 then (List.range parts.toNat).map (partX b parts.toNat b.1.rows.toNat) else []
theorem bat_good{b:Mx×Mx}(h:batE b=0):q_ b.1=0∧q_ b.2=0∧b.1.rows=b.2.rows∧b.1.rows≠0:=by
 unfold batE at h
 by_cases h1:q_ b.1=0
 ·rw[if_neg (by simp[h1])]at h
  by_cases h2:q_ b.2=0
  ·rw[if_neg (by simp[h2])]at h
   by_cases h3:b.1.rows≠b.2.rows∨b.1.rows=0
   ·rw[if_pos h3]at h;cases h
   ·exact ⟨h1,h2,Classical.byContradiction fun e=>h3 (.inl e),fun e=>h3 (.inr e)⟩
  ·rw[if_pos h2]at h;exact absurd h h2
 ·rw[if_pos h1]at h;exact absurd h h1
def prtG (ls:List Ly) (b:Mx×Mx):Mx:=offX (endX ls b.1) b.2
def prtD (ls:List Ly) (b:Mx×Mx):List (Mx×Mx):=nbD ls (ngX ls b.1) (prtG ls b)
def prtX (ls:List Ly) (b:Mx×Mx):Int:=lossX (endX ls b.1) b.2
def headR (b:Mx×Mx) (parts:Int):Int:=(((splX b parts)[0]?).map (fun d=>d.1.rows)).getD 0
def oneE (ls:List Ly) (ps:List (Mx×Mx)) (n:Int) (b:Mx×Mx) (parts le ke:Int):Int:=
 if stateE ls ps n≠0 then stateE ls ps n else if splE b parts≠0 then splE b parts else if nwE ls b.1.cols≠0 then nwE ls b.1.cols else if nwX ls b.1.cols≠b.2.cols then 2 else if 12<headR b parts∨le<0∨256<le∨ke<0∨256<ke then 1 else 0
theorem colS_ends(cs:List Int)(C q:Nat):∀k,inEnds (colS cs C q k)=true
 |0=>(by decide:inEnds 0=true)
 |k+1=>by rw[ends_iff];exact cl_bd _
theorem Good.sums{a:Mx}{R C:Nat}(g:Good a R C):Good (sumsX a) 1 C:=by
 have e:timesE a=0:=by unfold timesE;rw[if_neg (by simp[g.fault])]
 unfold sumsX
 rw[if_pos e]
 exact ⟨rfl,g.c,by decide,g.hC,by rw[tab_len,g.c];simp,tab_ends (fun q _=>colS_ends _ _ _ _)⟩
theorem good_no:Good noMx 0 0:=⟨rfl,rfl,by decide,by decide,rfl,rfl⟩
theorem sumP_ends(x g:Mx):∀n,inEnds (sumP x g n)=true
 |0=>(by decide:inEnds 0=true)
 |n+1=>by rw[ends_iff];exact cl_bd _
theorem good_one{x:Int}(h:inEnds x=true):Good ⟨1,1,[x]⟩ 1 1:=⟨rfl,rfl,by decide,by decide,rfl,by simp[h]⟩
theorem Good.one{m:Mx}{R C R' C':Nat}(g:Good m R C)(g':Good m R' C'):R'=R∧C'=C:=by
 have h1:=g.r
 have h2:=g'.r
 have h3:=g.c
 have h4:=g'.c
 omega
theorem grad_good{l:Ly}{x g:Mx}(h:backE l x g=0):(∃R C,Good l.w R C∧Good (gradW l x g) R C)∧(∃R C,Good l.b R C∧Good (gradB l x g) R C):=by
 obtain ⟨hg,fg,e1,e2,h4⟩:=backE_zero h
 obtain ⟨hl,fx,ht⟩:=goE_zero hg
 obtain ⟨Rg,Cg,gg⟩:=o__ fg
 obtain ⟨Rx,Cx,gx⟩:=o__ fx
 have gg:=gg.same (R':=Rx) (C':=Cg) (by have:=gg.r;have:=gx.r;omega) rfl
 unfold gradW gradB
 rw[if_pos h,if_pos h]
 cases lyG_of hl using LyG.el with
 |lin Rw Cw hk gw gb h1 h2 h3=>
  have et:=takes_lin hk ht
  have eg:g_ l x.cols=l.w.cols:=by unfold g_;rw[if_pos hk]
  rw[if_pos hk,if_pos (.inl hk)]
  have hR:Rx≤12:=by have:=gx.r;omega
  have c1:Cx=Rw:=by have:=gx.c;have:=gw.r;omega
  have c2:Cg=Cw:=by have:=gg.c;have:=gw.c;omega
  subst c1 c2
  exact ⟨⟨_,_,gw,(gx.turn hR).mul gg⟩,⟨_,_,gb,gg.sums⟩⟩
 |relu hk gw gb=>
  rw[if_neg (by omega),if_neg (by omega),if_neg (by omega)]
  exact ⟨⟨_,_,gw,good_no⟩,⟨_,_,gb,good_no⟩⟩
 |scale hk gw gb=>
  rw[if_neg (by omega),if_pos hk,if_neg (by omega)]
  exact ⟨⟨_,_,gw,good_one (sumP_ends _ _ _)⟩,⟨_,_,gb,good_no⟩⟩
 |shift Cb hk gw gb hb=>
  have et:=takes_shift hk ht
  have eg:g_ l x.cols=x.cols:=by unfold g_;rw[if_neg (by omega)]
  rw[if_neg (by omega),if_neg (by omega),if_pos (.inr hk)]
  have c2:Cg=Cb:=by have:=gg.c;have:=gb.c;omega
  subst c2
  exact ⟨⟨_,_,gw,good_no⟩,⟨_,_,gb,gg.sums⟩⟩
def FitG (l:Ly) (d:Mx×Mx):Prop:=(∃R C,Good l.w R C∧Good d.1 R C)∧(∃R C,Good l.b R C∧Good d.2 R C)
def Fits:List Ly→List (Mx×Mx)→Prop
 |[],[]=>True
 |l::ls,d::ds=>FitG l d∧Fits ls ds
 |_,_=>False
theorem Fits.nil:Fits [] []:=trivial
theorem Fits.cons{l:Ly}{d:Mx×Mx}{ls:List Ly}{ds:List (Mx×Mx)}(h:FitG l d)(t:Fits ls ds):Fits (l::ls) (d::ds):=⟨h,t⟩
theorem Fits.el{motive:(ls:List Ly)→(ds:List (Mx×Mx))→Fits ls ds→Prop}(nil:motive [] [] Fits.nil)(cons:∀{l:Ly} {d:Mx×Mx} {ls:List Ly} {ds:List (Mx×Mx)} (h:FitG l d) (t:Fits ls ds),motive ls ds t→motive (l::ls) (d::ds) (Fits.cons h t)):∀(ls:List Ly) (ds:List (Mx×Mx)) (h:Fits ls ds),motive ls ds h
 |[],[],_=>nil
 |_::ls,_::ds,h=>cons h.1 h.2 (Fits.el nil cons ls ds h.2)
 |[],_::_,h=>(show False from h).elim
 |_::_,[],h=>(show False from h).elim
theorem Fits.len{ls:List Ly}{ds:List (Mx×Mx)}(h:Fits ls ds):ds.length=ls.length:=by
 induction ls,ds,h using Fits.el with
 |nil=>rfl
 |cons _ _ ih=>rw[List.length_cons,List.length_cons,ih]
theorem Fits.snoc{l:Ly}{d:Mx×Mx}(hd:FitG l d){ls:List Ly}{ds:List (Mx×Mx)}(h:Fits ls ds):Fits (ls++[l]) (ds++[d]):=by
 induction ls,ds,h using Fits.el with
 |nil=>exact .cons hd .nil
 |cons h1 _ ih=>exact .cons h1 ih
theorem bk_fits:∀(ls:List Ly) (xs:List Mx) (g:Mx),xs.length=ls.length→bkE ls xs g=0→Fits ls.reverse (bkD ls xs g)
 |[],_,_,_,_=>by simp only[List.reverse_nil];unfold bkD;exact .nil
 |l::ls,[],_,h,_=>by simp at h
 |l::ls,x::xs,g,hl,h=>by
  have h':(if backE l x g≠0 then backE l x g else bkE ls xs (backX l x g))=0:=h
  by_cases hb:backE l x g=0
  ·rw[if_neg (by simp[hb])]at h'
   rw[List.reverse_cons]
   exact Fits.snoc (show FitG l (gradW l x g,gradB l x g) from grad_good hb) (bk_fits ls xs (backX l x g) (by simpa using hl) h')
  ·rw[if_pos hb]at h';exact absurd h' hb
theorem nb_fits{ls:List Ly}{ms:List Mx}{g:Mx}(hl:ls≠[])(h:nbE ls ms g=0):Fits ls (nbD ls ms g):=by
 have h12:¬12<ls.length:=fun h'=>by unfold nbE at h;rw[if_pos h']at h;cases h
 have hm:ms.length=ls.length+1:=Classical.byContradiction fun h'=>by unfold nbE at h;rw[if_neg h12,if_pos h']at h;cases h
 have hb:bkE ls.reverse (ms.take ls.length).reverse g=0:=by unfold nbE at h;rw[if_neg h12,if_neg (by simp[hm]),if_neg hl]at h;exact h
 have:=bk_fits ls.reverse (ms.take ls.length).reverse g (by rw[List.length_reverse,List.length_reverse,List.length_take];omega) hb
 rw[List.reverse_reverse]at this
 unfold nbD;rw[if_pos h];exact this
theorem gat_fits{ls:List Ly}{ds:List (Mx×Mx)}(h:Fits ls ds):∀{es:List (Mx×Mx)},Fits ls es→gatE ds es=0∧Fits ls (gatX ds es):=by
 induction ls,ds,h using Fits.el with
 |nil=>
  intro es he
  cases es with
  |nil=>exact ⟨rfl,.nil⟩
  |cons _ _=>exact (show False from he).elim
 |@cons l d ls ds hd _ ih=>
  intro es he
  cases es with
  |nil=>exact (show False from he).elim
  |cons e es'=>
   obtain ⟨he,he'⟩:=he
   obtain ⟨ih1,ih2⟩:=ih he'
   obtain ⟨⟨R,C,gw,g1⟩,⟨R2,C2,gb,g2⟩⟩:=hd
   obtain ⟨⟨R',C',gw',g1'⟩,⟨R2',C2',gb',g2'⟩⟩:=he
   obtain ⟨rfl,rfl⟩:=gw.one gw'
   obtain ⟨rfl,rfl⟩:=gb.one gb'
   have a1:=g1.addE g1'
   have a2:=g2.addE g2'
   have hE:gat1E d e=0:=by unfold gat1E;rw[if_neg (by simp[a1]),a2]
   refine ⟨?_,.cons ⟨⟨_,_,gw,g1.add g1'⟩,⟨_,_,gb,g2.add g2'⟩⟩ ih2⟩
   show (if gat1E d e≠0 then gat1E d e else gatE ds es')=0
   rw[if_neg (by simp[hE]),ih1]
theorem ga_fits{ls:List Ly}{ds es:List (Mx×Mx)}(h:Fits ls ds)(h':Fits ls es):gaE ds es=0∧Fits ls (gaX ds es):=by
 obtain ⟨h1,h2⟩:=gat_fits h h'
 have hE:gaE ds es=0:=by unfold gaE;rw[if_neg (by rw[h.len,h'.len];simp),h1]
 exact ⟨hE,by unfold gaX;rw[if_pos hE];exact h2⟩
theorem good_zero{m:Mx}{R C:Nat}(g:Good m R C):Good (zeroM m) R C:=⟨g.r,g.c,g.hR,g.hC,by show (tab _ _).length=_;rw[tab_len,g.l],by
 show (tab _ _).all inEnds=true
 exact tab_ends (fun q _=>by decide)⟩
theorem zero_fits:∀(ls:List Ly),(∀l∈ls,q_ l.w=0∧q_ l.b=0)→Fits ls (zeroD ls)
 |[],_=>.nil
 |l::ls,h=>by
  obtain ⟨fw,fb⟩:=h l (by simp)
  obtain ⟨R,C,gw⟩:=o__ fw
  obtain ⟨R2,C2,gb⟩:=o__ fb
  exact .cons ⟨⟨R,C,gw,good_zero gw⟩,⟨R2,C2,gb,good_zero gb⟩⟩ (zero_fits ls (fun l' hl'=>h l' (by simp[hl'])))
theorem stp_of:∀{ls:List Ly} {ps qs:List (Mx×Mx)},ps.length=ls.length→sttE ls ps=0→Fits ls qs→stpE ls ps qs=0
 |[],_,_,_,_,_=>by unfold stpE;rfl
 |l::ls,[],_,h,_,_=>by simp at h
 |l::ls,p::ps,[],_,_,hf=>(show False from hf).elim
 |l::ls,p::ps,q::qs,hl,he,hf=>by
  obtain ⟨hq,hf⟩:=hf
  have he':(if stt1E l p≠0 then stt1E l p else sttE ls ps)=0:=he
  have h1:stt1E l p=0:=by
   by_cases h0:stt1E l p=0
   ·exact h0
   ·rw[if_pos h0]at he';exact he'
  rw[if_neg (by simp[h1])]at he'
  have h2:stp1E l p q=0:=by
   obtain ⟨⟨R,C,gw,g1⟩,⟨R2,C2,gb,g2⟩⟩:=hq
   have s1:H_ q.1 l.w=true:=decide_eq_true ⟨by rw[g1.r,gw.r],by rw[g1.c,gw.c]⟩
   have s2:H_ q.2 l.b=true:=decide_eq_true ⟨by rw[g2.r,gb.r],by rw[g2.c,gb.c]⟩
   unfold stt1E at h1
   unfold stp1E
   rw[g1.fault,g2.fault,s1,s2]
   revert h1
   by_cases a0:l_ l=0<;>by_cases a1:q_ p.1=0<;>by_cases a2:q_ p.2=0<;>simp[a0,a1,a2]
  show (if stp1E l p q≠0 then stp1E l p q else stpE ls ps qs)=0
  rw[if_neg (by simp[h2])]
  exact stp_of (by simpa using hl) he' hf
end Go.Proofs.YtpniemnfdleiialGreat
