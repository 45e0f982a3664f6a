/- A step, as plain data: what is wrong, what comes of a net and of its speed. No program in sight. -/
import Derived.Test.YtniloklglpchfafPkLBox
namespace Go.Proofs.Ytniloklglpchfaf
open Go.RowKit
def H_ (a b:Mx):Bool:=decide (a.rows=b.rows∧a.cols=b.cols)
def stp1E (l:Ly) (p q:Mx×Mx):Int:=if l_ l≠0 then l_ l else if q_ p.1≠0 then q_ p.1 else if q_ p.2≠0 then q_ p.2 else if q_ q.1≠0 then q_ q.1 else if q_ q.2≠0 then q_ q.2 else
 if H_ p.1 l.w=false∨H_ p.2 l.b=false∨H_ q.1 l.w=false∨H_ q.2 l.b=false then 2 else 0
def stpE:List Ly→List (Mx×Mx)→List (Mx×Mx)→Int
 |l::ls,p::ps,q::qs=>if stp1E l p q≠0 then stp1E l p q else stpE ls ps qs
 |_,_,_=>0
def badR (le ke:Int):Bool:=decide (le<0)||decide (256<le)||decide (ke<0)||decide (256<ke)
def stE (ls:List Ly) (ps qs:List (Mx×Mx)) (le ke:Int):Int:=if badR le ke=true then 1 else if 12<ls.length then 3 else if ps.length≠ls.length∨qs.length≠ls.length then 2 else stpE ls ps qs
def spdX (v d:Mx) (ke:Int):Mx:=addX (timesX v ke) d
def newX (w sp:Mx) (le:Int):Mx:=⟨w.rows,w.cols,tab w.cells.length fun q=>sb (A_ w q) (A_ (timesX sp le) q)⟩
def stp1L (l:Ly) (p q:Mx×Mx) (le ke:Int):Ly:=⟨l.k,newX l.w (spdX p.1 q.1 ke) le,newX l.b (spdX p.2 q.2 ke) le⟩
def stp1G (p q:Mx×Mx) (ke:Int):Mx×Mx:=(spdX p.1 q.1 ke,spdX p.2 q.2 ke)
def stpL (le ke:Int):List Ly→List (Mx×Mx)→List (Mx×Mx)→List Ly
 |l::ls,p::ps,q::qs=>stp1L l p q le ke::stpL le ke ls ps qs
 |_,_,_=>[]
def stpG (ke:Int):List Ly→List (Mx×Mx)→List (Mx×Mx)→List (Mx×Mx)
 |_::ls,p::ps,q::qs=>stp1G p q ke::stpG ke ls ps qs
 |_,_,_=>[]
theorem sameSh_yes{a b:Mx}(h:H_ a b=true):a.rows=b.rows∧a.cols=b.cols:=of_decide_eq_true h
theorem stp1_good{l:Ly}{p q:Mx×Mx}(h:stp1E l p q=0):l_ l=0∧q_ p.1=0∧q_ p.2=0∧q_ q.1=0∧q_ q.2=0∧H_ p.1 l.w=true∧H_ p.2 l.b=true∧H_ q.1 l.w=true∧H_ q.2 l.b=true:=by
 unfold stp1E at h
 by_cases h0:l_ l=0
 ·rw[if_neg (by simp[h0])]at h
  by_cases h1:q_ p.1=0
  ·rw[if_neg (by simp[h1])]at h
   by_cases h2:q_ p.2=0
   ·rw[if_neg (by simp[h2])]at h
    by_cases h3:q_ q.1=0
    ·rw[if_neg (by simp[h3])]at h
     by_cases h4:q_ q.2=0
     ·rw[if_neg (by simp[h4])]at h
      by_cases h5:H_ p.1 l.w=false∨H_ p.2 l.b=false∨H_ q.1 l.w=false∨H_ q.2 l.b=false
      ·rw[if_pos h5]at h;cases h
      ·simp only[not_or,Bool.not_eq_false]at h5
       exact ⟨h0,h1,h2,h3,h4,h5.1,h5.2.1,h5.2.2.1,h5.2.2.2⟩
     ·rw[if_pos h4]at h;exact absurd h h4
    ·rw[if_pos h3]at h;exact absurd h h3
   ·rw[if_pos h2]at h;exact absurd h h2
  ·rw[if_pos h1]at h;exact absurd h h1
 ·rw[if_pos h0]at h;exact absurd h h0
theorem Good.addE{a b:Mx}{R C:Nat}(ga:Good a R C)(gb:Good b R C):addE a b=0:=by
 have hf:faults [a,b]=0:=by unfold faults faults faults;rw[ga.fault,gb.fault];rfl
 show (if faults [a,b]≠0 then faults [a,b] else if a.rows≠b.rows∨a.cols≠b.cols then 2 else 0)=0
 rw[if_neg (by simp[hf]),if_neg (by rw[ga.r,ga.c,gb.r,gb.c];simp)]
theorem Good.add{a b:Mx}{R C:Nat}(ga:Good a R C)(gb:Good b R C):Good (addX a b) R C:=by
 unfold addX
 rw[if_pos (ga.addE gb)]
 have e:a.rows.toNat*a.cols.toNat=R*C:=by rw[ga.r,ga.c];simp
 exact ⟨ga.r,ga.c,ga.hR,ga.hC,by rw[tab_len,e],tab_ends (fun q _=>by rw[ends_iff];exact cl_bd _)⟩
theorem infoLy2:(Try.prog.info? 52).map (fun i=>(i.zero,i.size,i.bytes))=some (some (.agg #[.int .i64 0,.int .i64 0,.int .i64 0,.slice none 0 0,.int .i64 0,.int .i64 0,.slice none 0 0]),7,88):=by kernel_rfl
theorem enc_ly2{w:World}{G:Nat→Prop}{l:Ly}{s t:Value}(h:P_ w G (.inr l.w.cells) s)(h':P_ w G (.inr l.b.cells) t):Enc w G (lyS l) [.int .i64 l.k,.int .i64 l.w.rows,.int .i64 l.w.cols,s,.int .i64 l.b.rows,.int .i64 l.b.cols,t]:=.cons rfl (.cons rfl (.cons rfl (.cons h (.cons rfl (.cons rfl (.cons h' (.nil _ _)))))))
theorem stp1_sizes{l:Ly}{p q:Mx×Mx}(h:stp1E l p q=0):(∃R C,Good l.w R C∧Good p.1 R C∧Good q.1 R C)∧(∃R C,Good l.b R C∧Good p.2 R C∧Good q.2 R C):=by
 obtain ⟨h0,h1,h2,h3,h4,h5,h6,h7,h8⟩:=stp1_good h
 obtain ⟨_,_,fw,fb,_⟩:=lgood_of h0
 have key:∀{a c:Mx},q_ a=0→H_ a c=true→∀{R C:Nat},Good c R C→Good a R C:=fun {a c} fa hs {R C} gc=>by
  obtain ⟨R',C',ga⟩:=o__ fa
  obtain ⟨e1,e2⟩:=sameSh_yes hs
  have hr:=ga.r
  have hc:=ga.c
  have hr':=gc.r
  have hc':=gc.c
  obtain rfl:R'=R:=by omega
  obtain rfl:C'=C:=by omega
  exact ga
 obtain ⟨R,C,gw⟩:=o__ fw
 obtain ⟨R2,C2,gb⟩:=o__ fb
 exact ⟨⟨R,C,gw,key h1 h5 gw,key h3 h7 gw⟩,⟨R2,C2,gb,key h2 h6 gb,key h4 h8 gb⟩⟩
def doL (ls:List Ly) (ps qs:List (Mx×Mx)) (le ke:Int):List Ly:=if stE ls ps qs le ke=0 then stpL le ke ls ps qs else []
def doG (ls:List Ly) (ps qs:List (Mx×Mx)) (le ke:Int):List (Mx×Mx):=if stE ls ps qs le ke=0 then stpG ke ls ps qs else []
theorem mx_eq{a b:Mx}(h1:a.rows=b.rows)(h2:a.cols=b.cols)(h3:a.cells=b.cells):a=b:=by cases a;cases b;cases h1;cases h2;cases h3;rfl
theorem Good.timesEq{a:Mx}{R C:Nat}(g:Good a R C)(x:Int):timesX a x=⟨a.rows,a.cols,tab (R*C) (fun q=>ml (A_ a q) x)⟩:=by
 have e:timesE a=0:=by unfold timesE;rw[if_neg (by simp[g.fault])]
 unfold timesX
 rw[if_pos e,g.r,g.c]
 simp[A_]
theorem cellAt_tab{r c:Int}{n q:Nat}{f:Nat→Int}(h:q<n):A_ ⟨r,c,tab n f⟩ q=f q:=by unfold A_;rw[tab_at h];rfl
theorem spd_eq{v d:Mx}{R C:Nat}(gv:Good v R C)(gd:Good d R C)(ke:Int):spdX v d ke=⟨v.rows,v.cols,tab (R*C) (fun q=>ad (ml (A_ v q) ke) (A_ d q))⟩:=by
 unfold spdX addX
 rw[if_pos ((gv.times ke).addE gd),gv.timesEq ke]
 simp only[gv.r,gv.c,Int.toNat_natCast]
 congr 1
 refine tab_congr (fun q hq=>?_)
 rw[tab_at hq];rfl
theorem Good.spd{v d:Mx}{R C:Nat}(gv:Good v R C)(gd:Good d R C)(ke:Int):Good (spdX v d ke) R C:=(gv.times ke).add gd
theorem new_eq{a s:Mx}{R C:Nat}(ga:Good a R C)(gs:Good s R C)(le:Int):newX a s le=⟨a.rows,a.cols,tab (R*C) (fun q=>sb (A_ a q) (ml (A_ s q) le))⟩:=by
 unfold newX
 rw[ga.l,gs.timesEq le]
 congr 1
 exact tab_congr (fun q hq=>by rw[cellAt_tab hq])
def stt1E (l:Ly) (p:Mx×Mx):Int:=if l_ l≠0 then l_ l else if q_ p.1≠0 then q_ p.1 else if q_ p.2≠0 then q_ p.2 else if H_ p.1 l.w=false∨H_ p.2 l.b=false then 2 else 0
def sttE:List Ly→List (Mx×Mx)→Int
 |l::ls,p::ps=>if stt1E l p≠0 then stt1E l p else sttE ls ps
 |_,_=>0
def stateE (ls:List Ly) (ps:List (Mx×Mx)) (n:Int):Int:=if 12<ls.length then 3 else if ps.length≠ls.length then 2 else if n<0∨1000000000<n then 1 else sttE ls ps
end Go.Proofs.Ytniloklglpchfaf
/- How far a matrix is off another one, as plain numbers: never below 0, 0 at itself, the other way round as far. No program in sight. -/
namespace Go.Proofs.Ytniloklglpchfaf
def offAt (a b:Mx) (q:Nat):Int:=sb (A_ a q) (A_ b q)
def lossS (a b:Mx):Nat→Int
 |0=>0
 |n+1=>ad (lossS a b n) (ml (offAt a b n) (offAt a b n))
def offX (a b:Mx):Mx:=if addE a b=0 then ⟨a.rows,a.cols,tab a.cells.length (offAt a b)⟩ else noMx
def lossX (a b:Mx):Int:=if addE a b=0 then ml (lossS a b a.cells.length) 128 else 0
theorem sb_self(a:Int):sb a a=0:=by unfold sb;rw[Int.sub_self];rfl
theorem ml_sq(d:Int):0≤ml d d:=by
 have h:0≤cl d*cl d:=by
  rcases Int.le_total 0 (cl d) with h|h
  ·exact Int.mul_nonneg h h
  ·rw[←Int.neg_mul_neg];exact Int.mul_nonneg (by omega) (by omega)
 have h2:0≤cl d*cl d / 256:=Int.ediv_nonneg h (by omega)
 have:=cl_mono _ _ h2
 rw[cl_in 0 (by omega) (by omega)]at this
 exact this
theorem ad_pos(a b:Int)(ha:0≤a)(hb:0≤b):0≤ad a b:=by
 have h1:=cl_mono _ _ ha
 have h2:=cl_mono _ _ hb
 rw[cl_in 0 (by omega) (by omega)]at h1 h2
 have h3:=cl_mono 0 (cl a+cl b) (by omega)
 rw[cl_in 0 (by omega) (by omega)]at h3
 exact h3
theorem lossS_bd(a b:Mx):∀n,0≤lossS a b n∧lossS a b n≤2147483647
 |0=>⟨Int.le_refl _,show (0:Int)≤2147483647 by decide⟩
 |n+1=>⟨ad_pos _ _ (lossS_bd a b n).1 (ml_sq _),(ad_bd _ _).2⟩
theorem lossS_self(a:Mx):∀n,lossS a a n=0
 |0=>rfl
 |n+1=>by show ad _ _=0;rw[lossS_self a n,show offAt a a n=0 from sb_self _];rfl
theorem addE_a{a b:Mx}(h:q_ a≠0):addE a b=q_ a:=by
 have e:faults [a,b]=q_ a:=by unfold faults;rw[if_neg h]
 unfold addE;rw[if_pos (by rw[e];exact h),e]
theorem addE_b{a b:Mx}(ha:q_ a=0)(h:q_ b≠0):addE a b=q_ b:=by
 have e:faults [a,b]=q_ b:=by unfold faults;rw[if_pos ha,faults_one]
 unfold addE;rw[if_pos (by rw[e];exact h),e]
theorem addE_s{a b:Mx}(ha:q_ a=0)(hb:q_ b=0):addE a b=if a.rows≠b.rows∨a.cols≠b.cols then 2 else 0:=by
 have e:faults [a,b]=0:=by unfold faults;rw[if_pos ha,faults_one,hb]
 unfold addE;rw[if_neg (by simp[e])]
theorem addE_good{a b:Mx}(h:addE a b=0):∃R C,Good a R C∧Good b R C:=by
 have ha:q_ a=0:=Classical.byContradiction fun e=>e ((addE_a e).symm.trans h)
 have hb:q_ b=0:=Classical.byContradiction fun e=>e ((addE_b ha e).symm.trans h)
 obtain ⟨R,C,ga⟩:=o__ ha
 obtain ⟨R',C',gb⟩:=o__ hb
 rw[addE_s ha hb]at h
 have hs:¬(a.rows≠b.rows∨a.cols≠b.cols):=fun e=>by rw[if_pos e]at h;cases h
 have:=ga.r
 have:=gb.r
 have:=ga.c
 have:=gb.c
 exact ⟨R,C,ga,gb.same (by omega) (by omega)⟩
end Go.Proofs.Ytniloklglpchfaf
