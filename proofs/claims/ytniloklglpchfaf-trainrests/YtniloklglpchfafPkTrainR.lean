/- A step of all parts: what is wrong with none of them where nothing is wrong with the whole; as plain data. No program in sight. -/
import Derived.Test.YtniloklglpchfafTrainQ
namespace Go.Proofs.Ytniloklglpchfaf
open Go.RowKit
theorem run_ok:∀(ls:List Ly) (x:Mx) (R C:Nat),Good x R C→netE ls (C:Int)=0→runE ls x=0∧∃C',Good (endX ls x) R C'∧netW ls (C:Int)=(C':Int)
 |[],x,R,C,g,_=>⟨rfl,C,g,rfl⟩
 |l::ls,x,R,C,g,h=>by
  have h':(if wideE l (C:Int)≠0 then wideE l (C:Int) else netE ls (g_ l (C:Int)))=0:=h
  have hw:wideE l (C:Int)=0:=by
   by_cases h0:wideE l (C:Int)=0
   ·exact h0
   ·rw[if_pos h0]at h';exact h'
  rw[if_neg (by simp[hw])]at h'
  have hgo:goE l x=0:=by
   unfold wideE at hw
   by_cases hf:l_ l=0
   ·rw[if_neg (by simp[hf])]at hw
    by_cases hn:(C:Int)<0∨12<(C:Int)
    ·rw[if_pos hn]at hw;cases hw
    ·rw[if_neg hn]at hw
     have ht:takesL l (C:Int)=true:=by
      cases hb:takesL l (C:Int) with
      |true=>rfl
      |false=>rw[if_pos hb]at hw;cases hw
     unfold goE
     rw[if_neg (by simp[hf]),if_neg (by simp[g.fault]),g.c,if_neg (by simp[ht])]
   ·rw[if_pos hf]at hw;exact absurd hw hf
  obtain ⟨C1,g1,e1⟩:=go_good g hgo
  rw[g.c]at e1
  rw[e1]at h'
  obtain ⟨r1,C',g',e'⟩:=run_ok ls (goX l x) R C1 g1 h'
  refine ⟨by rw[runE_cons,if_neg (by simp[hgo]),r1],C',g',?_⟩
  show netW ls (g_ l (C:Int))=_
  rw[e1];exact e'
theorem bkE_join:∀(r1:List Ly) (s1:List Mx) (r2:List Ly) (s2:List Mx) (g:Mx),r1.length=s1.length→bkE r1 s1 g=0→bkE r2 s2 (bkX r1 s1 g)=0→bkE (r1++r2) (s1++s2) g=0
 |[],[],_,_,_,_,_,h=>h
 |[],_::_,_,_,_,h,_,_=>by simp at h
 |_::_,[],_,_,_,h,_,_=>by simp at h
 |l::r1,x::s1,r2,s2,g,h,h1,h2=>by
  obtain ⟨a1,a2⟩:=bkE_zero h1
  show bkE (l::(r1++r2)) (x::(s1++s2)) g=0
  rw[bkE_cons,if_neg (by simp[a1])]
  exact bkE_join r1 s1 r2 s2 (backX l x g) (by simpa using h) a2 h2
theorem back_one{l:Ly}{x g:Mx}{R C C1:Nat}(gx:Good x R C)(hR:R≤12)(h:goE l x=0)(e1:g_ l x.cols=(C1:Int))(gg:Good g R C1):backE l x g=0∧Good (backX l x g) R C:=by
 have hb:backE l x g=0:=by
  unfold backE
  rw[if_neg (by simp[h]),if_neg (by simp[gg.fault]),if_neg (by rw[gg.r,gx.r,gg.c,e1];simp),if_neg (by have:=gx.r;omega)]
 exact ⟨hb,(back_good gx hb).choose_spec.2.2⟩
theorem back_ok:∀(ls:List Ly) (x g:Mx) (R C C':Nat),Good x R C→R≤12→runE ls x=0→Good (endX ls x) R C'→Good g R C'→bkE ls.reverse ((x::runT ls x).take ls.length).reverse g=0∧Good (bkX ls.reverse ((x::runT ls x).take ls.length).reverse g) R C
 |[],x,g,R,C,C',gx,_,_,ge,gg=>by
  obtain ⟨_,e⟩:=gx.one ge
  subst e
  exact ⟨rfl,gg⟩
 |l::ls,x,g,R,C,C',gx,hR,hr,ge,gg=>by
  obtain ⟨h1,h2⟩:=runE_zero hr
  obtain ⟨C1,g1,e1⟩:=go_good gx h1
  obtain ⟨b1,b2⟩:=back_ok ls (goX l x) g R C1 C' g1 hR h2 ge gg
  have e2:((x::runT (l::ls) x).take (l::ls).length).reverse=((goX l x::runT ls (goX l x)).take ls.length).reverse++[x]:=by
   show ((x::goX l x::runT ls (goX l x)).take (ls.length+1)).reverse=_
   rw[List.take_succ_cons,List.reverse_cons]
  rw[e2,List.reverse_cons]
  have hlen:ls.reverse.length=((goX l x::runT ls (goX l x)).take ls.length).reverse.length:=by
   rw[List.length_reverse,List.length_reverse,List.length_take,List.length_cons,runT_len];omega
  obtain ⟨c1,c2⟩:=back_one gx hR h1 e1 b2
  have hone:bkE [l] [x] (bkX ls.reverse ((goX l x::runT ls (goX l x)).take ls.length).reverse g)=0:=by rw[bkE_cons,if_neg (by simp[c1])];rfl
  refine ⟨bkE_join _ _ _ _ _ hlen b1 hone,?_⟩
  rw[(bk_app ls.reverse ((goX l x::runT ls (goX l x)).take ls.length).reverse [l] [x] g hlen).2.1]
  exact c2
theorem getD_in{zs:List Int}(h:zs.all inEnds=true)(q:Nat):inEnds ((zs[q]?).getD 0)=true:=by
 cases hq:zs[q]? with
 |none=>exact (by decide:inEnds 0=true)
 |some x=>exact List.all_eq_true.1 h x (List.mem_of_getElem? hq)
theorem good_rows{a:Mx}{R C:Nat}(g:Good a R C){f t:Int}(h0:0≤f)(h1:f≤t)(h2:t≤(R:Int)):Good (rowsX a f t) (t - f).toNat C:=by
 have hE:rowsE a f t=0:=by unfold rowsE;rw[if_neg (by simp[g.fault]),if_neg (by rw[g.r];omega)]
 unfold rowsX
 rw[if_pos hE]
 exact ⟨by show t - f=_;omega,g.c,by have:=g.hR;omega,g.hC,by rw[tab_len,g.c];simp,tab_ends (fun q _=>getD_in g.e _)⟩
theorem cnt_most(p j:Nat)(hp:0<p)(hj:j<p)(r:Nat):cnt p j r≤cnt p 0 r:=by
 rw[cnt_eq p j hp hj,cnt_eq p 0 hp hp]
 by_cases h1:j<r % p
 ·rw[if_pos h1,if_pos (by omega)];exact Int.le_refl _
 ·rw[if_neg h1];split<;>omega
theorem one_parts{ls:List Ly}{ps:List (Mx×Mx)}{n:Int}{b:Mx×Mx}{parts le ke:Int}(h:oneE ls ps n b parts le ke=0):
  stateE ls ps n=0∧badR le ke=false∧splE b parts=0∧∀d∈splX b parts,ngE ls d.1=0∧(∃R C,Good (endX ls d.1) R C∧Good d.2 R C)∧(ls≠[]→nbE ls (ngX ls d.1) (prtG ls d)=0):=by
 unfold oneE at h
 by_cases a1:stateE ls ps n=0
 ·rw[if_neg (by simp[a1])]at h
  by_cases a2:splE b parts=0
  ·rw[if_neg (by simp[a2])]at h
   by_cases a3:nwE ls b.1.cols=0
   ·rw[if_neg (by simp[a3])]at h
    by_cases a4:nwX ls b.1.cols=b.2.cols
    ·rw[if_neg (by simp[a4])]at h
     by_cases a5:12<headR b parts∨le<0∨256<le∨ke<0∨256<ke
     ·rw[if_pos a5]at h;cases h
     ·refine ⟨a1,by unfold badR;simp;omega,a2,fun d hd=>?_⟩
      have hbat:batE b=0:=Classical.byContradiction fun e=>by unfold splE at a2;rw[if_pos e]at a2;exact e a2
      have hsz:szE b.1.rows parts=0:=by unfold splE at a2;rw[if_neg (by simp[hbat])]at a2;exact a2
      obtain ⟨f1,f2,e12,_⟩:=bat_good hbat
      obtain ⟨R,C,g1⟩:=o__ f1
      obtain ⟨R2,C2,g2⟩:=o__ f2
      have eR:R2=R:=by have:=g1.r;have:=g2.r;omega
      subst eR
      have hrp:¬(b.1.rows<1∨24<b.1.rows∨parts<1∨12<parts):=fun e=>by unfold szE at hsz;rw[if_pos e]at hsz;cases hsz
      have hP:0<parts.toNat:=by omega
      have hRn:b.1.rows.toNat=R2:=by have:=g1.r;omega
      have hspl:splX b parts=(List.range parts.toNat).map (partX b parts.toNat R2):=by unfold splX;rw[if_pos a2,hRn]
      rw[hspl]at hd
      obtain ⟨j,hj,rfl⟩:=List.mem_map.1 hd
      have hj:=List.mem_range.1 hj
      have hb0:=begAt_nonneg parts.toNat R2 j
      have hb1:=begAt_le parts.toNat (j+1) R2
      have hbs:begAt parts.toNat R2 (j+1)=begAt parts.toNat R2 j+cnt parts.toNat j R2:=rfl
      have hc0:=cnt_nonneg parts.toNat j R2
      have hmost:=cnt_most parts.toNat j hP hj R2
      have hhead:headR b parts=cnt parts.toNat 0 R2:=by
       unfold headR
       rw[hspl,List.getElem?_map,List.getElem?_range hP]
       show (rowsX b.1 _ _).rows=_
       have hb2:=begAt_le parts.toNat 1 R2
       have hbz:begAt parts.toNat R2 1=0+cnt parts.toNat 0 R2:=rfl
       have hcz:=cnt_nonneg parts.toNat 0 R2
       have gr:=(good_rows (f:=begAt parts.toNat R2 0) (t:=begAt parts.toNat R2 (0+1)) g1 (Int.le_refl _) (by show 0≤begAt parts.toNat R2 1;omega) (by show begAt parts.toNat R2 1≤_;omega)).r
       rw[gr]
       show (((begAt parts.toNat R2 1 - 0).toNat:Nat):Int)=_
       omega
      have gp1:=good_rows (f:=begAt parts.toNat R2 j) (t:=begAt parts.toNat R2 (j+1)) g1 hb0 (by omega) hb1
      have gp2:=good_rows (f:=begAt parts.toNat R2 j) (t:=begAt parts.toNat R2 (j+1)) g2 hb0 (by omega) hb1
      obtain ⟨T,hT⟩:=gN ((begAt parts.toNat R2 (j+1) - begAt parts.toNat R2 j).toNat)
      have hT12:T≤12:=by omega
      rw[hT]at gp1 gp2
      have hlen:¬12<ls.length:=fun e=>by unfold nwE at a3;rw[if_pos e]at a3;cases a3
      have hnet:netE ls (C:Int)=0:=by unfold nwE at a3;rw[if_neg hlen,g1.c]at a3;exact a3
      obtain ⟨r1,C',g',e'⟩:=run_ok ls (partX b parts.toNat R2 j).1 T C gp1 hnet
      have eC:C'=C2:=by
       have h1:nwX ls b.1.cols=netW ls b.1.cols:=by unfold nwX;rw[if_pos a3]
       have h2:=g2.c
       rw[h1,g1.c,e']at a4
       omega
      subst eC
      have hng:ngE ls (partX b parts.toNat R2 j).1=0:=(ngE_iff _ _).2 ⟨hlen,gp1.fault,r1⟩
      refine ⟨hng,⟨T,C',g',gp2⟩,fun hne=>?_⟩
      have gg:Good (prtG ls (partX b parts.toNat R2 j)) T C':=by
       have hE:addE (endX ls (partX b parts.toNat R2 j).1) (partX b parts.toNat R2 j).2=0:=g'.addE gp2
       unfold prtG offX
       rw[if_pos hE]
       exact ⟨g'.r,g'.c,g'.hR,g'.hC,by rw[tab_len,g'.l],tab_ends (fun q _=>by rw[ends_iff];exact cl_bd _)⟩
      have hX:ngX ls (partX b parts.toNat R2 j).1=(partX b parts.toNat R2 j).1::runT ls (partX b parts.toNat R2 j).1:=by unfold ngX;rw[if_pos hng]
      rw[nbE_iff,hX]
      exact ⟨hlen,by rw[List.length_cons,runT_len],gg.fault,(back_ok ls _ _ T C C' gp1 hT12 r1 g' gg).1⟩
    ·rw[if_pos a4]at h;cases h
   ·rw[if_pos a3]at h;exact absurd h a3
  ·rw[if_pos a2]at h;exact absurd h a2
 ·rw[if_pos a1]at h;exact absurd h a1
def byAt (ls:List Ly) (L:List (Mx×Mx)):List (Mx×Mx):=L.foldl (fun y d=>gaX y (prtD ls d)) (zeroD ls)
def sumAt (ls:List Ly) (L:List (Mx×Mx)):Int:=L.foldl (fun s d=>ad s (prtX ls d)) 0
theorem byAt_snoc(ls:List Ly)(L:List (Mx×Mx))(d:Mx×Mx):byAt ls (L++[d])=gaX (byAt ls L) (prtD ls d):=by simp[byAt]
theorem sumAt_snoc(ls:List Ly)(L:List (Mx×Mx))(d:Mx×Mx):sumAt ls (L++[d])=ad (sumAt ls L) (prtX ls d):=by simp[sumAt]
theorem prt_fits{ls:List Ly}{d:Mx×Mx}(h:ls≠[]→nbE ls (ngX ls d.1) (prtG ls d)=0):Fits ls (prtD ls d):=by
 by_cases h0:ls=[]
 ·subst h0
  have:prtD [] d=[]:=by unfold prtD nbD;split<;>rfl
  rw[this];exact .nil
 ·exact nb_fits h0 (h h0)
theorem by_fits_from{ls:List Ly}:∀(L:List (Mx×Mx)) (y:List (Mx×Mx)),Fits ls y→(∀d∈L,Fits ls (prtD ls d))→Fits ls (L.foldl (fun y d=>gaX y (prtD ls d)) y)
 |[],_,hy,_=>hy
 |d::L,y,hy,h=>by_fits_from L (gaX y (prtD ls d)) (ga_fits hy (h d (by simp))).2 (fun e he=>h e (by simp[he]))
theorem by_fits{ls:List Ly}(hz:Fits ls (zeroD ls))(L:List (Mx×Mx))(h:∀d∈L,Fits ls (prtD ls d)):Fits ls (byAt ls L):=by_fits_from L _ hz h
theorem stt_good:∀{ls:List Ly} {ps:List (Mx×Mx)},ps.length=ls.length→sttE ls ps=0→∀l∈ls,q_ l.w=0∧q_ l.b=0
 |[],_,_,_,l,hl=>by simp at hl
 |l0::ls,[],h,_,_,_=>by simp at h
 |l0::ls,p::ps,h,he,l,hl=>by
  have he':(if stt1E l0 p≠0 then stt1E l0 p else sttE ls ps)=0:=he
  have h1:stt1E l0 p=0:=by
   by_cases h0:stt1E l0 p=0
   ·exact h0
   ·rw[if_pos h0]at he';exact he'
  rw[if_neg (by simp[h1])]at he'
  rcases List.mem_cons.1 hl with rfl|hl
  ·have hf:l_ l=0:=by
    unfold stt1E at h1
    by_cases h0:l_ l=0
    ·exact h0
    ·rw[if_pos h0]at h1;exact h1
   obtain ⟨_,_,fw,fb,_⟩:=lgood_of hf
   exact ⟨fw,fb⟩
  ·exact stt_good (by simpa using h) he' l hl
theorem state_good{ls:List Ly}{ps:List (Mx×Mx)}{n:Int}(h:stateE ls ps n=0):ls.length≤12∧ps.length=ls.length∧0≤n∧n≤1000000000∧sttE ls ps=0:=by
 unfold stateE at h
 by_cases a1:12<ls.length
 ·rw[if_pos a1]at h;cases h
 ·rw[if_neg a1]at h
  by_cases a2:ps.length=ls.length
  ·rw[if_neg (by simp[a2])]at h
   by_cases a3:n<0∨1000000000<n
   ·rw[if_pos a3]at h;cases h
   ·rw[if_neg a3]at h;exact ⟨by omega,a2,by omega,by omega,h⟩
  ·rw[if_pos a2]at h;cases h
def oneN (ls:List Ly) (ps:List (Mx×Mx)) (b:Mx×Mx) (parts le ke:Int):List Ly:=stpL le ke ls ps (byAt ls (splX b parts))
def oneV (ls:List Ly) (ps:List (Mx×Mx)) (b:Mx×Mx) (parts ke:Int):List (Mx×Mx):=stpG ke ls ps (byAt ls (splX b parts))
structure St where
 net:List Ly
 spd:List (Mx×Mx)
 n:Int
def noSt:St:=⟨[],[],0⟩
def nextE (s:St) (b:Mx×Mx) (parts le ke:Int):Int:=oneE s.net s.spd s.n b parts le ke
def nextS (s:St) (b:Mx×Mx) (parts le ke:Int):St:=⟨oneN s.net s.spd b parts le ke,oneV s.net s.spd b parts ke,s.n+1⟩
def nextK (s:St) (b:Mx×Mx) (parts:Int):Int:=sumAt s.net (splX b parts)
def stepS (s:St) (b:Mx×Mx) (parts le ke:Int):St:=if nextE s b parts le ke=0 then nextS s b parts le ke else noSt
def stepK (s:St) (b:Mx×Mx) (parts le ke:Int):Int:=if nextE s b parts le ke=0 then nextK s b parts else 0
end Go.Proofs.Ytniloklglpchfaf
