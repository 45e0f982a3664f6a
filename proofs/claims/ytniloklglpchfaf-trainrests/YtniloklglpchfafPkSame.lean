/- What Ints of package galleysame comes to: whether two lists of ints are the same. -/
import Derived.Test.YtniloklglpchfafRows
import Derived.WalkKit
import Derived.WalkSpells
import Derived.WalkLawsBesides
import Derived.Outline
import Derived.Deep.QuietTactic
import Derived.BigQuiet
import Derived.Test.YtniloklglpchfafPlain
namespace Go.Proofs.Ytniloklglpchfaf
open Go.RowKit
theorem eq_at(zs ys:List Int)(hl:zs.length=ys.length)(h:∀i,i<zs.length→zs[i]?=ys[i]?):zs=ys:=by
 apply List.ext_getElem?
 intro i
 by_cases hi:i<zs.length
 ·exact h i hi
 ·rw[List.getElem?_eq_none (by omega),List.getElem?_eq_none (by omega)]
def sameI (zs ys:List Int):Bool:=decide (zs=ys)
set_option maxHeartbeats 800000 in
set_option maxRecDepth 100000 in
theorem ints_any(v u:Value)(zs ys:List Int)(w:World)(hv:I_ w v zs)(hu:I_ w u ys):Calls Try.prog 11 #[v,u] w fun e w'=>e=.returned (.bool (sameI zs ys))∧∃n,w'=w.drewN n:=by
 have hlz:=hv.len
 have hly:=hu.len
 unfold maxLen at hlz hly
 obtain ⟨a,cap,rfl,h2,h3,h4⟩:=hv
 obtain ⟨a',cap',rfl,h2',h3',h4'⟩:=hu
 by_cases hl:zs.length=ys.length
 ·have hb:((zs.length:Int) !=(ys.length:Int))=false:=by rw[hl];simp
  have HL:=h_ hl
  obtain ⟨n,hn⟩:=gN (zs.length)
  have hn':ys.length=n:=by omega
  rw[hn,hn']at hb
  rw[hn]at hlz h2 ⊢
  rw[hn']at h2' ⊢
  have HN:=h_ hn
  have HN':=h_ hn'
  clear hn hn' hl hly
  go_enter Try.func11,Try.ntmps11
  go_wp2
  go_loopw [5] (fun i wr=>∃(k q:Nat),k≤n∧i=.int .i64 k∧wr=w.drewN q∧∀j,j<k→zs[j]?=ys[j]?) (fun i _=>n - (intOf i).toNat)
  case atStart=>exact ⟨0,0,Nat.zero_le _,rfl,rfl,fun j hj=>by omega⟩
  case round=>
   obtain ⟨k,q,hk,rfl,rfl,he⟩:=hrel
   have HE:=h_ he
   clear he
   by_cases hlt:k<n
   ·obtain ⟨x,hx⟩:∃x,zs[k]?=some x:=⟨zs[k]'(by have:=HN.out;omega),List.getElem?_eq_getElem _⟩
    obtain ⟨y,hy⟩:∃y,ys[k]?=some y:=⟨ys[k]'(by have:=HN'.out;omega),List.getElem?_eq_getElem _⟩
    obtain ⟨b,off,rfl,hc⟩:∃b off,a=some ⟨b,off,none⟩∧∀i x,zs[i]?=some x→w.cell? ⟨b,off+i,none⟩=some (.int .i64 x):=h4.resolve_left (fun e=>by rw[e]at hx;simp at hx)
    obtain ⟨b',off',rfl,hc'⟩:∃b off,a'=some ⟨b,off,none⟩∧∀i x,ys[i]?=some x→w.cell? ⟨b,off+i,none⟩=some (.int .i64 x):=h4'.resolve_left (fun e=>by rw[e]at hy;simp at hy)
    have c1:=hc k x hx
    have c2:=hc' k y hy
    have HX:=h_ hx
    have HY:=h_ hy
    have hlt':(k:Int)<(n:Int):=by omega
    clear h4 h4' hc hc' hx hy
    by_cases hxy:x=y
    ·have ht:(x !=y)=false:=by simp[hxy]
     have HXY:=h_ hxy
     clear hxy
     go_wp2
     go_quiet (fail)
     go_wp2
     exact ⟨⟨k+1,_,by omega,by go_num,rfl,fun j hj=>by
      rcases Nat.lt_or_ge j k with h|h
      ·exact HE.out j h
      ·rw[show j=k by omega,HX.out,HY.out,HXY.out]⟩,by simp[intOf];omega⟩
    ·have ht:(x !=y)=true:=by simp[hxy]
     have HXY:=h_ hxy
     clear hxy
     go_wp2
     go_quiet (fail)
     go_wp2
     go_ret
     exact ⟨ret_bool (by unfold sameI;rw[eq_comm,decide_eq_false_iff_not];exact fun e=>HXY.out (Option.some.inj (by rw[←HX.out,←HY.out,e]))),_,World.drewN_drewN _ _ _⟩
   ·go_wp2
    go_ret
    exact ⟨ret_bool (by unfold sameI;rw[eq_comm,decide_eq_true_iff];exact eq_at zs ys HL.out (fun i hi=>HE.out i (by have:=HN.out;omega))),_,rfl⟩
 ·have hb:((zs.length:Int) !=(ys.length:Int))=true:=by rw[bne_iff_ne];omega
  go_enter Try.func11,Try.ntmps11
  go_wp2
  go_ret
  exact ⟨ret_bool (by unfold sameI;rw[eq_comm,decide_eq_false_iff_not];exact fun e=>hl (by rw[e])),0,rfl⟩
def sameM (m k:Mx):Bool:=decide (m.rows=k.rows∧m.cols=k.cols∧m.cells=k.cells)
theorem sameM_no{m k:Mx}(h:¬(m.rows=k.rows∧m.cols=k.cols)):false=sameM m k:=by
 unfold sameM;rw[eq_comm,decide_eq_false_iff_not];exact fun e=>h ⟨e.1,e.2.1⟩
theorem sameM_yes{m k:Mx}(h1:m.rows=k.rows)(h2:m.cols=k.cols):sameI m.cells k.cells=sameM m k:=by
 unfold sameM sameI;rw[decide_eq_decide];exact ⟨fun h=>⟨h1,h2,h⟩,fun h=>h.2.2⟩
set_option maxHeartbeats 800000 in
theorem matrices_any(v u:Value)(m k:Mx)(w:World)(hv:M_ w v m)(hu:M_ w u k):Calls Try.prog 21 #[v,u] w fun e w'=>e=.returned (.bool (sameM m k))∧Below w.heap.size w w':=by
 obtain ⟨s,rfl,hs⟩:=hv
 obtain ⟨t,rfl,ht⟩:=hu
 have bb:Below w.heap.size w ((w.alloc (.cells #[.int .i64 m.rows,.int .i64 m.cols,s] 28)).alloc (.cells #[.int .i64 k.rows,.int .i64 k.cols,t] 28)):=((Below.refl _ _).alloc (Nat.le_refl _) _).alloc (by simp) _
 have hs2:=hs.u_ bb
 have ht2:=ht.u_ bb
 by_cases h1:m.rows=k.rows
 ·have g1:(m.rows !=k.rows)=false:=by simp[h1]
  by_cases h2:m.cols=k.cols
  ·have g2:(m.cols !=k.cols)=false:=by simp[h2]
   have HE:=h_ (sameM_yes h1 h2)
   clear h1 h2
   go_enter Try.func21,Try.ntmps21
   go_wp2_with fail
   refine (ints_any _ _ _ _ _ hs2 ht2).mono ?_
   rintro e w' ⟨rfl,n,rfl⟩
   go_wp2
   go_ret
   exact ⟨ret_bool HE.out,bb.trans ((below_drewN _ _).mono bb.size)⟩
  ·have g2:(m.cols !=k.cols)=true:=by simp[h2]
   have HE:=h_ (sameM_no (m:=m) (k:=k) (fun e=>h2 e.2))
   clear h1 h2
   go_enter Try.func21,Try.ntmps21
   go_wp2
   go_ret
   exact ⟨ret_bool HE.out,bb⟩
 ·have g1:(m.rows !=k.rows)=true:=by simp[h1]
  have HE:=h_ (sameM_no (m:=m) (k:=k) (fun e=>h1 e.1))
  clear h1
  go_enter Try.func21,Try.ntmps21
  go_wp2
  go_ret
  exact ⟨ret_bool HE.out,bb⟩
def inEnds (x:Int):Bool:=decide (-2147483647≤x)&&decide (x≤2147483647)
def okSides (m:Mx):Bool:=decide (0≤m.rows)&&decide (m.rows≤24)&&decide (0≤m.cols)&&decide (m.cols≤12)
def q_ (m:Mx):Int:=if okSides m=false then 1 else if (m.cells.length:Int)≠m.rows*m.cols then 2 else if m.cells.all inEnds=false then 1 else 0
theorem fault_side{m:Mx}(h:m.rows<0∨24<m.rows∨m.cols<0∨12<m.cols):1=q_ m:=by
 unfold q_;rw[if_pos (by simp[okSides];omega)]
theorem fault_in{m:Mx}(h:0≤m.rows∧m.rows≤24∧0≤m.cols∧m.cols≤12):okSides m=true:=by simp[okSides];omega
theorem fault_len{m:Mx}(h:okSides m=true)(hl:(m.cells.length:Int)≠m.rows*m.cols):2=q_ m:=by
 unfold q_;rw[if_neg (by simp[h]),if_pos hl]
theorem fault_cell{m:Mx}(h:okSides m=true)(hl:(m.cells.length:Int)=m.rows*m.cols)(hc:m.cells.all inEnds=false):1=q_ m:=by
 unfold q_;rw[if_neg (by simp[h]),if_neg (by simp[hl]),if_pos hc]
theorem fault_none{m:Mx}(h:okSides m=true)(hl:(m.cells.length:Int)=m.rows*m.cols)(hc:m.cells.all inEnds=true):0=q_ m:=by
 unfold q_;rw[if_neg (by simp[h]),if_neg (by simp[hl]),if_neg (by simp[hc])]
theorem all_no{zs:List Int}{k:Nat}{x:Int}(h:zs[k]?=some x)(hx:inEnds x=false):zs.all inEnds=false:=by
 rw[List.all_eq_false];exact ⟨x,List.mem_of_getElem? h,by simp[hx]⟩
theorem all_yes{zs:List Int}(h:∀k x,k<zs.length→zs[k]?=some x→inEnds x=true):zs.all inEnds=true:=by
 rw[List.all_eq_true];intro x hx
 obtain ⟨k,hk,rfl⟩:=List.getElem_of_mem hx
 exact h k _ hk (List.getElem?_eq_getElem hk)
theorem rc_bd(r c:Int)(h:0≤r∧r≤24∧0≤c∧c≤12):0≤r*c∧r*c≤288:=by
 refine ⟨Int.mul_nonneg h.1 h.2.2.1,?_⟩
 have h1:r*c≤24*c:=Int.mul_le_mul_of_nonneg_right h.2.1 h.2.2.1
 omega
set_option maxHeartbeats 400000 in
theorem clamp_any(x:Int)(w:World):Calls Try.prog 62 #[.int .i64 x] w fun e w'=>e=.returned (.int .i64 (cl x))∧w'=w:=by
 by_cases h1:x < -2147483647
 ·rw[cl_lo x h1]
  go_enter Try.func62,Try.ntmps62
  go_wp2
  go_ret
  exact ⟨rfl,rfl⟩
 ·by_cases h2:2147483647<x
  ·rw[cl_hi x h2]
   go_enter Try.func62,Try.ntmps62
   go_wp2
   go_ret
   exact ⟨rfl,rfl⟩
  ·rw[cl_in x (by omega) (by omega)]
   go_enter Try.func62,Try.ntmps62
   go_wp2
   all_goals
    go_ret
    exact ⟨i_ (by omega),rfl⟩
set_option maxHeartbeats 400000 in
theorem add_any(a b:Int)(w:World):Calls Try.prog 40 #[.int .i64 a,.int .i64 b] w fun e w'=>e=.returned (.int .i64 (ad a b))∧w'=w:=by
 have ha:=cl_bd a
 have hb:=cl_bd b
 unfold ad
 go_enter Try.func40,Try.ntmps40
 go_wp2_with (go_at_call 62;refine (clamp_any _ _).mono ?_;rintro e w' ⟨rfl,rfl⟩)
 go_ret
 exact ⟨rfl,rfl⟩
set_option maxHeartbeats 400000 in
theorem sub_any(a b:Int)(w:World):Calls Try.prog 68 #[.int .i64 a,.int .i64 b] w fun e w'=>e=.returned (.int .i64 (sb a b))∧w'=w:=by
 have ha:=cl_bd a
 have hb:=cl_bd b
 unfold sb
 go_enter Try.func68,Try.ntmps68
 go_wp2_with (go_at_call 62;refine (clamp_any _ _).mono ?_;rintro e w' ⟨rfl,rfl⟩)
 go_ret
 exact ⟨rfl,rfl⟩
set_option maxHeartbeats 400000 in
theorem down_any(x:Int)(w:World)(h0:-4611686014132420609≤x)(h1:x≤4611686014132420609):Calls Try.prog 77 #[.int .i64 x,.int .i64 256] w fun e w'=>e=.returned (.int .i64 (x / 256))∧w'=w:=by
 go_enter Try.func77,Try.ntmps77
 go_wp2
 ·go_ret
  exact ⟨i_ (down_lo x h0 h1 (by assumption)),rfl⟩
 ·go_ret
  exact ⟨i_ (down_up x (by assumption)),rfl⟩
set_option maxHeartbeats 400000 in
theorem mul_any(a b:Int)(w:World):Calls Try.prog 65 #[.int .i64 a,.int .i64 b] w fun e w'=>e=.returned (.int .i64 (ml a b))∧w'=w:=by
 have ha:=cl_bd a
 have hb:=cl_bd b
 have hm:=mul_bd a b
 unfold ml
 go_enter Try.func65,Try.ntmps65
 go_wp2_with (first|(go_at_call 62;refine (clamp_any _ _).mono ?_;rintro e w' ⟨rfl,rfl⟩)|(go_at_call 77;refine (down_any _ _ (by omega) (by omega)).mono ?_;rintro e w' ⟨rfl,rfl⟩))
 go_ret
 exact ⟨rfl,rfl⟩
def errV (k:Int):Value:=if k=0 then .nilIface else .iface 65 (.int .i64 k)
theorem R_{k:Int}{v:Value}(h:v=errV k):Ending.returned v=.returned (errV k):=by rw[h]
theorem err_of{k j:Int}(h:j=k)(hj:j≠0):Value.iface 65 (.int .i64 j)=errV k:=by subst h;unfold errV;rw[if_neg hj]
theorem err_no{k:Int}(h:0=k):Value.nilIface=errV k:=by subst h;rfl
theorem ends_iff(x:Int):inEnds x=true↔-2147483647≤x∧x≤2147483647:=by simp[inEnds]
theorem cl_same{x:Int}(h:inEnds x=true):(x !=cl x)=false:=by
 rw[ends_iff]at h;rw[cl_in x h.1 h.2];simp
theorem cl_off{x:Int}(h:inEnds x=false):(x !=cl x)=true:=by
 have h':¬(-2147483647≤x∧x≤2147483647):=fun e=>by rw[(ends_iff x).2 e]at h;cases h
 rw[bne_iff_ne]
 have:=cl_bd x
 omega
set_option maxHeartbeats 1600000 in
set_option maxRecDepth 100000 in
theorem C_(v:Value)(m:Mx)(w:World)(hv:M_ w v m):Calls Try.prog 53 #[v] w fun e w'=>e=.returned (errV (q_ m))∧Below w.heap.size w w':=by
 obtain ⟨s,rfl,hs⟩:=hv
 obtain ⟨r,hr⟩:=gN (m.rows)
 obtain ⟨c,hc⟩:=gN (m.cols)
 have hlen:=hs.len
 unfold maxLen at hlen
 rw[hr,hc]
 by_cases hside:r<0∨24<r∨c<0∨12<c
 ·have HF:=h_ (err_of (fault_side (m:=m) (by rw[hr,hc];exact hside)) (by decide))
  clear hs hr hc
  by_cases c1:r<0
  ·clear hside
   go_enter Try.func53,Try.ntmps53
   go_wp2
   go_ret
   exact ⟨R_ HF.out,o_ _ _⟩
  ·by_cases c2:24<r
   ·clear hside
    go_enter Try.func53,Try.ntmps53
    go_wp2
    go_ret
    exact ⟨R_ HF.out,o_ _ _⟩
   ·by_cases c3:c<0
    ·clear hside
     go_enter Try.func53,Try.ntmps53
     go_wp2
     go_ret
     exact ⟨R_ HF.out,o_ _ _⟩
    ·have c4:12<c:=by omega
     clear hside
     go_enter Try.func53,Try.ntmps53
     go_wp2
     go_ret
     exact ⟨R_ HF.out,o_ _ _⟩
 ·have c1:0≤r:=by omega
  have c2:r≤24:=by omega
  have c3:0≤c:=by omega
  have c4:c≤12:=by omega
  have hbd:=rc_bd r c ⟨c1,c2,c3,c4⟩
  have hok:=fault_in (m:=m) (by rw[hr,hc];exact ⟨c1,c2,c3,c4⟩)
  clear hside
  obtain ⟨a,cap,rfl,h2,h3,h4⟩:=hs
  obtain ⟨n,hn⟩:=gN (m.cells.length)
  rw[hn]at h2 hlen ⊢
  by_cases hl:(n:Int)=r*c
  ·have g1:((n:Int) !=r*c)=false:=by simp[hl]
   have HL:=h_ (show (m.cells.length:Int)=m.rows*m.cols by rw[hn,hr,hc];exact hl)
   have HN:=h_ hn
   have HO:=h_ hok
   have H4:=h_ h4
   have hn288:n≤288:=by omega
   clear hok hl hn hr hc h4
   go_enter Try.func53,Try.ntmps53
   go_wp2
   go_loop [37] (fun i=>∃k:Nat,k≤n∧i=.int .i64 k∧∀j x,j<k→m.cells[j]?=some x→inEnds x=true) (fun i=>n - (intOf i).toNat)
   case atStart=>exact ⟨0,Nat.zero_le _,rfl,fun j x hj _=>by omega⟩
   case round=>
    obtain ⟨k,hk,rfl,he⟩:=hrel
    have HE:=h_ he
    clear he
    by_cases hlt:k<n
    ·obtain ⟨x,hx⟩:∃x,m.cells[k]?=some x:=⟨m.cells[k]'(by have:=HN.out;omega),List.getElem?_eq_getElem _⟩
     obtain ⟨b,off,rfl,hcl⟩:=H4.out.resolve_left (fun e=>by rw[e]at hx;simp at hx)
     have cx:=fun o=>p_ (hcl k x hx) o
     have HX:=h_ hx
     have hlt':(k:Int)<(n:Int):=by omega
     clear hcl hx
     cases hin:inEnds x with
     |false=>
      have hb:=cl_off hin
      have HI:=h_ hin
      clear hin
      go_wp2_with (go_at_call 62;refine (clamp_any _ _).mono ?_;rintro e w' ⟨rfl,rfl⟩)
      go_ret
      exact ⟨R_ (err_of (fault_cell HO.out HL.out (all_no HX.out HI.out)) (by decide)),o_ _ _⟩
     |true=>
      have hb:=cl_same hin
      have HI:=h_ hin
      clear hin
      go_wp2_with (go_at_call 62;refine (clamp_any _ _).mono ?_;rintro e w' ⟨rfl,rfl⟩)
      go_round
      case rel=>exact ⟨k+1,by omega,by go_num,fun j y hj hy=>by
       rcases Nat.lt_or_ge j k with h|h
       ·exact HE.out j y h hy
       ·have e:y=x:=Option.some.inj (by rw[←hy,show j=k by omega,HX.out])
        rw[e];exact HI.out⟩
      case measure=>simp[intOf];omega
    ·go_wp2
     go_ret
     exact ⟨R_ (err_no (fault_none HO.out HL.out (all_yes fun j x hj hx=>HE.out j x (by have:=HN.out;omega) hx))),o_ _ _⟩
  ·have g1:((n:Int) !=r*c)=true:=by simp[hl]
   have HF:=h_ (err_of (fault_len hok (by rw[hn,hr,hc];exact hl)) (by decide))
   clear hl hok h4 hn hr hc
   go_enter Try.func53,Try.ntmps53
   go_wp2
   go_ret
   exact ⟨R_ HF.out,o_ _ _⟩
end Go.Proofs.Ytniloklglpchfaf
