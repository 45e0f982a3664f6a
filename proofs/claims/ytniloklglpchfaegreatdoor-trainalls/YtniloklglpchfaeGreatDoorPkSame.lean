/- What Ints of package galleysame comes to: whether two lists of ints are the same. -/
import Derived.Test.YtniloklglpchfaeGreatDoorRows
import Derived.WalkKit
import Derived.WalkSpells
import Derived.WalkLawsBesides
import Derived.Outline
import Derived.Deep.QuietTactic
import Derived.BigQuiet
import Derived.Test.YtniloklglpchfaeGreatDoorPlain
import Derived.StillTailTactics
namespace Go.Proofs.YtniloklglpchfaeGreatDoor
open Go.RowKit
theorem eq_at(zs ys:List Int)(hl:zs.length=ys.length)(h:∀i,i<zs.length->zs[i]?=ys[i]?):zs=ys:=by
 apply List.ext_getElem?
 intro i
 by_cases hi:i<zs.length
 ·exact h i hi
 ·rw[List.getElem?_eq_none (by omega),List.getElem?_eq_none (by omega)]
def sameI (zs ys:List Int):Bool:=decide (zs=ys)
set_option maxHeartbeats 800000 in
set_option maxRecDepth 100000 in
theorem ints_any(v u:Value)(zs ys:List Int)(w:World)(hv:I_ w v zs)(hu:I_ w u ys):Calls Tryz.prog 13 #[v,u] w fun e w'=>e=.returned (.bool (sameI zs ys))/\∃n,w'=w.drewN n:=by
 have hlz:=hv.len
 have hly:=hu.len
 unfold maxLen at hlz hly
 obtain ⟨a,cap,rfl,h2,h3,h4⟩:=hv
 obtain ⟨a',cap',rfl,h2',h3',h4'⟩:=hu
 by_cases hl:zs.length=ys.length
 ·have hb:((zs.length:Int) !=(ys.length:Int))=false:=by rw[hl];simp
  have HL:=h_ hl
  obtain ⟨n,hn⟩:=gN (zs.length)
  have hn':ys.length=n:=by omega
  rw[hn,hn']at hb
  rw[hn]at hlz h2 ⊢
  rw[hn']at h2' ⊢
  have HN:=h_ hn
  have HN':=h_ hn'
  clear hn hn' hl hly
  go_enter Tryz.func13,Tryz.ntmps13
  go_wp2
  go_loopw [5] (fun i wr=>∃(k q:Nat),k<=n/\i=.int .i64 k/\wr=w.drewN q/\∀j,j<k->zs[j]?=ys[j]?) (fun i _=>n - (intOf i).toNat)
  case atStart=>exact ⟨0,0,Nat.zero_le _,rfl,rfl,fun j hj=>by omega⟩
  case round=>
   obtain ⟨k,q,hk,rfl,rfl,he⟩:=hrel
   have HE:=h_ he
   clear he
   by_cases hlt:k<n
   ·obtain ⟨x,hx⟩:∃x,zs[k]?=some x:=⟨zs[k]'(by have:=HN.out;omega),List.getElem?_eq_getElem _⟩
    obtain ⟨y,hy⟩:∃y,ys[k]?=some y:=⟨ys[k]'(by have:=HN'.out;omega),List.getElem?_eq_getElem _⟩
    obtain ⟨b,off,rfl,hc⟩:∃b off,a=some ⟨b,off,none⟩/\∀i x,zs[i]?=some x->w.cell? ⟨b,off+i,none⟩=some (.int .i64 x):=h4.resolve_left (fun e=>by rw[e]at hx;simp at hx)
    obtain ⟨b',off',rfl,hc'⟩:∃b off,a'=some ⟨b,off,none⟩/\∀i x,ys[i]?=some x->w.cell? ⟨b,off+i,none⟩=some (.int .i64 x):=h4'.resolve_left (fun e=>by rw[e]at hy;simp at hy)
    have c1:=hc k x hx
    have c2:=hc' k y hy
    have HX:=h_ hx
    have HY:=h_ hy
    have hlt':(k:Int)<(n:Int):=by omega
    clear h4 h4' hc hc' hx hy
    by_cases hxy:x=y
    ·have ht:(x !=y)=false:=by simp[hxy]
     have HXY:=h_ hxy
     clear hxy
     go_wp2
     go_quiet (fail)
     go_wp2
     exact ⟨⟨k+1,_,by omega,by go_num,rfl,fun j hj=>by
      rcases Nat.lt_or_ge j k with h|h
      ·exact HE.out j h
      ·rw[show j=k by omega,HX.out,HY.out,HXY.out]⟩,by simp[intOf];omega⟩
    ·have ht:(x !=y)=true:=by simp[hxy]
     have HXY:=h_ hxy
     clear hxy
     go_wp2
     go_quiet (fail)
     go_wp2
     go_ret
     exact ⟨ret_bool (by unfold sameI;rw[eq_comm,decide_eq_false_iff_not];exact fun e=>HXY.out (Option.some.inj (by rw[<-HX.out,<-HY.out,e]))),_,World.drewN_drewN _ _ _⟩
   ·go_wp2
    go_ret
    exact ⟨ret_bool (by unfold sameI;rw[eq_comm,decide_eq_true_iff];exact eq_at zs ys HL.out (fun i hi=>HE.out i (by have:=HN.out;omega))),_,rfl⟩
 ·have hb:((zs.length:Int) !=(ys.length:Int))=true:=by rw[bne_iff_ne];omega
  go_enter Tryz.func13,Tryz.ntmps13
  go_wp2
  go_ret
  exact ⟨ret_bool (by unfold sameI;rw[eq_comm,decide_eq_false_iff_not];exact fun e=>hl (by rw[e])),0,rfl⟩
def sameM (m k:Mx):Bool:=decide (m.rows=k.rows/\m.cols=k.cols/\m.cells=k.cells)
theorem sameM_no{m k:Mx}(h:¬(m.rows=k.rows/\m.cols=k.cols)):false=sameM m k:=by
 unfold sameM;rw[eq_comm,decide_eq_false_iff_not];exact fun e=>h ⟨e.1,e.2.1⟩
theorem sameM_yes{m k:Mx}(h1:m.rows=k.rows)(h2:m.cols=k.cols):sameI m.cells k.cells=sameM m k:=by
 unfold sameM sameI;rw[decide_eq_decide];exact ⟨fun h=>⟨h1,h2,h⟩,fun h=>h.2.2⟩
set_option maxHeartbeats 800000 in
theorem matrices_any(v u:Value)(m k:Mx)(w:World)(hv:M_ w v m)(hu:M_ w u k):Calls Tryz.prog 35 #[v,u] w fun e w'=>e=.returned (.bool (sameM m k))/\Below w.heap.size w w':=by
 obtain ⟨s,rfl,hs⟩:=hv
 obtain ⟨t,rfl,ht⟩:=hu
 have bb:Below w.heap.size w ((w.alloc (.cells #[.int .i64 m.rows,.int .i64 m.cols,s] 28)).alloc (.cells #[.int .i64 k.rows,.int .i64 k.cols,t] 28)):=((Below.refl _ _).alloc (Nat.le_refl _) _).alloc (by simp) _
 have hs2:=hs.u_ bb
 have ht2:=ht.u_ bb
 by_cases h1:m.rows=k.rows
 ·have g1:(m.rows !=k.rows)=false:=by simp[h1]
  by_cases h2:m.cols=k.cols
  ·have g2:(m.cols !=k.cols)=false:=by simp[h2]
   have HE:=h_ (sameM_yes h1 h2)
   clear h1 h2
   go_enter Tryz.func35,Tryz.ntmps35
   go_wp2_with fail
   refine (ints_any _ _ _ _ _ hs2 ht2).mono ?_
   rintro e w' ⟨rfl,n,rfl⟩
   go_wp2
   go_ret
   exact ⟨ret_bool HE.out,bb.trans ((below_drewN _ _).mono bb.size)⟩
  ·have g2:(m.cols !=k.cols)=true:=by simp[h2]
   have HE:=h_ (sameM_no (m:=m) (k:=k) (fun e=>h2 e.2))
   clear h1 h2
   go_enter Tryz.func35,Tryz.ntmps35
   go_wp2
   go_ret
   exact ⟨ret_bool HE.out,bb⟩
 ·have g1:(m.rows !=k.rows)=true:=by simp[h1]
  have HE:=h_ (sameM_no (m:=m) (k:=k) (fun e=>h1 e.1))
  clear h1
  go_enter Tryz.func35,Tryz.ntmps35
  go_wp2
  go_ret
  exact ⟨ret_bool HE.out,bb⟩
def inEnds (x:Int):Bool:=decide (-2147483647<=x)&&decide (x<=2147483647)
def okSides (m:Mx):Bool:=decide (0<=m.rows)&&decide (m.rows<=24)&&decide (0<=m.cols)&&decide (m.cols<=12)
def q_ (m:Mx):Int:=if okSides m=false then 1 else if (m.cells.length:Int)≠m.rows*m.cols then 2 else if m.cells.all inEnds=false then 1 else 0
theorem fault_side{m:Mx}(h:m.rows<0\/24<m.rows\/m.cols<0\/12<m.cols):1=q_ m:=by
 unfold q_;rw[if_pos (by simp[okSides];omega)]
theorem fault_in{m:Mx}(h:0<=m.rows/\m.rows<=24/\0<=m.cols/\m.cols<=12):okSides m=true:=by simp[okSides];omega
theorem fault_len{m:Mx}(h:okSides m=true)(hl:(m.cells.length:Int)≠m.rows*m.cols):2=q_ m:=by
 unfold q_;rw[if_neg (by simp[h]),if_pos hl]
theorem fault_cell{m:Mx}(h:okSides m=true)(hl:(m.cells.length:Int)=m.rows*m.cols)(hc:m.cells.all inEnds=false):1=q_ m:=by
 unfold q_;rw[if_neg (by simp[h]),if_neg (by simp[hl]),if_pos hc]
theorem fault_none{m:Mx}(h:okSides m=true)(hl:(m.cells.length:Int)=m.rows*m.cols)(hc:m.cells.all inEnds=true):0=q_ m:=by
 unfold q_;rw[if_neg (by simp[h]),if_neg (by simp[hl]),if_neg (by simp[hc])]
theorem all_no{zs:List Int}{k:Nat}{x:Int}(h:zs[k]?=some x)(hx:inEnds x=false):zs.all inEnds=false:=by
 rw[List.all_eq_false];exact ⟨x,List.mem_of_getElem? h,by simp[hx]⟩
theorem all_yes{zs:List Int}(h:∀k x,k<zs.length->zs[k]?=some x->inEnds x=true):zs.all inEnds=true:=by
 rw[List.all_eq_true];intro x hx
 obtain ⟨k,hk,rfl⟩:=List.getElem_of_mem hx
 exact h k _ hk (List.getElem?_eq_getElem hk)
theorem rc_bd(r c:Int)(h:0<=r/\r<=24/\0<=c/\c<=12):0<=r*c/\r*c<=288:=by
 refine ⟨Int.mul_nonneg h.1 h.2.2.1,?_⟩
 have h1:r*c<=24*c:=Int.mul_le_mul_of_nonneg_right h.2.1 h.2.2.1
 omega
set_option maxHeartbeats 1600000 in
set_option maxRecDepth 100000 in
theorem fault_any(v:Value)(m:Mx)(w:World)(hv:M_ w v m):Calls Tryz.prog 19 #[v] w fun e w'=>e=.returned (.int .i64 (q_ m))/\Below w.heap.size w w':=by
 obtain ⟨s,rfl,hs⟩:=hv
 obtain ⟨r,hr⟩:=gN (m.rows)
 obtain ⟨c,hc⟩:=gN (m.cols)
 have hlen:=hs.len
 unfold maxLen at hlen
 rw[hr,hc]
 by_cases hside:r<0\/24<r\/c<0\/12<c
 ·have HF:=h_ (fault_side (m:=m) (by rw[hr,hc];exact hside))
  clear hs hr hc
  by_cases c1:r<0
  ·clear hside
   go_enter Tryz.func19,Tryz.ntmps19
   go_wp2
   go_ret
   exact ⟨i_ HF.out,o_ _ _⟩
  ·by_cases c2:24<r
   ·clear hside
    go_enter Tryz.func19,Tryz.ntmps19
    go_wp2
    go_ret
    exact ⟨i_ HF.out,o_ _ _⟩
   ·by_cases c3:c<0
    ·clear hside
     go_enter Tryz.func19,Tryz.ntmps19
     go_wp2
     go_ret
     exact ⟨i_ HF.out,o_ _ _⟩
    ·have c4:12<c:=by omega
     clear hside
     go_enter Tryz.func19,Tryz.ntmps19
     go_wp2
     go_ret
     exact ⟨i_ HF.out,o_ _ _⟩
 ·have c1:0<=r:=by omega
  have c2:r<=24:=by omega
  have c3:0<=c:=by omega
  have c4:c<=12:=by omega
  have hbd:=rc_bd r c ⟨c1,c2,c3,c4⟩
  have hok:=fault_in (m:=m) (by rw[hr,hc];exact ⟨c1,c2,c3,c4⟩)
  clear hside
  obtain ⟨a,cap,rfl,h2,h3,h4⟩:=hs
  obtain ⟨n,hn⟩:=gN (m.cells.length)
  rw[hn]at h2 hlen ⊢
  by_cases hl:(n:Int)=r*c
  ·have g1:((n:Int) !=r*c)=false:=by simp[hl]
   have HL:=h_ (show (m.cells.length:Int)=m.rows*m.cols by rw[hn,hr,hc];exact hl)
   have HN:=h_ hn
   have HO:=h_ hok
   have H4:=h_ h4
   have hn288:n<=288:=by omega
   clear hok hl hn hr hc h4
   go_enter Tryz.func19,Tryz.ntmps19
   go_wp2
   go_loop [3] (fun i=>∃k:Nat,k<=n/\i=.int .i64 k/\∀j x,j<k->m.cells[j]?=some x->inEnds x=true) (fun i=>n - (intOf i).toNat)
   case atStart=>exact ⟨0,Nat.zero_le _,rfl,fun j x hj _=>by omega⟩
   case round=>
    obtain ⟨k,hk,rfl,he⟩:=hrel
    have HE:=h_ he
    clear he
    by_cases hlt:k<n
    ·obtain ⟨x,hx⟩:∃x,m.cells[k]?=some x:=⟨m.cells[k]'(by have:=HN.out;omega),List.getElem?_eq_getElem _⟩
     obtain ⟨b,off,rfl,hcl⟩:=H4.out.resolve_left (fun e=>by rw[e]at hx;simp at hx)
     have cx:=fun o=>p_ (hcl k x hx) o
     have HX:=h_ hx
     have hlt':(k:Int)<(n:Int):=by omega
     clear hcl hx
     go_wp2
     ·have hb:inEnds x=false:=by
       have:x < -2147483647\/2147483647<x:=by assumption
       simp[inEnds];omega
      go_ret
      exact ⟨i_ (fault_cell HO.out HL.out (all_no HX.out hb)),o_ _ _⟩
     ·go_round
      case rel=>exact ⟨k+1,by omega,by go_num,fun j y hj hy=>by
       rcases Nat.lt_or_ge j k with h|h
       ·exact HE.out j y h hy
       ·have e:y=x:=Option.some.inj (by rw[<-hy,show j=k by omega,HX.out])
        have:-2147483647<=x/\x<=2147483647:=by assumption
        rw[e];simp[inEnds];omega⟩
      case measure=>simp[intOf];omega
     ·have hb:inEnds x=false:=by
       have:x < -2147483647:=by assumption
       simp[inEnds];omega
      go_ret
      exact ⟨i_ (fault_cell HO.out HL.out (all_no HX.out hb)),o_ _ _⟩
    ·go_wp2
     go_ret
     exact ⟨i_ (fault_none HO.out HL.out (all_yes fun j x hj hx=>HE.out j x (by have:=HN.out;omega) hx)),o_ _ _⟩
  ·have g1:((n:Int) !=r*c)=true:=by simp[hl]
   have HF:=h_ (fault_len hok (by rw[hn,hr,hc];exact hl))
   clear hl hok h4 hn hr hc
   go_enter Tryz.func19,Tryz.ntmps19
   go_wp2
   go_ret
   exact ⟨i_ HF.out,o_ _ _⟩
set_option maxHeartbeats 400000 in
theorem clamp_any(x:Int)(w:World):Calls Tryz.prog 67 #[.int .i64 x] w fun e w'=>e=.returned (.int .i64 (cl x))/\w'=w:=by
 by_cases h1:x < -2147483647
 ·rw[cl_lo x h1]
  go_enter Tryz.func67,Tryz.ntmps67
  go_wp2
  go_ret
  exact ⟨rfl,rfl⟩
 ·by_cases h2:2147483647<x
  ·rw[cl_hi x h2]
   go_enter Tryz.func67,Tryz.ntmps67
   go_wp2
   go_ret
   exact ⟨rfl,rfl⟩
  ·rw[cl_in x (by omega) (by omega)]
   go_enter Tryz.func67,Tryz.ntmps67
   go_wp2
   all_goals
    go_ret
    exact ⟨i_ (by omega),rfl⟩
set_option maxHeartbeats 400000 in
theorem add_any(a b:Int)(w:World):Calls Tryz.prog 49 #[.int .i64 a,.int .i64 b] w fun e w'=>e=.returned (.int .i64 (ad a b))/\w'=w:=by
 have ha:=cl_bd a
 have hb:=cl_bd b
 unfold ad
 go_enter Tryz.func49,Tryz.ntmps49
 go_wp2_with (go_at_call 67;refine (clamp_any _ _).mono ?_;rintro e w' ⟨rfl,rfl⟩)
 go_ret
 exact ⟨rfl,rfl⟩
set_option maxHeartbeats 400000 in
theorem sub_any(a b:Int)(w:World):Calls Tryz.prog 83 #[.int .i64 a,.int .i64 b] w fun e w'=>e=.returned (.int .i64 (sb a b))/\w'=w:=by
 have ha:=cl_bd a
 have hb:=cl_bd b
 unfold sb
 go_enter Tryz.func83,Tryz.ntmps83
 go_wp2_with (go_at_call 67;refine (clamp_any _ _).mono ?_;rintro e w' ⟨rfl,rfl⟩)
 go_ret
 exact ⟨rfl,rfl⟩
set_option maxHeartbeats 400000 in
theorem down_any(x:Int)(w:World)(h0:-4611686014132420609<=x)(h1:x<=4611686014132420609):Calls Tryz.prog 110 #[.int .i64 x,.int .i64 256] w fun e w'=>e=.returned (.int .i64 (x / 256))/\w'=w:=by
 go_enter Tryz.func110,Tryz.ntmps110
 go_wp2
 ·go_ret
  exact ⟨i_ (down_lo x h0 h1 (by assumption)),rfl⟩
 ·go_ret
  exact ⟨i_ (down_up x (by assumption)),rfl⟩
set_option maxHeartbeats 400000 in
theorem mul_any(a b:Int)(w:World):Calls Tryz.prog 80 #[.int .i64 a,.int .i64 b] w fun e w'=>e=.returned (.int .i64 (ml a b))/\w'=w:=by
 have ha:=cl_bd a
 have hb:=cl_bd b
 have hm:=mul_bd a b
 unfold ml
 go_enter Tryz.func80,Tryz.ntmps80
 go_wp2_with (first|(go_at_call 67;refine (clamp_any _ _).mono ?_;rintro e w' ⟨rfl,rfl⟩)|(go_at_call 110;refine (down_any _ _ (by omega) (by omega)).mono ?_;rintro e w' ⟨rfl,rfl⟩))
 go_ret
 exact ⟨rfl,rfl⟩
def errV (k:Int):Value:=if k=0 then .nilIface else .iface 33 (.int .i64 k)
theorem R_{k:Int}{v:Value}(h:v=errV k):Ending.returned v=.returned (errV k):=by rw[h]
theorem err_of{k j:Int}(h:j=k)(hj:j≠0):Value.iface 33 (.int .i64 j)=errV k:=by subst h;unfold errV;rw[if_neg hj]
theorem err_no{k:Int}(h:0=k):Value.nilIface=errV k:=by subst h;rfl
theorem ends_iff(x:Int):inEnds x=true↔-2147483647<=x/\x<=2147483647:=by simp[inEnds]
theorem cl_same{x:Int}(h:inEnds x=true):(x !=cl x)=false:=by
 rw[ends_iff]at h;rw[cl_in x h.1 h.2];simp
theorem cl_off{x:Int}(h:inEnds x=false):(x !=cl x)=true:=by
 have h':¬(-2147483647<=x/\x<=2147483647):=fun e=>by rw[(ends_iff x).2 e]at h;cases h
 rw[bne_iff_ne]
 have:=cl_bd x
 omega
set_option maxHeartbeats 1600000 in
set_option maxRecDepth 100000 in
theorem C_(v:Value)(m:Mx)(w:World)(hv:M_ w v m):Calls Tryz.prog 39 #[v] w fun e w'=>e=.returned (errV (q_ m))/\Below w.heap.size w w':=by
 obtain ⟨s,rfl,hs⟩:=hv
 obtain ⟨r,hr⟩:=gN (m.rows)
 obtain ⟨c,hc⟩:=gN (m.cols)
 have hlen:=hs.len
 unfold maxLen at hlen
 rw[hr,hc]
 by_cases hside:r<0\/24<r\/c<0\/12<c
 ·have HF:=h_ (err_of (fault_side (m:=m) (by rw[hr,hc];exact hside)) (by decide))
  clear hs hr hc
  by_cases c1:r<0
  ·clear hside
   go_enter Tryz.func39,Tryz.ntmps39
   go_wp2
   go_ret
   exact ⟨R_ HF.out,o_ _ _⟩
  ·by_cases c2:24<r
   ·clear hside
    go_enter Tryz.func39,Tryz.ntmps39
    go_wp2
    go_ret
    exact ⟨R_ HF.out,o_ _ _⟩
   ·by_cases c3:c<0
    ·clear hside
     go_enter Tryz.func39,Tryz.ntmps39
     go_wp2
     go_ret
     exact ⟨R_ HF.out,o_ _ _⟩
    ·have c4:12<c:=by omega
     clear hside
     go_enter Tryz.func39,Tryz.ntmps39
     go_wp2
     go_ret
     exact ⟨R_ HF.out,o_ _ _⟩
 ·have c1:0<=r:=by omega
  have c2:r<=24:=by omega
  have c3:0<=c:=by omega
  have c4:c<=12:=by omega
  have hbd:=rc_bd r c ⟨c1,c2,c3,c4⟩
  have hok:=fault_in (m:=m) (by rw[hr,hc];exact ⟨c1,c2,c3,c4⟩)
  clear hside
  obtain ⟨a,cap,rfl,h2,h3,h4⟩:=hs
  obtain ⟨n,hn⟩:=gN (m.cells.length)
  rw[hn]at h2 hlen ⊢
  by_cases hl:(n:Int)=r*c
  ·have g1:((n:Int) !=r*c)=false:=by simp[hl]
   have HL:=h_ (show (m.cells.length:Int)=m.rows*m.cols by rw[hn,hr,hc];exact hl)
   have HN:=h_ hn
   have HO:=h_ hok
   have H4:=h_ h4
   have hn288:n<=288:=by omega
   clear hok hl hn hr hc h4
   go_enter Tryz.func39,Tryz.ntmps39
   go_wp2
   go_loop [37] (fun i=>∃k:Nat,k<=n/\i=.int .i64 k/\∀j x,j<k->m.cells[j]?=some x->inEnds x=true) (fun i=>n - (intOf i).toNat)
   case atStart=>exact ⟨0,Nat.zero_le _,rfl,fun j x hj _=>by omega⟩
   case round=>
    obtain ⟨k,hk,rfl,he⟩:=hrel
    have HE:=h_ he
    clear he
    by_cases hlt:k<n
    ·obtain ⟨x,hx⟩:∃x,m.cells[k]?=some x:=⟨m.cells[k]'(by have:=HN.out;omega),List.getElem?_eq_getElem _⟩
     obtain ⟨b,off,rfl,hcl⟩:=H4.out.resolve_left (fun e=>by rw[e]at hx;simp at hx)
     have cx:=fun o=>p_ (hcl k x hx) o
     have HX:=h_ hx
     have hlt':(k:Int)<(n:Int):=by omega
     clear hcl hx
     cases hin:inEnds x with
     |false=>
      have hb:=cl_off hin
      have HI:=h_ hin
      clear hin
      go_wp2_with (go_at_call 67;refine (clamp_any _ _).mono ?_;rintro e w' ⟨rfl,rfl⟩)
      go_ret
      exact ⟨R_ (err_of (fault_cell HO.out HL.out (all_no HX.out HI.out)) (by decide)),o_ _ _⟩
     |true=>
      have hb:=cl_same hin
      have HI:=h_ hin
      clear hin
      go_wp2_with (go_at_call 67;refine (clamp_any _ _).mono ?_;rintro e w' ⟨rfl,rfl⟩)
      go_round
      case rel=>exact ⟨k+1,by omega,by go_num,fun j y hj hy=>by
       rcases Nat.lt_or_ge j k with h|h
       ·exact HE.out j y h hy
       ·have e:y=x:=Option.some.inj (by rw[<-hy,show j=k by omega,HX.out])
        rw[e];exact HI.out⟩
      case measure=>simp[intOf];omega
    ·go_wp2
     go_ret
     exact ⟨R_ (err_no (fault_none HO.out HL.out (all_yes fun j x hj hx=>HE.out j x (by have:=HN.out;omega) hx))),o_ _ _⟩
  ·have g1:((n:Int) !=r*c)=true:=by simp[hl]
   have HF:=h_ (err_of (fault_len hok (by rw[hn,hr,hc];exact hl)) (by decide))
   clear hl hok h4 hn hr hc
   go_enter Tryz.func39,Tryz.ntmps39
   go_wp2
   go_ret
   exact ⟨R_ HF.out,o_ _ _⟩
def IsMxs (w:World) (v:Value) (ms:List Mx):Prop:=
 ∃(a:Option Addr) (cap:Nat),v=.slice a ms.length cap/\ms.length<=cap/\cap<=maxLen/\(ms=[]\/∃b off,a=some ⟨b,off,none⟩/\∀i m,ms[i]?=some m->
  ∃s,w.cell? ⟨b,off+i*3,none⟩=some (.int .i64 m.rows)/\w.cell? ⟨b,off+i*3+1,none⟩=some (.int .i64 m.cols)/\w.cell? ⟨b,off+i*3+2,none⟩=some s/\I_ w s m.cells)
theorem c_{w w':World}(hb:Below w.heap.size w w'){p:Addr}{v:Value}(h:w.cell? p=some v):w'.cell? p=some v:=
 (hb.cell (p:=p) (World.block_lt_of_cell? w _ h)).trans h
theorem IsMxs.u_{w w':World}{v:Value}{ms:List Mx}(h:IsMxs w v ms)(hb:Below w.heap.size w w'):IsMxs w' v ms:=by
 obtain ⟨a,cap,h1,h2,h3,h4⟩:=h
 refine ⟨a,cap,h1,h2,h3,h4.imp id ?_⟩
 rintro ⟨b,off,ha,hc⟩
 refine ⟨b,off,ha,fun i m hm=>?_⟩
 obtain ⟨s,c0,c1,c2,hs⟩:=hc i m hm
 exact ⟨s,c_ hb c0,c_ hb c1,c_ hb c2,hs.u_ hb⟩
theorem IsMxs.len{w:World}{v:Value}{zs:List Mx}(h:IsMxs w v zs):zs.length<=maxLen:=by
 obtain ⟨_,_,_,h2,h3,_⟩:=h;omega
theorem I_.shape{w:World}{v:Value}{zs:List Int}(h:I_ w v zs):∃a n cap,v=.slice a n cap:=by
 obtain ⟨a,cap,h1,_⟩:=h;exact ⟨a,_,cap,h1⟩
def faults:List Mx->Int
 |[]=>0
 |m::l=>if q_ m=0 then faults l else q_ m
theorem faults_at{ms:List Mx}:∀{k:Nat} {m:Mx},(∀j x,j<k->ms[j]?=some x->q_ x=0)->ms[k]?=some m->q_ m≠0->q_ m=faults ms:=by
 induction ms with
 |nil=>intro k m _ h;simp at h
 |cons x l ih=>
  intro k m hz h hm
  cases k with
  |zero=>simp at h;subst h;unfold faults;rw[if_neg hm]
  |succ k=>
   unfold faults
   rw[if_pos (hz 0 x (by omega) rfl)]
   exact ih (k:=k) (fun j y (hj:j<k) (hy:l[j]?=some y)=>hz (j+1) y (by omega) (by simpa using hy)) (by simpa using h) hm
theorem faults_no{ms:List Mx}:(∀(j:Nat) x,ms[j]?=some x->q_ x=0)->0=faults ms:=by
 induction ms with
 |nil=>intro _;rfl
 |cons x l ih=>
  intro hz
  unfold faults
  rw[if_pos (hz 0 x rfl)]
  exact ih (fun j y (hy:l[j]?=some y)=>hz (j+1) y (by simpa using hy))
theorem n_{k:Int}(h:k≠0):errV k=.iface 33 (.int .i64 k):=by unfold errV;rw[if_neg h]
theorem e_{k:Int}(h:k=0):errV k=.nilIface:=by unfold errV;rw[if_pos h]
set_option maxHeartbeats 1600000 in
set_option maxRecDepth 100000 in
theorem checks_any(v:Value)(ms:List Mx)(w:World)(hv:IsMxs w v ms):Calls Tryz.prog 115 #[v] w fun e w'=>e=.returned (errV (faults ms))/\Below w.heap.size w w':=by
 have hlen:=hv.len
 unfold maxLen at hlen
 obtain ⟨a,cap,rfl,h2,h3,h4⟩:=hv
 obtain ⟨n,hn⟩:=gN (ms.length)
 have HN:=h_ hn
 have H4:=h_ h4
 rw[hn]at h2 hlen ⊢
 clear hn h4
 go_enter Tryz.func115,Tryz.ntmps115
 go_wp2
 go_loopw [8] (fun i wr=>∃k:Nat,k<=n/\i=.int .i64 k/\Below w.heap.size w wr/\∀j x,j<k->ms[j]?=some x->q_ x=0) (fun i _=>n - (intOf i).toNat)
 case atStart=>exact ⟨0,Nat.zero_le _,rfl,Below.refl _ _,fun j x hj _=>by omega⟩
 case round=>
  obtain ⟨k,hk,rfl,hbw,he⟩:=hrel
  have HE:=h_ he
  have HB:=h_ hbw
  clear he hbw
  by_cases hlt:k<n
  ·obtain ⟨x,hx⟩:∃x,ms[k]?=some x:=⟨ms[k]'(by have:=HN.out;omega),List.getElem?_eq_getElem _⟩
   obtain ⟨b,off,rfl,hcl⟩:=H4.out.resolve_left (fun e=>by rw[e]at hx;simp at hx)
   obtain ⟨s,c0,c1,c2,hs⟩:=hcl k x hx
   obtain ⟨sa,sn,sc,rfl⟩:=hs.shape
   have d0:=c_ HB.out c0
   have d1:=c_ HB.out c1
   have d2:=c_ HB.out c2
   have hm:M_ wr (.agg #[.int .i64 x.rows,.int .i64 x.cols,.slice sa sn sc]) x:=⟨_,rfl,hs.u_ HB.out⟩
   have HM:=h_ hm
   have HX:=h_ hx
   have hlt':(k:Int)<(n:Int):=by omega
   clear hcl hx c0 c1 c2 hs hm
   by_cases hf:q_ x=0
   ·have hC:=fun W (h:Below wr.heap.size wr W)=>C_ _ x W (HM.out.u_ h)
    rw[e_ hf]at hC
    have HC:=h_ hC
    have HF:=h_ hf
    clear hf hC
    go_wp2_with (go_at_call 39;refine (HC.out _ (o_ _ _)).mono ?_;rintro e w1 ⟨rfl,hb1⟩)
    go_roundw
    case rel=>exact ⟨k+1,by omega,by go_num,HB.out.trans ((o_ _ _).trans (hb1.mono (by simp))|>.mono HB.out.size),fun j y hj hy=>by
     rcases Nat.lt_or_ge j k with h|h
     ·exact HE.out j y h hy
     ·have e:y=x:=Option.some.inj (by rw[<-hy,show j=k by omega,HX.out])
      rw[e];exact HF.out⟩
    case measure=>simp[intOf];omega
   ·have hC:=fun W (h:Below wr.heap.size wr W)=>C_ _ x W (HM.out.u_ h)
    rw[n_ hf]at hC
    have HC:=h_ hC
    have HF:=h_ hf
    clear hf hC
    go_wp2_with (go_at_call 39;refine (HC.out _ (o_ _ _)).mono ?_;rintro e w1 ⟨rfl,hb1⟩)
    go_ret
    exact ⟨R_ (err_of (faults_at HE.out HX.out HF.out) HF.out),HB.out.trans ((o_ _ _).trans (hb1.mono (by simp))|>.mono HB.out.size)⟩
  ·go_wp2
   go_ret
   exact ⟨R_ (err_no (faults_no fun j x hx=>HE.out j x (by
    have:=HN.out
    rcases Nat.lt_or_ge j k with h|h
    ·exact h
    ·rw[List.getElem?_eq_none (by omega)]at hx;cases hx) hx)),HB.out⟩
theorem infoInt:(Tryz.prog.info? 3).map (fun i=>(i.zero,i.size,i.bytes))=some (some (.int .i64 0),1,8):=by kernel_rfl
def zeros (n:Nat):Array Value:=madeCells #[.int .i64 0] n
theorem zeros_row(w:World)(n:Nat):RowAt 3 (w.alloc (.cells (zeros n) 3)) w.heap.size (tab n (fun _=>0)):=by
 unfold RowAt
 rw[heap_alloc_new]
 congr 2
 rw[<-Array.toList_inj]
 unfold zeros
 rw[toList_madeCells_one,tab_zero];simp
theorem run_mk(L:Int)(n:Nat)(hL:L=(n:Int))(hn:n<=82944)(W:World):(Instr.makeSlice 26 (.int .i64 L) (.int .i64 L)).run Tryz.prog W=.ok (.slice (some ⟨W.heap.size,0,none⟩) n n) (W.alloc (.cells (zeros n) 3)):=by
 obtain ⟨i0,hi,hz0,hz1,hz2⟩:=info_parts infoInt
 subst hL
 have hr:=run_make (P:=Tryz.prog) W 26 3 i0 (.int .i64 0) Tryz.underlying26 hi hz0 .i64 .i64 (n:Int) (n:Int) (by omega) (Int.le_refl _) (by rw[hz2];omega) (by omega)
 simpa [zeros,hz1,Value.cells] using hr
set_option maxHeartbeats 800000 in
theorem blank_any(r c:Int)(n:Nat)(w:World)(hn:r*c=(n:Int))(h4:n<=82944):Calls Tryz.prog 56 #[.int .i64 r,.int .i64 c] w fun e w'=>
  ∃g,e=.returned (.agg #[.int .i64 r,.int .i64 c,.slice (some ⟨g,0,none⟩) n n])/\w.heap.size<=g/\RowAt 3 w' g (tab n (fun _=>0))/\Below w.heap.size w w':=by
 have hmk:=run_mk (r*c) n hn h4
 have hb1:0<=r*c:=by omega
 have hb2:r*c<=82944:=by omega
 clear hn
 go_enter Tryz.func56,Tryz.ntmps56
 go_wp2
 refine bodyPost_ret (v:=.agg #[.int .i64 r,.int .i64 c,.slice (some ⟨w.heap.size+1,0,none⟩) n n]) (by simp[results,Tryz.results56,go_sem]) rfl ⟨w.heap.size+1,rfl,by omega,?_,((Below.refl _ _).alloc (Nat.le_refl _) _).alloc (by simp) _⟩
 have h:=zeros_row (w.alloc (.cells #[.int .i64 r,.int .i64 c,.slice (some ⟨w.heap.size+1,0,none⟩) n n] 28)) n
 rw[World.size_alloc]at h
 exact h
theorem region_tail{P:Program}{id:Nat}{Q:Exit->Act->World->Prop}{a:Act}{w:World}{l:List Oper}(n:Nat)(hm:P.follows .mixedOrders=true)(hB:Region.lexTailB .any l.toArray n=true)
  (h:wpStill P l.toArray w.drew (fun a'=>wpList P l.toArray Q (l.drop n) a' w.drew) (l.take n) a):(Code.region id l.toArray true).wp P Q a w:=wp_region_still_tail n hm hB h
theorem k_{V w1 wr:World}{o:Obj}{g:Nat}(hb:Below V.heap.size V w1)(hg:V.heap.size<=g)(hgr:(w1.alloc o).grownBy wr (some g)){p:Addr}{x:Value}(h:V.cell? p=some x):wr.cell? p=some x:=by
 have hlt:=World.block_lt_of_cell? V p h
 exact hgr.cell (p_ ((hb.cell (p:=p) hlt).trans h) o) (fun e=>by have:=Option.some.inj e;omega)
theorem z_{V w1 wr:World}{o:Obj}{g:Nat}(hb:Below V.heap.size V w1)(hg:V.heap.size<=g)(hgr:(w1.alloc o).grownBy wr (some g)){p:Addr}(hlt:p.block<V.heap.size)(h:V.frozen? p=false):wr.frozen? p=false:=by
 have hs:=hb.size
 refine grown_frozen hgr ?_ (by simp;omega) (fun e=>by have:=Option.some.inj e;omega)
 rw[World.frozen?_alloc_old _ _ _ (by omega),hb.frozen (p:=p) hlt];exact h
theorem X_{w1 wr:World}{cs:Array Value}{t:TypeId}{g:Nat}(hg:g<w1.heap.size)(hgr:(w1.alloc (.cells cs t)).grownBy wr (some g)){j:Nat}{x:Value}(h:cs[j]?=some x):wr.cell? ⟨w1.heap.size,j,none⟩=some x:=
 hgr.cell ((World.cell?_alloc_at _ _ _ _ rfl).trans h) (fun e=>by have:=Option.some.inj e;simp at this;omega)
theorem keep_below{w V w1 wr:World}{o:Obj}{g:Nat}(h0:Below w.heap.size w V)(hb:Below V.heap.size V w1)(hg:V.heap.size<=g)(hgr:(w1.alloc o).grownBy wr (some g)):Below w.heap.size w wr:=by
 have s1:=h0.size
 have s2:=hb.size
 exact ((h0.trans (hb.mono s1)).alloc (by omega) o).grown hgr (by simp;omega) (fun k e=>by have:=Option.some.inj e;omega)
end Go.Proofs.YtniloklglpchfaeGreatDoor
