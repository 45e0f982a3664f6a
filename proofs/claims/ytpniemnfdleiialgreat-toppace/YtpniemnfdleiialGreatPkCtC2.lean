/- What is wrong with cuts, by package cut and by the document's answer. -/
import Derived.Test.YtpniemnfdleiialGreatPkOwZ
import Derived.Deep.RegionHeld3
import Derived.Test.YtpniemnfdleiialGreatPkCtC3
namespace Go.Proofs.YtpniemnfdleiialGreat
open Go.RowKit
def prv (es:List Int):Nat→Int
 |0=>0
 |i+1=>(es[i]?).getD 0
theorem prv_at{es:List Int}{i:Nat}{x:Int}(h:es[i]?=some x):prv es (i+1)=x:=by
 show (es[i]?).getD 0=x
 rw[h];rfl
def rising (es:List Int):Prop:=∀i,i<es.length→prv es i<prv es (i+1)
def endsE (es:List Int) (n:Int):Int:=if n<1∨12<n then 1 else if es.length<1∨6<es.length then 2 else if (∀i,i<es.length→prv es i<prv es (i+1))∧prv es es.length=n then 0 else 5
theorem endsE_lay{es:List Int}{n:Int}(h:n<1∨12<n):1=endsE es n:=by unfold endsE;rw[if_pos h]
theorem endsE_len{es:List Int}{n:Int}(h:¬(n<1∨12<n))(h':es.length<1∨6<es.length):2=endsE es n:=by unfold endsE;rw[if_neg h,if_pos h']
theorem endsE_bad{es:List Int}{n:Int}(h:¬(n<1∨12<n))(h':¬(es.length<1∨6<es.length))(h2:¬(rising es∧prv es es.length=n)):5=endsE es n:=by unfold endsE;rw[if_neg h,if_neg h',if_neg (show ¬((∀i,i<es.length→prv es i<prv es (i+1))∧prv es es.length=n) from h2)]
theorem endsE_ok{es:List Int}{n:Int}(h:¬(n<1∨12<n))(h':¬(es.length<1∨6<es.length))(h2:rising es∧prv es es.length=n):0=endsE es n:=by unfold endsE;rw[if_neg h,if_neg h',if_pos (show (∀i,i<es.length→prv es i<prv es (i+1))∧prv es es.length=n from h2)]
theorem endsE_in{es:List Int}{n:Int}(h:endsE es n=0):(1≤n∧n≤12)∧(1≤es.length∧es.length≤6)∧rising es∧prv es es.length=n:=by
 unfold endsE at h
 by_cases c1:n<1∨12<n
 ·rw[if_pos c1]at h;cases h
 ·rw[if_neg c1]at h
  by_cases c2:es.length<1∨6<es.length
  ·rw[if_pos c2]at h;cases h
  ·rw[if_neg c2]at h
   by_cases c3:(∀i,i<es.length→prv es i<prv es (i+1))∧prv es es.length=n
   ·exact ⟨by omega,by omega,c3⟩
   ·rw[if_neg c3]at h;cases h
set_option maxHeartbeats 1600000 in
set_option maxRecDepth 100000 in
theorem ctcheck_any(v:Value)(es:List Int)(m:Int)(w:World)(hv:I_ w v es):Calls Tryz.prog 36 #[v,.int .i64 m] w fun e w'=>e=.returned (errV (endsE es m))∧w'=w:=by
 have hlen:=hv.len
 unfold maxLen at hlen
 obtain ⟨a,cap,rfl,h2,h3,h4⟩:=hv
 obtain ⟨n,hn⟩:=gN (es.length)
 rw[hn]at h2 hlen ⊢
 have HN:=h_ hn
 have H4:=h_ h4
 have HF:=h_ (layers_any m w)
 clear hn h4
 by_cases c0:m<1∨12<m
 ·have HE:=h_ (endsE_lay (es:=es) c0)
  rw[←layE_bad c0,n_ (by decide)]at HF
  clear c0
  go_enter Tryz.func36,Tryz.ntmps36
  go_wp2_with (go_at_call 32;refine HF.out.mono ?_;rintro e w' ⟨rfl,rfl⟩)
  go_ret
  exact ⟨R_ (err_of HE.out (by decide)),rfl⟩
 ·rw[←layE_ok c0,e_ rfl]at HF
  have HC0:=h_ c0
  clear c0
  by_cases c1:n<1
  ·have HE:=h_ (endsE_len HC0.out (.inl (by rw[HN.out];exact c1)))
   have c1':(n:Int)<1:=by omega
   clear c1
   go_enter Tryz.func36,Tryz.ntmps36
   go_wp2_with (go_at_call 32;refine HF.out.mono ?_;rintro e w' ⟨rfl,rfl⟩)
   go_ret
   exact ⟨R_ (err_of HE.out (by decide)),rfl⟩
  ·by_cases c2:6<n
   ·have HE:=h_ (endsE_len HC0.out (.inr (by rw[HN.out];exact c2)))
    have c1':¬(n:Int)<1:=by omega
    have c2':6<(n:Int):=by omega
    clear c1 c2
    go_enter Tryz.func36,Tryz.ntmps36
    go_wp2_with (go_at_call 32;refine HF.out.mono ?_;rintro e w' ⟨rfl,rfl⟩)
    go_ret
    exact ⟨R_ (err_of HE.out (by decide)),rfl⟩
   ·have HL:=h_ (show ¬(es.length<1∨6<es.length) by rw[HN.out];omega)
    have c1':¬(n:Int)<1:=by omega
    have c2':¬6<(n:Int):=by omega
    clear c1 c2
    go_enter Tryz.func36,Tryz.ntmps36
    go_wp2_with (go_at_call 32;refine HF.out.mono ?_;rintro e w' ⟨rfl,rfl⟩)
    go_loop [6,25] (fun s i=>∃(k:Nat) (y:Int),k≤n∧i=.int .i64 k∧s=.int .i64 y∧y=prv es k∧∀j,j<k→prv es j<prv es (j+1)) (fun _ i=>n - (intOf i).toNat)
    case atStart=>exact ⟨0,0,Nat.zero_le _,rfl,rfl,rfl,fun j hj=>by omega⟩
    case round=>
     obtain ⟨k,y,hk,rfl,rfl,hy,he⟩:=hrel
     have HY:=h_ hy
     have HE:=h_ he
     clear he hy
     by_cases hlt:k<n
     ·obtain ⟨x,hx⟩:=some_at (cs:=es) (p:=k) (by have:=HN.out;omega)
      obtain ⟨b,off,rfl,hcl⟩:=H4.out.resolve_left (fun e=>by rw[e]at hx;simp at hx)
      have cx:=hcl k x hx
      have HX:=h_ (prv_at hx)
      have hlt':(k:Int)<(n:Int):=by omega
      clear hcl hx
      by_cases c3:x≤y
      ·have HB:=h_ (endsE_bad HC0.out HL.out (fun e=>by have:=e.1 k (by rw[HN.out];exact hlt);rw[HX.out,←HY.out]at this;omega))
       go_wp2
       go_ret
       exact ⟨R_ (err_of HB.out (by decide)),rfl⟩
      ·have HU:=h_ (show ∀j,j<k+1→prv es j<prv es (j+1) by
        intro j hj
        rcases Nat.lt_or_ge j k with h|h
        ·exact HE.out j h
        ·rw[show j=k by omega,HX.out,←HY.out];omega)
       go_wp2
       go_round
       case rel=>exact ⟨k+1,x,by omega,by go_num,rfl,HX.out.symm,HU.out⟩
       case measure=>simp[intOf];omega
     ·have hkn:k=es.length:=by have:=HN.out;omega
      by_cases c3:y=m
      ·have HB:=h_ (endsE_ok HC0.out HL.out ⟨fun i hi=>HE.out i (by omega),by rw[←hkn,←HY.out];exact c3⟩)
       have n3:(y !=m)=false:=by simp[c3]
       clear c3 hkn
       go_wp2
       go_ret
       exact ⟨R_ (err_no HB.out),rfl⟩
      ·have HB:=h_ (endsE_bad HC0.out HL.out (fun e=>by have:=e.2;rw[←hkn,←HY.out]at this;exact c3 this))
       have n3:(y !=m)=true:=by simpa using c3
       clear c3 hkn
       go_wp2
       go_ret
       exact ⟨R_ (err_of HB.out (by decide)),rfl⟩
def stg (cs es:List Int) (i:Nat):Int:=preS cs (prv es (i+1)).toNat - preS cs (prv es i).toNat
def costE (cs:List Int) (e:Int):Int:=if costsE cs=0 then e else 1
def costX (cs es:List Int):List Int:=if costE cs (endsE es (cs.length:Int))=0 then tab es.length (stg cs es) else []
theorem rising_le{es:List Int}(h:rising es){i j:Nat}(hij:i≤j)(hj:j≤es.length):prv es i≤prv es j:=by
 induction j with
 |zero=>
  obtain rfl:i=0:=by omega
  exact Int.le_refl _
 |succ j ih=>
  rcases Nat.lt_or_ge j i with q|q
  ·obtain rfl:i=j+1:=by omega
   exact Int.le_refl _
  ·have:=ih q (by omega)
   have:=h j (by omega)
   omega
theorem preS_part(cs:List Int)(l m:Nat)(hlm:l≤m):preS ((cs.drop l).take (m - l)) ((cs.drop l).take (m - l)).length=preS cs m - preS cs l:=by
 have h1:preS ((cs.drop l).take (m - l)) ((cs.drop l).take (m - l)).length=((cs.drop l).take (m - l)).sum:=by unfold preS;rw[List.take_length]
 have h2:cs.take m=cs.take l++(cs.drop l).take (m - l):=by
  conv=>lhs;rw[show m=l+(m - l) by omega]
  rw[List.take_add]
 rw[h1]
 unfold preS
 rw[h2,List.sum_append]
 omega
set_option maxHeartbeats 8000000 in
set_option maxRecDepth 100000 in
theorem cost_any(v u:Value)(cs es:List Int)(w:World)(hv:I_ w v cs)(hu:I_ w u es):Calls Tryz.prog 13 #[v,u] w fun e w'=>∃s,e=.returned (.tuple #[s,errV (costE cs (endsE es (cs.length:Int)))])∧I_ w' s (costX cs es)∧Below w.heap.size w w':=by
 obtain ⟨a,cap,hve,g2,g3,g4⟩:=id hv
 clear g4
 obtain ⟨a',cap',hue,g2',g3',g4'⟩:=id hu
 have hlu:=hu.len
 unfold maxLen at hlu
 subst hve hue
 obtain ⟨E,hE⟩:=gN (costE cs (endsE es (cs.length:Int)))
 obtain ⟨X,hX⟩:=gN (costX cs es)
 have HX:=h_ (show (if E=0 then tab es.length (stg cs es) else [])=X by rw[←hX,←hE];rfl)
 have HE:=h_ hE
 rw[hE,hX]
 have HF:=h_ (costs_any _ cs w hv)
 have HK:=h_ (ctcheck_any _ es (cs.length:Int) w hu)
 clear hE hX
 obtain ⟨n,hn⟩:=gN (cs.length)
 obtain ⟨m,hm⟩:=gN (es.length)
 have HN:=h_ (And.intro hn hm)
 rw[hn]at HF HK hv ⊢
 rw[hm]at HK hu hlu ⊢
 rw[hm]at g2'
 rw[hn]at g2
 rcases costsE_two cs with c1|c1
 ·rw[c1,e_ rfl]at HF
  by_cases c2:endsE es (n:Int)=0
  ·obtain rfl:E=0:=by rw[←HE.out];unfold costE;rw[if_pos c1,hn,c2]
   obtain rfl:X=tab m (stg cs es):=by rw[←HX.out,if_pos rfl,hm]
   rw[c2,e_ rfl]at HK
   rw[e_ rfl]
   have HIN:=h_ (endsE_in c2)
   have hc:=costsE_in c1
   have HC:=h_ hc
   have hm6:m≤6:=by have:=HIN.out;omega
   have hmk:=run_mk0 (m:Int) m rfl (by omega)
   have HV:=h_ hv
   have H4:=h_ g4'
   have HO0:=h_ (OwnZ.made w m (by omega))
   obtain ⟨e0,ei,hz0,hz1,hz2⟩:=info_parts infoInt
   have HEI:=h_ (And.intro ei (And.intro hz0 (And.intro hz1 hz2)))
   have HM6:=h_ hm6
   clear c1 c2 hc hv hu hn hm g4' ei hz0 hz1 hz2
   go_enter Tryz.func13,Tryz.ntmps13
   go_wp2_with (first|(go_at_call 33;refine HF.out.mono ?_;rintro e w' ⟨rfl,rfl⟩)|(go_at_call 36;refine HK.out.mono ?_;rintro e w' ⟨rfl,rfl⟩))
   clear hmk HF HK
   go_loopw [8,9,29] (fun sv fv iv wr=>∃(k:Nat) (xi xf:Int),k≤m∧xi=(k:Int)∧iv=.int .i64 xi∧fv=.int .i64 xf∧xf=prv es k∧OwnZ wr w'.heap.size sv (tab k (stg cs es))∧Below w'.heap.size w' wr) (fun _ _ iv _=>m - (intOf iv).toNat)
   case atStart=>exact ⟨0,0,0,Nat.zero_le _,rfl,rfl,rfl,rfl,HO0.out,o_ _ _⟩
   case round=>
    obtain ⟨k,xi,xf,hk,hxi,rfl,rfl,hxf,hro,hbw⟩:=hrel
    have HRO:=h_ hro
    have HBW:=h_ hbw
    have HXI:=h_ hxi
    have HXF:=h_ hxf
    have hb0:0≤xi:=by omega
    have hb1:xi≤6:=by omega
    clear hro hbw hxi hxf
    by_cases hlt:xi<(m:Int)
    ·have hkm:k<m:=by have:=HXI.out;omega
     obtain ⟨x,hx⟩:=some_at (cs:=es) (p:=k) (by have:=HN.out.2;omega)
     obtain ⟨b,off,ha,hcl⟩:=H4.out.resolve_left (fun e=>by rw[e]at hx;simp at hx)
     subst ha
     have cx:wr.cell? ⟨b,off+xi.toNat,none⟩=some (.int .i64 x):=by rw[show xi.toNat=k by have:=HXI.out;omega];exact c_ HBW.out (hcl k x hx)
     have HPX:=h_ (prv_at hx)
     obtain ⟨q1,q2,q3,q4⟩:=HIN.out
     have hp0:0≤xf:=by rw[HXF.out];have:=rising_le q3 (Nat.zero_le k) (by have:=HN.out.2;omega);exact this
     have hp1:xf<x:=by rw[HXF.out,←HPX.out];exact q3 k (by have:=HN.out.2;omega)
     have hp2:x≤(n:Int):=by rw[←HPX.out,←q4];exact rising_le q3 (by have:=HN.out.2;omega) (Nat.le_refl _)
     obtain ⟨pa,pn,pk,hsl,hpi⟩:=ct_lh (HV.out.u_ HBW.out) xf.toNat x.toNat xf x (by omega) (by omega) (by omega) (by have:=HN.out.1;omega)
     have HSU:=h_ (ctsum_any _ _ wr hpi (fun c h=>HC.out c (List.mem_of_mem_drop (List.mem_of_mem_take h))) (by have:=HN.out.1;simp;omega))
     rw[preS_part cs _ _ (by omega)]at HSU
     obtain ⟨y,hy⟩:=gN (preS cs x.toNat - preS cs xf.toNat)
     rw[hy]at HSU
     have HY:=h_ (show stg cs es k=y by unfold stg;rw[HPX.out,←HXF.out];exact hy)
     have hb2:x≤12:=by omega
     have HBS:=h_ HBW.out.size
     clear hx hcl hpi q1 q2 q3 q4 hy
     go_wp2_with (first|(go_at_call 37;refine HSU.out.mono ?_;rintro e w3 ⟨rfl,h3⟩;subst h3)|(at_builtin;refine wpList_append_own _ rfl _ _ 26 rfl w'.heap.size 3 e0 (.int .i64 0) 1 8 Tryz.underlying26 HEI.out.1 HEI.out.2.1 HEI.out.2.2.1 HEI.out.2.2.2 rfl (by decide) _ _ _ rfl (HRO.out.alloc _) ⟨_,0,none⟩ 1 1 [.int .i64 y] rfl rfl (one_cells _ _) (one_one _) ?c3 ?c4 ?c5 ?_))
     case c3=>unfold maxLen;rw[tab_len];have:=HM6.out;omega
     case c4=>rw[tab_len];have:=HM6.out;omega
     case c5=>have:=HBS.out;simp;omega
     intro v' w2 hown' hgrow _
     have HO2:=h_ (show OwnZ w2 w'.heap.size v' (tab (k+1) (stg cs es)) by rw[tab_succ,HY.out];exact OwnZ.step hown')
     have HB2:=h_ (show Below w'.heap.size w' w2 from (bel_al HBW.out).grown hgrow (by simp;have:=HBS.out;omega) (fun k hk=>(World.ownsRow.lt HRO.out k hk).1))
     clear hown' hgrow
     go_wp2
     go_roundw
     case rel=>exact ⟨k+1,_,_,by omega,by have:=HXI.out;omega,rfl,rfl,HPX.out.symm,HO2.out,HB2.out⟩
     case measure=>have:=HXI.out;simp[intOf];omega
    ·obtain rfl:k=m:=by have:=HXI.out;omega
     have HI:=h_ HRO.out.isInts
     go_wp2
     exact bodyPost_ret (v:=.tuple #[u8,.nilIface]) (by simp[results,Tryz.results13,go_sem]) rfl ⟨_,rfl,HI.out,HBW.out⟩
  ·obtain rfl:endsE es (n:Int)=E:=by rw[←HE.out];unfold costE;rw[if_pos c1,hn]
   obtain rfl:X=[]:=by rw[←HX.out,if_neg c2]
   obtain ⟨E,hE⟩:=gN (endsE es (n:Int))
   rw[hE]at HK c2 ⊢
   rw[n_ c2]at HK ⊢
   clear c1 hv hu hn hm g4' HE HX hE
   go_enter Tryz.func13,Tryz.ntmps13
   go_wp2_with (first|(go_at_call 33;refine HF.out.mono ?_;rintro e w' ⟨rfl,rfl⟩)|(go_at_call 36;refine HK.out.mono ?_;rintro e w' ⟨rfl,rfl⟩))
   exact bodyPost_ret (v:=.tuple #[.slice none 0 0,.iface 66 (.int .i64 E)]) (by simp[results,Tryz.results13,go_sem]) rfl ⟨_,rfl,I_.nil _,Below.refl _ _⟩
 ·obtain rfl:E=1:=by rw[←HE.out];unfold costE;rw[if_neg (by rw[c1];decide)]
  obtain rfl:X=[]:=by rw[←HX.out,if_neg (by decide)]
  rw[c1,n_ (by decide)]at HF
  rw[n_ (by decide)]
  clear c1 hv hu hn hm g4' HE HX
  go_enter Tryz.func13,Tryz.ntmps13
  go_wp2_with (go_at_call 33;refine HF.out.mono ?_;rintro e w' ⟨rfl,rfl⟩)
  exact bodyPost_ret (v:=.tuple #[.slice none 0 0,.iface 66 (.int .i64 1)]) (by simp[results,Tryz.results13,go_sem]) rfl ⟨_,rfl,I_.nil _,Below.refl _ _⟩
end Go.Proofs.YtpniemnfdleiialGreat
