/- What number, matrix, head and tail of package keep's reader do. -/
import Derived.Test.YtaajlggpjholeajDoorKpO
import Derived.StillTailTactics
import Derived.Test.YtaajlggpjholeajDoorWrC2
import Derived.Test.YtaajlggpjholeajDoorWrN
namespace Go.Proofs.YtaajlggpjholeajDoor
open Go.RowKit
set_option maxHeartbeats 4000000 in
set_option maxRecDepth 100000 in
theorem knumber_any(v:Value)(l:List Int)(B:Nat)(st:Option (List Int))(w0 w:World)(hv:IsBys w0 v l)(h0:Below w0.heap.size w0 w)(h:KRd w B v l st):Calls Tryd.prog 37 #[.pointer (some ⟨B,0,none⟩)] w fun e w'=>e=.returned (.int .i64 (nxN st).1)∧KRd w' B v l (nxN st).2∧w.grownBy w' (some B):=by
 have HC:=h_ (knextn_any v l B st w0 w hv h0 h)
 obtain ⟨x,hx⟩:=gN ((nxN st).1)
 rw[hx]at HC ⊢
 clear hv h0 h hx
 go_enter Tryd.func37,Tryd.ntmps37
 go_wp2_with (go_at_call 53;refine HC.out.mono ?_;rintro e w1 ⟨rfl,h1,h2⟩;have H:=h_ (And.intro h1 h2);clear h1 h2)
 go_ret
 exact ⟨rfl,H.out.1,H.out.2⟩
set_option maxHeartbeats 8000000 in
set_option maxRecDepth 100000 in
theorem kmatrix_any(v:Value)(l:List Int)(B:Nat)(st:Option (List Int))(w0 w:World)(hv:IsBys w0 v l)(h0:Below w0.heap.size w0 w)(h:KRd w B v l st):Calls Tryd.prog 39 #[.pointer (some ⟨B,0,none⟩)] w fun e w'=>MxOut w' w.heap.size (nxM st).1 e∧KRd w' B v l (nxM st).2∧w.grownBy w' (some B):=by
 obtain ⟨V,hV⟩:=gM (w.alloc (.cells #[.int .i64 0,.int .i64 0,.slice none 0 0] 51))
 have HVW:=h_ hV
 have HBV:=h_ (show Below w.heap.size w V by rw[hV];exact o_ _ _)
 have HVS:=h_ (show V.heap.size=w.heap.size+1 by rw[hV,World.size_alloc])
 have HR:=h_ (show WBk V w.heap.size #[.int .i64 0,.int .i64 0,.slice none 0 0] 51 by rw[hV];exact WBk.new _ _ _)
 have HG:=h_ (show w.grownBy V (some B) by rw[hV];exact World.grownBy_alloc _ _ _)
 have HNE:=h_ (show B≠w.heap.size by have:=h.lt;omega)
 have HC:=h_ (knextm_any v l B st w0 V hv (bel_on h0 HBV.out) (h.kept HBV.out))
 obtain ⟨m,hm⟩:=gN ((nxM st).1)
 obtain ⟨st',hst⟩:=gN ((nxM st).2)
 rw[hm,hst]at HC
 rw[hm,hst]
 obtain ⟨r,hr⟩:=gN (m.rows)
 obtain ⟨d,hd⟩:=gN (m.cols)
 have HRD:=h_ (And.intro hr hd)
 clear hv h0 h hm hst hV
 go_enter Tryd.func39,Tryd.ntmps39
 go_wp2_with fail
 rw[←HVW.out]
 refine HC.out.mono ?_
 rintro e w1 ⟨⟨sa,sn,sk,rfl,hs⟩,hk,hg⟩
 rw[hr,hd]
 have HS:=h_ hs
 have HK:=h_ hk
 have HG1:=h_ (grw_trans HG.out hg (fun k e=>.inr (Option.some.inj e).symm))
 have HR1:=h_ (show WBk w1 w.heap.size #[.int .i64 0,.int .i64 0,.slice none 0 0] 51 from (hg.block _ HR.out.lt (fun e=>HNE.out (Option.some.inj e).symm)).trans HR.out)
 obtain ⟨y0,y1,y2⟩:=HR1.out.q3
 obtain ⟨z0,z1,z2⟩:=HR1.out.f3
 have HF:=h_ (bk3 HR1.out (.int .i64 r) (.int .i64 d) (.slice sa sn sk))
 obtain ⟨q0,q1,q2⟩:=HF.out.q3
 have HGF:=h_ (grw3 w1 w.heap.size (.int .i64 r) (.int .i64 d) (.slice sa sn sk))
 have HKF:=h_ (HK.out.other HNE.out 0 (.int .i64 r)|>.other HNE.out 1 (.int .i64 d)|>.other HNE.out 2 (.slice sa sn sk))
 have HSF:=h_ ((HS.out.keptB HGF.out (show w.heap.size<V.heap.size by rw[HVS.out];exact Nat.lt_succ_self _)).base (show w.heap.size≤V.heap.size by rw[HVS.out];exact Nat.le_succ _))
 clear hs hk hg hr hd
 go_wp2
 exact bodyPost_ret (v:=.agg #[.int .i64 r,.int .i64 d,.slice sa sn sk]) (by simp[results,Tryd.results39,go_sem,q0,q1,q2]) rfl ⟨⟨sa,sn,sk,by rw[HRD.out.1,HRD.out.2],HSF.out⟩,HKF.out,grw_trans HG1.out HGF.out (fun k e=>.inl (by rw[←Option.some.inj e];exact Nat.le_refl _))⟩
set_option maxHeartbeats 4000000 in
set_option maxRecDepth 100000 in
theorem hasprefix_any(u v:Value)(l k:List Int)(w:World)(hu:IsBys w u l)(hv:IsBys w v k):Calls Tryd.prog 52 #[u,v] w fun e w'=>e=.returned (.bool (decide (k.length≤l.length∧l.take k.length=k)))∧w'=w:=by
 obtain ⟨ua,un,uk,rfl⟩:∃a n k,u=.slice a n k:=by obtain ⟨a,k,h⟩:=hu.shape;exact ⟨a,_,k,h⟩
 obtain ⟨va,vn,vk,rfl⟩:∃a n k,v=.slice a n k:=by obtain ⟨a,k,h⟩:=hv.shape;exact ⟨a,_,k,h⟩
 have hun:un=l.length:=by obtain ⟨_,_,e,_⟩:=hu;exact (Value.slice.inj e).2.1
 have hvn:vn=k.length:=by obtain ⟨_,_,e,_⟩:=hv;exact (Value.slice.inj e).2.1
 by_cases c:k.length≤l.length
 ·obtain ⟨ra,rn,rk,hsl,hri⟩:=by_h hu k.length (vn:Int) (by rw[hvn]) c
  have HE:=h_ (bequal_any (.slice ra rn rk) (.slice va vn vk) (l.take k.length) k w hri hv)
  obtain ⟨b,hb⟩:=gN (decide (l.take k.length=k))
  rw[hb]at HE
  have HB:=h_ (show decide (k.length≤l.length∧l.take k.length=k)=b by rw[←hb];simp[c])
  have c1:(vn:Int)≤(un:Int):=by omega
  have c2:vn≤un:=by omega
  rw[HB.out]
  clear hu hv hri hb c hun hvn
  go_enter Tryd.func52,Tryd.ntmps52
  go_wp2_with (go_at_call 57;refine HE.out.mono ?_;rintro e w' ⟨rfl,rfl⟩)
  go_ret
  exact ⟨rfl,rfl⟩
 ·have HB:=h_ (show decide (k.length≤l.length∧l.take k.length=k)=false by simp[c])
  have c1:¬(vn:Int)≤(un:Int):=by omega
  have c2:¬vn≤un:=by omega
  rw[HB.out]
  clear hu hv c hun hvn
  go_enter Tryd.func52,Tryd.ntmps52
  go_wp2
  go_ret
  exact ⟨rfl,rfl⟩
end Go.Proofs.YtaajlggpjholeajDoor
