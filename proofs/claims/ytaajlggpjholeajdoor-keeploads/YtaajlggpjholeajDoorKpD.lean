/- How the document's answer reads a state: plain facts; two lists that grow in a region whose order is not drawn. -/
import Derived.Test.YtaajlggpjholeajDoorKpX
namespace Go.Proofs.YtaajlggpjholeajDoor
open Go.RowKit
theorem rdL_n0{b:List Int}(h:rd1 b=none):rdL b=none:=by unfold rdL;rw[h]
theorem rdL_n1{b t0:List Int}{k:Int}(h0:rd1 b=some (k,t0))(h1:rdM t0=none):rdL b=none:=by unfold rdL;rw[h0];dsimp only;rw[h1]
theorem rdL_n2{b t0 t1:List Int}{k:Int}{w:Mx}(h0:rd1 b=some (k,t0))(h1:rdM t0=some (w,t1))(h2:rdM t1=none):rdL b=none:=by unfold rdL;rw[h0];dsimp only;rw[h1];dsimp only;rw[h2]
theorem rdL_n3{b t0 t1 t2:List Int}{k:Int}{w v:Mx}(h0:rd1 b=some (k,t0))(h1:rdM t0=some (w,t1))(h2:rdM t1=some (v,t2))(h3:rdM t2=none):rdL b=none:=by unfold rdL;rw[h0];dsimp only;rw[h1];dsimp only;rw[h2];dsimp only;rw[h3]
theorem rdL_n4{b t0 t1 t2 t3:List Int}{k:Int}{w v p:Mx}(h0:rd1 b=some (k,t0))(h1:rdM t0=some (w,t1))(h2:rdM t1=some (v,t2))(h3:rdM t2=some (p,t3))(h4:rdM t3=none):rdL b=none:=by unfold rdL;rw[h0];dsimp only;rw[h1];dsimp only;rw[h2];dsimp only;rw[h3];dsimp only;rw[h4]
theorem rdL_y{b t0 t1 t2 t3 t4:List Int}{k:Int}{w v p q:Mx}(h0:rd1 b=some (k,t0))(h1:rdM t0=some (w,t1))(h2:rdM t1=some (v,t2))(h3:rdM t2=some (p,t3))(h4:rdM t3=some (q,t4)):rdL b=some ((⟨k,w,v⟩,(p,q)),t4):=by unfold rdL;rw[h0];dsimp only;rw[h1];dsimp only;rw[h2];dsimp only;rw[h3];dsimp only;rw[h4]
theorem KInv.nextL{E:Option (List (Ly×(Mx×Mx))×List Int)}{K i:Nat}{xs:List (Ly×(Mx×Mx))}{t t':List Int}{x:(Ly×(Mx×Mx))}(h:KInv E K i xs (some t))(hi:i<K)(hr:rdL t=some (x,t')):KInv E K (i+1) (xs++[x]) (some t'):=by
 obtain ⟨hl,he⟩:=h
 rw[show K - i=(K - (i+1))+1 by omega,rdLs_yes hr]at he
 refine ⟨by simp[hl],?_⟩
 rw[he]
 cases rdLs (K - (i+1)) t' with
 |none=>rfl
 |some p=>obtain ⟨ys,u⟩:=p;simp
theorem KInv.noL{E:Option (List (Ly×(Mx×Mx))×List Int)}{K i:Nat}{xs:List (Ly×(Mx×Mx))}{t:List Int}(h:KInv E K i xs (some t))(hi:i<K)(hr:rdL t=none):E=none:=by
 obtain ⟨hl,he⟩:=h
 rw[show K - i=(K - (i+1))+1 by omega,rdLs_no hr]at he
 exact he
theorem rdD_far{l:List Int}(h:l.length<6∨100000<l.length):rdD l=none:=by unfold rdD;rw[if_pos h]
theorem rdD_sum{l:List Int}(h:¬(l.length<6∨100000<l.length))(hs:sumsG 0 0 (l.take (l.length - 2))≠l.drop (l.length - 2)):rdD l=none:=by
 unfold rdD
 rw[if_neg h]
 dsimp only
 rw[if_pos hs]
theorem rdD_in{l:List Int}(h:¬(l.length<6∨100000<l.length))(hs:sumsG 0 0 (l.take (l.length - 2))=l.drop (l.length - 2)):rdD l=match rdS (l.take (l.length - 2)) with
  |none=>none
  |some (x,t)=>if t=[]∧stF x=0 then some x else none:=by
 unfold rdD
 rw[if_neg h]
 dsimp only
 rw[if_neg (fun q=>q hs)]
 cases rdS (l.take (l.length - 2)) with
 |none=>rfl
 |some p=>rfl
theorem rdD_noS{l:List Int}(h:¬(l.length<6∨100000<l.length))(hr:rdS (l.take (l.length - 2))=none):rdD l=none:=by
 by_cases hs:sumsG 0 0 (l.take (l.length - 2))=l.drop (l.length - 2)
 ·rw[rdD_in h hs,hr]
 ·exact rdD_sum h hs
theorem rdS_bad{l:List Int}{b0 b1:Int}(h0:l[0]?=some b0)(h1:l[1]?=some b1)(hl:6≤l.length)(hb:b0≠71∨b1≠1):rdS (l.take (l.length - 2))=none:=by
 match l,h0,h1 with
 |a::b::t,h0,h1=>
  obtain rfl:=Option.some.inj h0
  obtain rfl:=Option.some.inj h1
  have e:(a::b::t).take ((a::b::t).length - 2)=a::b::t.take (t.length - 2):=by
   simp only[List.length_cons]at hl ⊢
   rw[show t.length+1+1 - 2=(t.length - 2)+1+1 by omega,List.take_succ_cons,List.take_succ_cons]
  rw[e]
  unfold rdS
  split
  ·next q=>
   simp at q
   rcases hb with hb|hb
   ·exact absurd q.1 hb
   ·exact absurd q.2.1 hb
  ·rfl
theorem rdS_good{l c:List Int}(hc:c=l.take (l.length - 2))(h0:l[0]?=some 71)(h1:l[1]?=some 1)(hl:6≤l.length):rdS c=rdH (c.drop 2):=by
 subst hc
 match l,h0,h1 with
 |a::b::t,h0,h1=>
  obtain rfl:=Option.some.inj h0
  obtain rfl:=Option.some.inj h1
  have e:((71:Int)::1::t).take (((71:Int)::1::t).length - 2)=71::1::t.take (t.length - 2):=by
   simp only[List.length_cons]at hl ⊢
   rw[show t.length+1+1 - 2=(t.length - 2)+1+1 by omega,List.take_succ_cons,List.take_succ_cons]
  rw[e]
  rfl
theorem rdH_n0{b:List Int}(h:rd1 b=none):rdH b=none:=by unfold rdH;rw[h]
theorem rdH_n1{b t0:List Int}{n:Int}(h0:rd1 b=some (n,t0))(h1:rd1 t0=none):rdH b=none:=by unfold rdH;rw[h0];dsimp only;rw[h1]
theorem rdH_y{b t0 t1:List Int}{n k:Int}(h0:rd1 b=some (n,t0))(h1:rd1 t0=some (k,t1)):rdH b=if 12<k then none else match rdLs k.toNat t1 with|none=>none|some (xs,t)=>some ((n,xs),t):=by
 unfold rdH
 rw[h0]
 dsimp only
 rw[h1]
 dsimp only
 by_cases c:12<k
 ·rw[if_pos c,if_pos c]
 ·rw[if_neg c,if_neg c]
  cases rdLs k.toNat t1 with
  |none=>rfl
  |some p=>rfl
theorem wpList_app_gd{w:World}{ops:Array Oper}{rest:List Oper}{o:Oper}{a:Act}{Q:Exit→Act→World→Prop}(hgd:o.guard=none)(s x:Operand)(ho:o.op=.call { callee:=.builtin .append,args:=#[s,x],argTypes:=#[23,23] })
  (base:Nat) (ov tv:Value) (i j:Nat) (L:List Ly) (D:List (Mx×Mx)) (hs:a.eval s=tv) (h:LstX base w ov tv i j L D) (C:Nat) (d:Mx×Mx) (p q:Value) (hx:a.eval x=.slice (some ⟨C,0,none⟩) 1 1) (hc:WBk w C #[.int .i64 d.1.rows,.int .i64 d.1.cols,p,.int .i64 d.2.rows,.int .i64 d.2.cols,q] 56)
  (hp:P_ w (fun b=>tv.ownBlock=some b∨(ov.ownBlock=some b∨b<base)) (.inr d.1.cells) p) (hq:P_ w (fun b=>tv.ownBlock=some b∨(ov.ownBlock=some b∨b<base)) (.inr d.2.cells) q) (hi:j≤1000) (hb:base≤w.heap.size)
  (hk:∀v' w',LstX base w' ov v' i (j+1) L (D++[d])→w.grownBy w' tv.ownBlock→wpList Tryd.prog ops Q rest (a.put o.dst v') w'):wpList Tryd.prog ops Q (o::rest) a w:=
 wpList_plain hgd fun _ hK=>wp_app_gd s x ho base ov tv i j L D hs h C d p q hx hc hp hq hi hb (fun v' w' h1 h2=>hK _ _ (hk v' w' h1 h2))
end Go.Proofs.YtaajlggpjholeajDoor
