/- What slices.Backward at a list of layers comes to: a function that hands on the layers, the last one first, to whatever goes through it. -/
import Derived.Test.YtbkkhdekjgabfadNetBk
import Derived.Shelf.Abstract
import Derived.Shelf.RegionOpen
import Derived.OwnWalkIn
import Derived.TacticsInMore
import Derived.LoopNIn
import Derived.LoopIn
namespace Go.Proofs.Ytbkkhdekjgabfad
open Go.RowKit Go.Shelf
attribute [local go_sem] Oper.semAt_some
/-- What is handed on: the layer's number, and the layer as it lies in w. -/
structure Item (w : World) (ls : List Ly) where
  i : Nat
  xi : Int
  l : Ly
  sa : Option Addr
  sn : Nat
  sk : Nat
  ta : Option Addr
  tn : Nat
  tk : Nat
  hx : xi = (i : Int)
  hl : ls[i]? = some l
  hly : IsLy w (.agg #[.int .i64 l.k, .int .i64 l.w.rows, .int .i64 l.w.cols, .slice sa sn sk, .int .i64 l.b.rows, .int .i64 l.b.cols, .slice ta tn tk]) l
def Item.cells {w : World} {ls : List Ly} (x : Item w ls) : List Value := [.int .i64 x.l.k, .int .i64 x.l.w.rows, .int .i64 x.l.w.cols, .slice x.sa x.sn x.sk, .int .i64 x.l.b.rows, .int .i64 x.l.b.cols, .slice x.ta x.tn x.tk]
def itemV {w : World} {ls : List Ly} (x : Item w ls) : Array Value := #[.int .i64 x.xi, .agg #[.int .i64 x.l.k, .int .i64 x.l.w.rows, .int .i64 x.l.w.cols, .slice x.sa x.sn x.sk, .int .i64 x.l.b.rows, .int .i64 x.l.b.cols, .slice x.ta x.tn x.tk]]
set_option maxHeartbeats 400000 in
theorem backward_any (a : Option Addr) (N cap : Nat) (w : World) : Calls Try.prog 19 #[.slice a N cap] w fun e w' =>
    e = .returned (.func (.func 29) #[] #[.pointer (some ⟨w.heap.size, 0, none⟩)]) ∧ w' = w.alloc (.cells #[.slice a N cap] 32) := by
  go_enter Try.func19, Try.ntmps19
  go_wp2
  go_ret
  exact ⟨rfl, rfl⟩
/-- What a round keeps: what lay below n, and block B. -/
def KeepL (n B : Nat) (W W' : World) : Prop := Below n W W' ∧ ∀ cs, Blk W B cs 32 → Blk W' B cs 32
theorem KeepL.trans {n B : Nat} {X Y Z : World} (h : KeepL n B X Y) (k : KeepL n B Y Z) : KeepL n B X Z := ⟨h.1.trans k.1, fun cs hb => k.2 cs (h.2 cs hb)⟩
theorem KeepL.put {n B : Nat} {w : World} (hn : n ≤ w.heap.size) (W : World) (l : Nat) (o o' : Obj) (hl : w.heap.size ≤ l) (h : W.heap[l]? = some o) (hc : o.isCells = false) (hw : o.isWalk = false) : KeepL n B W (W.putObj l o') :=
  ⟨belowK_b hn W l o o' hl h hc hw, fun cs hb => hb.kept (grownBy_putObj' W l o') (fun e => by cases e; rw [show W.heap[B]? = _ from hb] at h; cases h; cases hc)⟩
set_option maxRecDepth 100000 in
set_option maxHeartbeats 2000000 in
theorem backward1_in (n : Nat) (hn : 1 ≤ n) (l B N : Nat) (a : Option Addr) (cap : Nat) (ls : List Ly) (w : World) (hv : IsLys w (.slice a N cap) ls) (hN : ls.length = N) (h12 : N ≤ 12) (J Jx : List (Item w ls) → World → Prop)
    (hY : ∀ pre x W, J pre W → pre.length < N → YieldAt Fence.wide (n - 1) Try.prog l (itemV x) W fun e W' => (e = .returned (.bool true) ∧ J (pre ++ [x]) W' ∧ KeepL w.heap.size B W W') ∨ (e = .returned (.bool false) ∧ Jx (pre ++ [x]) W'))
    (W : World) (hW : Below w.heap.size w W) (hB : Blk W B #[.slice a N cap] 32) (h0 : J [] W) :
    CallsIn Fence.wide n Try.prog 29 #[.func (.yield l) #[] #[], .pointer (some ⟨B, 0, none⟩)] W fun e W' => (∃ v, e = .returned v) ∧
      ((∃ ys, ys.map Item.i = down N N ∧ J ys W') ∨ (∃ pre, (∃ k, k ≤ N ∧ pre.map Item.i = down N k) ∧ Jx pre W')) := by
  have HV := hide hv
  have HN := hide hN
  have HW := hide hW
  have HBK := hide hB
  have HJ := hide h0
  have HY := hide hY
  have q0 := hB.cell (j := 0) rfl
  clear hv hN hW hB h0 hY
  refine callsIn_of_wp Try.func29 rfl trivial ?_ rfl
  simp only [Try.ntmps29, List.size_toArray, List.length_cons, List.length_nil, Nat.reduceAdd, Nat.reduceSub, Array.replicate_succ, Array.replicate_zero, List.push_toArray, List.append_toArray, List.nil_append, List.cons_append]
  gi_wp2
  clear q0
  gi_loopw [3] (fun c wr => ∃ (k : Nat) (xi : Int) (ys : List (Item w ls)), k ≤ N ∧ xi = (N : Int) - 1 - (k : Int) ∧ c = .int .i64 xi ∧ ys.map Item.i = down N k ∧ J ys wr ∧ Below w.heap.size w wr ∧ Blk wr B #[.slice a N cap] 32) (fun c _ => (intOf c + 1).toNat)
  case atStart => exact ⟨0, _, [], Nat.zero_le _, by simp, rfl, rfl, HJ.out, HW.out, HBK.out⟩
  case round =>
    obtain ⟨k, xi, ys, hk, hxi, rfl, hys, hj, hbw, hbk⟩ := hrel
    have HJI := hide hj
    have HBW := hide hbw
    have HBB := hide hbk
    have HXI := hide hxi
    have HYS := hide hys
    have hxi0 : -1 ≤ xi := by omega
    have hxi1 : xi ≤ 11 := by omega
    have q0 := hbk.cell (j := 0) rfl
    clear hj hbw hbk hxi hys
    by_cases hge : 0 ≤ xi
    · have hkn : k < N := by have := HXI.out; omega
      have hxn : xi.toNat = N - 1 - k := by have := HXI.out; omega
      have hlt : xi < (N : Int) := by have := HXI.out; omega
      obtain ⟨ly, hl⟩ : ∃ x, ls[N - 1 - k]? = some x := ⟨ls[N - 1 - k]'(by have := HN.out; omega), List.getElem?_eq_getElem _⟩
      obtain ⟨b, off, cp, sa, sn, sk, ta, tn, tk, ev, k0, k1, k2, k3, k4, k5, k6, hly⟩ := HV.out.at hl
      injection ev with ev1 ev2 ev3
      clear ev2 ev3
      subst ev1
      rw [← hxn] at k0 k1 k2 k3 k4 k5 k6
      replace k0 := cell_below HBW.out k0
      replace k1 := cell_below HBW.out k1
      replace k2 := cell_below HBW.out k2
      replace k3 := cell_below HBW.out k3
      replace k4 := cell_below HBW.out k4
      replace k5 := cell_below HBW.out k5
      replace k6 := cell_below HBW.out k6
      obtain ⟨x, hxe⟩ : ∃ x : Item w ls, x = ⟨N - 1 - k, xi, ly, sa, sn, sk, ta, tn, tk, by omega, hl, hly⟩ := ⟨_, rfl⟩
      obtain ⟨fn, tmps, assign, body, hy, hR⟩ := HY.out ys x wr HJI.out (by have h := congrArg List.length HYS.out; rw [List.length_map, down_len] at h; omega)
      have HM := hide (show (ys ++ [x]).map Item.i = down N (k + 1) by rw [List.map_append, HYS.out, down_succ, hxe]; rfl)
      rw [show itemV x = #[.int .i64 xi, .agg #[.int .i64 ly.k, .int .i64 ly.w.rows, .int .i64 ly.w.cols, .slice sa sn sk, .int .i64 ly.b.rows, .int .i64 ly.b.cols, .slice ta tn tk]] by rw [hxe]; rfl] at hy
      have HR := hide hR
      clear hR hl hly hxn hxe
      gi_wp2
      refine HR.out.mono ?_
      rintro e W3 (⟨rfl, hJ3, hk3⟩ | ⟨rfl, hJx3⟩)
      · have HJ3 := hide hJ3
        have HK3 := hide hk3
        clear hJ3 hk3
        gi_wp2
        go_roundw
        case rel => exact ⟨k + 1, _, ys ++ [x], by omega, by have := HXI.out; omega, rfl, HM.out, HJ3.out, HBW.out.trans HK3.out.1, HK3.out.2 _ HBB.out⟩
        case measure => have := HXI.out; simp [intOf]; omega
      · have HJX := hide hJx3
        clear hJx3
        gi_wp2
        refine bodyPost_ret (results_none rfl _ _ _) rfl ?_
        exact ⟨⟨_, rfl⟩, .inr ⟨_, ⟨k + 1, by omega, HM.out⟩, HJX.out⟩⟩
    · have hin : k = N := by have := HXI.out; omega
      gi_wp2
      go_end0
      exact ⟨⟨_, rfl⟩, .inl ⟨ys, by rw [HYS.out, hin], HJI.out⟩⟩
theorem backward_stops (n : Nat) (hn : 1 ≤ n) (B N : Nat) (a : Option Addr) (cap : Nat) (ls : List Ly) (w V : World) (hv : IsLys w (.slice a N cap) ls) (hN : ls.length = N) (h12 : N ≤ 12) (hV : Below w.heap.size w V) (hB : Blk V B #[.slice a N cap] 32) :
    SeqStopsK Fence.wide n Try.prog 29 #[.pointer (some ⟨B, 0, none⟩)] (itemV (w := w) (ls := ls)) (KeepL w.heap.size B) (fun ys => ys.map Item.i = down N N) (fun pre => ∃ k, k ≤ N ∧ pre.map Item.i = down N k) N V := fun l J Jx W hW _ _ hY h0 =>
  backward1_in n hn l B N a cap ls w hv hN h12 J Jx hY W (below_next hV hW) (hB.below hW) h0
end Go.Proofs.Ytbkkhdekjgabfad
