/- The small functions of package clock: mayTake, takes, key, latest. -/
import Derived.Test.YtcpgomjaegickagDoorClM
import Derived.Test.YtcpgomjaegickagDoorClR2
namespace Go.Proofs.YtcpgomjaegickagDoor
open Go.RowKit
set_option maxHeartbeats 1600000 in
set_option maxRecDepth 100000 in
theorem maytake_any (x : Int) (w : World) : Calls Tryd.prog 20 #[.int .i64 x] w fun e w' => e = .returned (.bool (okC x)) ∧ w' = w := by
  by_cases e1 : 1 ≤ x
  · by_cases e2 : x ≤ 1000000
    · have HA := hide (show true = okC x by simp [okC, e1, e2])
      go_enter Tryd.func20, Tryd.ntmps20
      go_wp2
      go_ret
      exact ⟨ret_bool HA.out, rfl⟩
    · have HA := hide (show false = okC x by simp [okC, e2])
      go_enter Tryd.func20, Tryd.ntmps20
      go_wp2
      go_ret
      exact ⟨ret_bool HA.out, rfl⟩
  · have HA := hide (show false = okC x by simp [okC, e1])
    go_enter Tryd.func20, Tryd.ntmps20
    go_wp2
    go_ret
    exact ⟨ret_bool HA.out, rfl⟩
set_option maxHeartbeats 1600000 in
set_option maxRecDepth 100000 in
theorem takes_any (k m x y : Int) (w : World) : Calls Tryd.prog 14 #[.agg #[.int .i64 k, .int .i64 m], .int .i64 x, .int .i64 y] w fun e w' => e = .returned (.int .i64 (if k = 1 then x else y)) ∧ Below w.heap.size w w' := by
  by_cases e1 : k = 1
  · rw [if_pos e1]
    subst e1
    go_enter Tryd.func14, Tryd.ntmps14
    go_wp2
    go_ret
    exact ⟨rfl, below_one _ _⟩
  · rw [if_neg e1]
    have n1 : (k == 1) = false := by simpa using e1
    clear e1
    go_enter Tryd.func14, Tryd.ntmps14
    go_wp2
    go_ret
    exact ⟨rfl, below_one _ _⟩
set_option maxHeartbeats 1600000 in
set_option maxRecDepth 100000 in
theorem ckey_any (s k m : Int) (w : World) : Calls Tryd.prog 15 #[.int .i64 s, .agg #[.int .i64 k, .int .i64 m]] w fun e w' => e = .returned (.agg #[.int .i64 s, .int .i64 k, .int .i64 m]) ∧ Below w.heap.size w w' := by
  go_enter Tryd.func15, Tryd.ntmps15
  go_wp2
  exact bodyPost_ret (v := .agg #[.int .i64 s, .int .i64 k, .int .i64 m]) (by simp [results, Tryd.results15, go_sem]) rfl ⟨rfl, below_go (below_one _ _) (below_one _ _)⟩
/-- A slice value that reads as these keys. -/
def IsKeys (w : World) (v : Value) (l : List (Int × Int × Int)) : Prop :=
  ∃ (a : Option Addr) (cap : Nat), v = .slice a l.length cap ∧ l.length ≤ cap ∧ cap ≤ maxLen ∧ (l = [] ∨ ∃ b off, a = some ⟨b, off, none⟩ ∧ ∀ i x, l[i]? = some x → w.cell? ⟨b, off + i * 3, none⟩ = some (.int .i64 x.1) ∧ w.cell? ⟨b, off + i * 3 + 1, none⟩ = some (.int .i64 x.2.1) ∧ w.cell? ⟨b, off + i * 3 + 2, none⟩ = some (.int .i64 x.2.2))
theorem IsKeys.below {w w' : World} {v : Value} {l : List (Int × Int × Int)} (h : IsKeys w v l) (hb : Below w.heap.size w w') : IsKeys w' v l := by
  obtain ⟨a, cap, h1, h2, h3, h4⟩ := h
  refine ⟨a, cap, h1, h2, h3, h4.imp id ?_⟩
  rintro ⟨b, off, ha, hc⟩
  exact ⟨b, off, ha, fun i x hx => ⟨cell_bel hb (hc i x hx).1, cell_bel hb (hc i x hx).2.1, cell_bel hb (hc i x hx).2.2⟩⟩
theorem infoKey : (Tryd.prog.info? 51).map (fun i => (i.zero, i.size, i.bytes)) = some (some (.agg #[.int .i64 0, .int .i64 0, .int .i64 0]), 3, 24) := by kernel_rfl
def cellsK (l : List (Int × Int × Int)) : List Value := l.flatMap (fun a => [Value.int .i64 a.1, Value.int .i64 a.2.1, Value.int .i64 a.2.2])
theorem cellsK_at : ∀ {l : List (Int × Int × Int)} {i : Nat} {x : Int × Int × Int}, l[i]? = some x → (cellsK l)[i * 3]? = some (.int .i64 x.1) ∧ (cellsK l)[i * 3 + 1]? = some (.int .i64 x.2.1) ∧ (cellsK l)[i * 3 + 2]? = some (.int .i64 x.2.2)
  | [], i, x, h => by simp at h
  | y :: t, 0, x, h => by
    have : y = x := by simpa using h
    subst this; exact ⟨rfl, rfl, rfl⟩
  | y :: t, i + 1, x, h => by
    have := cellsK_at (l := t) (i := i) (x := x) (by simpa using h)
    have e : cellsK (y :: t) = Value.int .i64 y.1 :: Value.int .i64 y.2.1 :: Value.int .i64 y.2.2 :: cellsK t := rfl
    rw [e, show (i + 1) * 3 = i * 3 + 1 + 1 + 1 by omega]
    exact this
theorem cellsK_snoc (l : List (Int × Int × Int)) (x : Int × Int × Int) : cellsK (l ++ [x]) = cellsK l ++ [.int .i64 x.1, .int .i64 x.2.1, .int .i64 x.2.2] := by simp [cellsK]
/-- A list of keys of the call's own, that grows. -/
def OwnK (w : World) (base : Nat) (v : Value) (l : List (Int × Int × Int)) : Prop := w.ownsRow base 51 3 v l.length (cellsK l)
theorem OwnK.nil (w : World) (base : Nat) : OwnK w base (.slice none 0 0) [] := World.ownsRow_nil _ _ _ _
theorem OwnK.alloc {w : World} {base : Nat} {v : Value} {l : List (Int × Int × Int)} (h : OwnK w base v l) (o : Obj) : OwnK (w.alloc o) base v l := World.ownsRow.alloc h o
theorem OwnK.below {w w' : World} {base : Nat} {v : Value} {l : List (Int × Int × Int)} (h : OwnK w base v l) (hb : Below w.heap.size w w') : OwnK w' base v l := by
  refine World.ownsRow.kept (row := none) h ⟨hb.os, hb.tape, hb.output, hb.size, fun k hk _ => hb.block k hk⟩ ?_
  cases e : v.ownBlock with
  | none => exact .inl rfl
  | some k => exact .inr (by simp)
theorem OwnK.isKeys {w : World} {base : Nat} {v : Value} {l : List (Int × Int × Int)} (h : OwnK w base v l) : IsKeys w v l := by
  have hc := fun g e => World.ownsRow.cells h (g := g) e
  obtain ⟨h1, h2⟩ := h
  rcases h2 with ⟨rfl, e⟩ | ⟨g, cap, cur, rfl, _, _, h3, h4, _, _⟩
  · obtain rfl : l = [] := List.eq_nil_of_length_eq_zero e
    exact ⟨none, 0, rfl, Nat.le_refl _, Nat.zero_le _, .inl rfl⟩
  · refine ⟨some ⟨g, 0, none⟩, cap, rfl, h3, h4, .inr ⟨g, 0, rfl, fun i x hx => ?_⟩⟩
    obtain ⟨q1, q2, q3⟩ := cellsK_at hx
    have c1 := hc g rfl _ _ q1
    have c2 := hc g rfl _ _ q2
    have c3 := hc g rfl _ _ q3
    rw [Addr.add_lit] at c1 c2 c3
    exact ⟨c1, by rw [Nat.add_assoc]; exact c2, by rw [Nat.add_assoc]; exact c3⟩
theorem OwnK.shape {w : World} {base : Nat} {v : Value} {l : List (Int × Int × Int)} (h : OwnK w base v l) : ∃ a k, v = .slice a l.length k := by
  obtain ⟨a, cap, h1, _⟩ := h.isKeys
  exact ⟨a, cap, h1⟩
/-- One key more. -/
theorem app_key {w : World} {ops : Array Oper} {rest : List Oper} {o : Oper} {a : Act} {Q : Exit → Act → World → Prop} (hgd : o.guard = none) (s x : Operand)
    (ho : o.op = .call { callee := .builtin .append, args := #[s, x], argTypes := #[46, 46] }) (base : Nat) (v : Value) (l : List (Int × Int × Int)) (k1 k2 k3 : Int) (hs : a.eval s = v) (hown : OwnK w base v l) (hx : a.eval x = .slice (some ⟨w.heap.size, 0, none⟩) 1 1)
    (hsm : l.length ≤ 1000) (hbase : base ≤ w.heap.size)
    (h : ∀ v' w', OwnK w' base v' (l ++ [(k1, k2, k3)]) → (∀ w0 : World, Below w0.heap.size w0 w → w0.heap.size ≤ base → Below w0.heap.size w0 w') → wpList Tryd.prog ops Q rest (a.put o.dst v') w') : wpList Tryd.prog ops Q (o :: rest) a (w.alloc (.cells #[.int .i64 k1, .int .i64 k2, .int .i64 k3] 51)) := by
  obtain ⟨e0, ei, hz0, hz1, hz2⟩ := info_parts infoKey
  have hown2 := hown.alloc (.cells #[.int .i64 k1, .int .i64 k2, .int .i64 k3] 51)
  refine wpList_append_own _ hgd s x 46 ho base 51 e0 (.agg #[.int .i64 0, .int .i64 0, .int .i64 0]) 3 24 Tryd.underlying46 ei hz0 hz1 hz2 rfl (by decide) v _ _ hs hown2 ⟨w.heap.size, 0, none⟩ 1 1 [.int .i64 k1, .int .i64 k2, .int .i64 k3] hx rfl ?_ ?_ (by unfold maxLen; omega) (by omega) (by rw [World.size_alloc]; omega) ?_
  · intro j u hj
    match j, hj with
    | 0, hj => simp at hj; subst hj; simp [Addr.add]
    | 1, hj => simp at hj; subst hj; simp [Addr.add]
    | 2, hj => simp at hj; subst hj; simp [Addr.add]
  · intro u hu; simp at hu; rcases hu with rfl | rfl | rfl <;> rfl
  · intro v' w' ho' hg _
    refine h v' w' ?_ (fun w0 hb hle => (below_go hb (below_one w _)).grown hg (Nat.le_trans hb.size (below_one w _).size) (fun k hk => Nat.le_trans hle (World.ownsRow.lt hown k hk).1))
    unfold OwnK
    rw [List.length_append, cellsK_snoc]
    exact ho'
theorem latC_drop {M : List ((Int × Int × Int) × Int)} {l : Int} {ks : List (Int × Int × Int)} {i : Nat} {d : Int × Int × Int} (h : ks[i]? = some d) : latC M l (ks.drop i) = match lookC M d with | none => none | some e => latC M (if l < e then e else l) (ks.drop (i + 1)) := by
  obtain ⟨hi, rfl⟩ := List.getElem?_eq_some_iff.1 h
  rw [List.drop_eq_getElem_cons hi, latC]
  cases lookC M ks[i] <;> rfl
set_option maxHeartbeats 8000000 in
set_option maxRecDepth 100000 in
theorem latest_any (b : Nat) (v : Value) (M : List ((Int × Int × Int) × Int)) (ks : List (Int × Int × Int)) (w : World) (hm : Ends w b M) (hv : IsKeys w v ks) (hok : ∀ d ∈ ks, okD d) (hl : ks.length ≤ 2) : Calls Tryd.prog 12 #[.map (some b), v] w fun e w' => e = .returned (.tuple #[.int .i64 ((latC M 0 ks).getD 0), .bool (latC M 0 ks).isSome]) ∧ Below w.heap.size w w' := by
  have HM := hide hm
  have HOK := hide hok
  obtain ⟨a, cap, rfl, h2, h3, h4⟩ := hv
  obtain ⟨n, hn⟩ : ∃ n, ks.length = n := ⟨_, rfl⟩
  have H4 := hide h4
  have HN := hide hn
  rw [hn] at h2 hl ⊢
  clear hm hok h4 hn
  obtain ⟨RV, hRV⟩ : ∃ R, R = (latC M 0 ks).getD 0 := ⟨_, rfl⟩
  obtain ⟨RB, hRB⟩ : ∃ R, R = (latC M 0 ks).isSome := ⟨_, rfl⟩
  rw [← hRV, ← hRB]
  have HR := hide (And.intro hRV hRB)
  clear hRV hRB
  go_enter Tryd.func12, Tryd.ntmps12
  go_wp2
  go_loopw [6, 8, 9, 10, 13] (fun lv _ _ _ iv wr => ∃ (k : Nat) (xi l : Int), k ≤ n ∧ xi = (k : Int) ∧ iv = .int .i64 xi ∧ lv = .int .i64 l ∧ Below w.heap.size w wr ∧ latC M 0 ks = latC M l (ks.drop k)) (fun _ _ _ _ iv _ => n - (intOf iv).toNat)
  case atStart => exact ⟨0, 0, 0, Nat.zero_le _, rfl, rfl, rfl, Below.refl _ _, by rw [List.drop_zero]⟩
  case round =>
    obtain ⟨k, xi, l, hk, hxi, rfl, rfl, hbw, hla⟩ := hrel
    have HBW := hide hbw
    have HLA := hide hla
    have HXI := hide hxi
    have hx0 : 0 ≤ xi := by omega
    have hx1 : xi ≤ 2 := by omega
    clear hbw hla hxi
    by_cases hlt : xi < (n : Int)
    · have hkl : k < ks.length := by have := HN.out; have := HXI.out; omega
      obtain ⟨d, hd⟩ : ∃ d, ks[k]? = some d := ⟨_, List.getElem?_eq_getElem hkl⟩
      obtain ⟨b1, o1, ha1, hc1⟩ := H4.out.resolve_left (fun e => by rw [e] at hd; simp at hd)
      subst ha1
      obtain ⟨c1, c2, c3⟩ := hc1 k d hd
      have hokd := HOK.out d (List.mem_of_getElem? hd)
      have hld := latC_drop (M := M) (l := l) hd
      obtain ⟨d1, d2, d3⟩ := d
      dsimp only at c1 c2 c3
      have hrun := (HM.out.below (below_go HBW.out (below_one wr (.cells #[.int .i64 d1, .int .i64 d2, .int .i64 d3] 51)))).look hokd
      unfold keyD at hrun
      dsimp only at hrun
      replace c1 := cell_bel HBW.out c1
      replace c2 := cell_bel HBW.out c2
      replace c3 := cell_bel HBW.out c3
      rw [show k = xi.toNat by have := HXI.out; omega] at c1 c2 c3
      have HB2 := hide (below_go HBW.out (below_one wr (.cells #[.int .i64 d1, .int .i64 d2, .int .i64 d3] 51)))
      clear hc1 hkl hd hokd
      cases hq : lookC M (d1, d2, d3) with
      | none =>
        rw [hq] at hrun hld
        have HZ := hide (show latC M 0 ks = none by rw [HLA.out, hld])
        have HV := hide (show (0 : Int) = RV ∧ false = RB by rw [HR.out.1, HR.out.2, HZ.out]; exact ⟨rfl, rfl⟩)
        dsimp only [Option.getD, Option.isSome] at hrun
        clear hld hq
        go_wp2
        exact bodyPost_ret (v := .tuple #[.int .i64 0, .bool false]) (by simp [results, Tryd.results12, go_sem]) rfl ⟨by rw [← HV.out.1, ← HV.out.2], HB2.out⟩
      | some x =>
        rw [hq] at hrun hld
        dsimp only at hld
        dsimp only [Option.getD, Option.isSome] at hrun
        by_cases hc : l < x
        · have HZ := hide (show latC M 0 ks = latC M x (ks.drop (k + 1)) by rw [HLA.out, hld, if_pos hc])
          clear hld hq
          go_wp2
          go_roundw
          case rel => exact ⟨k + 1, _, _, by have := HXI.out; omega, by have := HXI.out; omega, rfl, rfl, HB2.out, HZ.out⟩
          case measure => have := HXI.out; simp [intOf]; omega
        · have HZ := hide (show latC M 0 ks = latC M l (ks.drop (k + 1)) by rw [HLA.out, hld, if_neg hc])
          clear hld hq
          go_wp2
          go_roundw
          case rel => exact ⟨k + 1, _, _, by have := HXI.out; omega, by have := HXI.out; omega, rfl, rfl, HB2.out, HZ.out⟩
          case measure => have := HXI.out; simp [intOf]; omega
    · have HZ := hide (show latC M 0 ks = some l by rw [HLA.out, List.drop_of_length_le (by have := HN.out; have := HXI.out; omega)]; rfl)
      have HV := hide (show l = RV ∧ true = RB by rw [HR.out.1, HR.out.2, HZ.out]; exact ⟨rfl, rfl⟩)
      go_wp2
      exact bodyPost_ret (v := .tuple #[.int .i64 l, .bool true]) (by simp [results, Tryd.results12, go_sem]) rfl ⟨by rw [← HV.out.1, ← HV.out.2], HBW.out⟩
end Go.Proofs.YtcpgomjaegickagDoor
