/- What CostOf and dearest of the document's answer come to; a list of ints that grows by another. -/
import Derived.Test.YtlbcmebifmebgafDoorCtC5
import Derived.Laws.AppendOwnNone
namespace Go.Proofs.YtlbcmebifmebgafDoor
open Go.RowKit
/-- The greatest of some, from 0 on. -/
def topF (f : Nat → Int) : Nat → Int
  | 0 => 0
  | k + 1 => max (topF f k) (f k)
theorem topF_nonneg (f : Nat → Int) (k : Nat) : 0 ≤ topF f k := by
  induction k with
  | zero => exact Int.le_refl _
  | succ k ih => unfold topF; omega
theorem topF_congr {f g : Nat → Int} {k : Nat} (h : ∀ i, i < k → f i = g i) : topF f k = topF g k := by
  induction k with
  | zero => rfl
  | succ k ih => unfold topF; rw [ih (fun i hi => h i (by omega)), h k (by omega)]
theorem topF_le {f : Nat → Int} {k : Nat} {L : Int} (h0 : 0 ≤ L) (h : ∀ i, i < k → f i ≤ L) : topF f k ≤ L := by
  induction k with
  | zero => exact h0
  | succ k ih => unfold topF; have := ih (fun i hi => h i (by omega)); have := h k (by omega); omega
theorem topF_ge {f : Nat → Int} {k i : Nat} (h : i < k) : f i ≤ topF f k := by
  induction k with
  | zero => omega
  | succ k ih =>
    unfold topF
    rcases Nat.lt_or_ge i k with q | q
    · have := ih q; omega
    · obtain rfl : i = k := by omega
      omega
def atZ (zs : List Int) (i : Nat) : Int := (zs[i]?).getD 0
theorem atZ_at {zs : List Int} {i : Nat} {x : Int} (h : zs[i]? = some x) : atZ zs i = x := by unfold atZ; rw [h]; rfl
theorem topF_tab (n : Nat) (f : Nat → Int) : topF (atZ (tab n f)) n = topF f n := topF_congr (fun _ hi => atZ_at (tab_at hi))
set_option maxHeartbeats 1600000 in
set_option maxRecDepth 100000 in
theorem dearest_any (v : Value) (zs : List Int) (w : World) (hv : IsInts w v zs) : Calls Tryd.prog 19 #[v] w fun e w' => e = .returned (.int .i64 (topF (atZ zs) zs.length)) ∧ w' = w := by
  have hlen := hv.len
  unfold maxLen at hlen
  obtain ⟨a, cap, rfl, h2, h3, h4⟩ := hv
  obtain ⟨n, hn⟩ : ∃ n, zs.length = n := ⟨_, rfl⟩
  rw [hn] at h2 hlen ⊢
  have HN := hide hn
  have H4 := hide h4
  clear hn h4
  go_enter Tryd.func19, Tryd.ntmps19
  go_wp2
  go_loop [3, 4] (fun s i => ∃ (k : Nat) (y : Int), k ≤ n ∧ i = .int .i64 k ∧ s = .int .i64 y ∧ y = topF (atZ zs) k) (fun _ i => n - (intOf i).toNat)
  case atStart => exact ⟨0, 0, Nat.zero_le _, rfl, rfl, rfl⟩
  case round =>
    obtain ⟨k, y, hk, rfl, rfl, hy⟩ := hrel
    have HY := hide hy
    clear hy
    by_cases hlt : k < n
    · obtain ⟨x, hx⟩ := some_at (cs := zs) (p := k) (by have := HN.out; omega)
      obtain ⟨b, off, rfl, hcl⟩ := H4.out.resolve_left (fun e => by rw [e] at hx; simp at hx)
      have cx := hcl k x hx
      have HX := hide (atZ_at hx)
      have hlt' : (k : Int) < (n : Int) := by omega
      clear hcl hx
      by_cases c : y < x
      · have HT := hide (show x = topF (atZ zs) (k + 1) by unfold topF; rw [HX.out, ← HY.out]; omega)
        go_wp2
        go_round
        case rel => exact ⟨k + 1, _, by omega, by go_num, rfl, HT.out⟩
        case measure => simp [intOf]; omega
      · have HT := hide (show y = topF (atZ zs) (k + 1) by unfold topF; rw [HX.out, ← HY.out]; omega)
        go_wp2
        go_round
        case rel => exact ⟨k + 1, _, by omega, by go_num, rfl, HT.out⟩
        case measure => simp [intOf]; omega
    · obtain rfl : k = n := by omega
      go_wp2
      go_ret
      exact ⟨ret_int HY.out, rfl⟩
theorem OwnZ.nilOk {w : World} {base : Nat} {v : Value} {zs : List Int} (h : OwnZ w base v zs) : NilOk v := by
  intro n k e
  obtain ⟨_, h2⟩ := h
  rcases h2 with ⟨rfl, _⟩ | ⟨g, cap, cur, rfl, _⟩
  · injection e with _ e2 e3; exact ⟨e2.symm, e3.symm⟩
  · injection e with e1; cases e1
theorem OwnZ.room {w w0 w' : World} {base : Nat} {v : Value} {zs : List Int} (h : OwnZ w base v zs) (hg : w.grownBy w' v.ownBlock) (hb : Below w0.heap.size w0 w) (hle : w0.heap.size ≤ base) : Below w0.heap.size w0 w' :=
  hb.grown hg hb.size (fun k hk => Nat.le_trans hle (World.ownsRow.lt h k hk).1)
/-- A list of one's own, and another one behind it. -/
theorem app_ints {w : World} {ops : Array Oper} {rest : List Oper} {o : Oper} {a : Act} {Q : Exit → Act → World → Prop} (hgd : o.guard = none) (s x : Operand)
    (ho : o.op = .call { callee := .builtin .append, args := #[s, x], argTypes := #[22, 22] }) (base : Nat) (v u : Value) (ys zs : List Int) (hs : a.eval s = v) (hown : OwnZ w base v ys) (hx : a.eval x = u) (hu : IsInts w u zs) (hn : NilOk u)
    (hsm : ys.length + zs.length ≤ 1000) (hbase : base ≤ w.heap.size)
    (h : ∀ v' w', OwnZ w' base v' (ys ++ zs) → (∀ w0 : World, Below w0.heap.size w0 w → w0.heap.size ≤ base → Below w0.heap.size w0 w') → wpList Tryd.prog ops Q rest (a.put o.dst v') w') : wpList Tryd.prog ops Q (o :: rest) a w := by
  obtain ⟨e0, ei, hz0, hz1, hz2⟩ := info_parts infoInt
  obtain ⟨ad, cap, rfl, h2, h3, h4⟩ := hu
  cases ad with
  | none =>
    obtain ⟨q1, q2⟩ := hn _ _ rfl
    obtain rfl : zs = [] := List.eq_nil_of_length_eq_zero q1
    subst q2
    refine wpList_append_own_none hgd s x 22 ho base 3 e0 1 Tryd.underlying22 ei v _ _ hs hown hx ?_
    refine h v w (by rw [List.append_nil]; exact hown) (fun w0 hb _ => hb)
  | some ad =>
    refine wpList_append_own w hgd s x 22 ho base 3 e0 (.int .i64 0) 1 8 Tryd.underlying22 ei hz0 hz1 hz2 rfl (by decide) v _ _ hs hown ad zs.length cap (zs.map (Value.int .i64)) hx (by simp) ?_ ?_ (by unfold maxLen; omega) (by omega) hbase ?_
    · intro j u' hj
      rcases h4 with rfl | ⟨b, off, e, hc⟩
      · simp at hj
      · obtain rfl := Option.some.inj e
        rw [List.getElem?_map] at hj
        cases hz : zs[j]? with
        | none => rw [hz] at hj; cases hj
        | some y =>
          rw [hz] at hj
          obtain rfl : u' = .int .i64 y := (Option.some.inj hj).symm
          rw [Addr.add_lit]
          exact hc j y hz
    · intro u' hu'
      obtain ⟨y, _, rfl⟩ := List.mem_map.1 hu'
      rfl
    · intro v' w' ho' hg _
      refine h v' w' ?_ (fun w0 hb hle => hown.room hg hb hle)
      unfold OwnZ
      rw [List.length_append, List.map_append]
      exact ho'
theorem ints_one (w : World) (x : Int) : IsInts (w.alloc (.cells #[.int .i64 x] 3)) (.slice (some ⟨w.heap.size, 0, none⟩) 1 1) [x] :=
  ⟨_, _, rfl, Nat.le_refl _, by unfold maxLen; omega, .inr ⟨_, 0, rfl, fun i y hy => by
    match i, hy with
    | 0, hy => simp at hy; subst hy; simp⟩⟩
theorem nil_some (ad : Addr) (n k : Nat) : NilOk (.slice (some ad) n k) := fun _ _ e => by injection e with e1; cases e1
set_option maxHeartbeats 8000000 in
set_option maxRecDepth 100000 in
theorem rcost_any (v u : Value) (cs es : List Int) (w : World) (hv : IsInts w v cs) (hu : IsInts w u es) (hc : ∀ c ∈ cs, 0 ≤ c ∧ c ≤ 1000000) (hl : cs.length ≤ 12) (hr : rising es) (hp : prv es es.length ≤ (cs.length : Int)) (h6 : es.length ≤ 6) :
    Calls Tryd.prog 9 #[v, u] w fun e w' => ∃ s, e = .returned s ∧ IsInts w' s (tab es.length (stg cs es)) ∧ Below w.heap.size w w' := by
  obtain ⟨a, cap, hve, g2, g3, g4⟩ := id hv
  obtain ⟨a', cap', hue, g2', g3', g4'⟩ := id hu
  subst hve hue
  have HC := hide hc
  have HR := hide (And.intro hr hp)
  have H4 := hide g4
  have H4' := hide g4'
  obtain ⟨n, hn⟩ : ∃ n, cs.length = n := ⟨_, rfl⟩
  obtain ⟨m, hm⟩ : ∃ m, es.length = m := ⟨_, rfl⟩
  have HN := hide (And.intro hn hm)
  rw [hn] at g2 hl ⊢
  rw [hm] at g2' h6 ⊢
  clear hv hu hc hr hp g4 g4' hn hm
  go_enter Tryd.func9, Tryd.ntmps9
  go_wp2
  go_loopw [5, 6, 7] (fun sv fv iv wr => ∃ (k : Nat) (xi xf : Int), k ≤ m ∧ xi = (k : Int) ∧ iv = .int .i64 xi ∧ fv = .int .i64 xf ∧ xf = prv es k ∧ OwnZ wr w.heap.size sv (tab k (stg cs es)) ∧ Below w.heap.size w wr) (fun _ _ iv _ => m - (intOf iv).toNat)
  case atStart => exact ⟨0, 0, 0, Nat.zero_le _, rfl, rfl, rfl, rfl, OwnZ.nil _ _, Below.refl _ _⟩
  case round =>
    obtain ⟨k, xi, xf, hk, hxi, rfl, rfl, hxf, hro, hbw⟩ := hrel
    have HRO := hide hro
    have HBW := hide hbw
    have HXI := hide hxi
    have HXF := hide hxf
    have hb0 : 0 ≤ xi := by omega
    have hb1 : xi ≤ 6 := by omega
    clear hro hbw hxi hxf
    by_cases hlt : xi < (m : Int)
    · have hkm : k < m := by have := HXI.out; omega
      obtain ⟨x, hx⟩ := some_at (cs := es) (p := k) (by have := HN.out.2; omega)
      obtain ⟨b, off, ha, hcl⟩ := H4'.out.resolve_left (fun e => by rw [e] at hx; simp at hx)
      subst ha
      have cx : wr.cell? ⟨b, off + xi.toNat, none⟩ = some (.int .i64 x) := by rw [show xi.toNat = k by have := HXI.out; omega]; exact cell_below HBW.out (hcl k x hx)
      have HPX := hide (prv_at hx)
      have hp0 : 0 ≤ xf := by rw [HXF.out]; exact rising_le HR.out.1 (Nat.zero_le k) (by have := HN.out.2; omega)
      have hp1 : xf < x := by rw [HXF.out, ← HPX.out]; exact HR.out.1 k (by have := HN.out.2; omega)
      have hp2 : x ≤ (n : Int) := by
        have h1 := rising_le HR.out.1 (show k + 1 ≤ es.length by have := HN.out.2; omega) (Nat.le_refl _)
        have h2 := HR.out.2
        rw [HPX.out] at h1
        have := HN.out.1; omega
      have HY := hide (show stg cs es k = preS cs x.toNat - preS cs xf.toNat by unfold stg; rw [HPX.out, ← HXF.out])
      have HCX := hide cx
      have HCW := hide (show w.cell? ⟨b, off + xi.toNat, none⟩ = some (.int .i64 x) by rw [show xi.toNat = k by have := HXI.out; omega]; exact hcl k x hx)
      clear hx hcl
      go_wp2
      go_loopw [8, 9] (fun sv kv w2 => ∃ (j : Nat) (xj xs : Int), xj = (j : Int) ∧ xf ≤ xj ∧ xj ≤ x ∧ kv = .int .i64 xj ∧ sv = .int .i64 xs ∧ xs = preS cs j - preS cs xf.toNat ∧ w2 = wr) (fun _ kv _ => (x - intOf kv).toNat)
      case atStart => exact ⟨xf.toNat, xf, 0, by omega, Int.le_refl _, by omega, rfl, rfl, by omega, rfl⟩
      case round =>
        obtain ⟨j, xj, xs, hxj, hj1, hj2, rfl, rfl, hxs, rfl⟩ := hrel
        have HXJ := hide hxj
        have HXS := hide hxs
        have hs0 : 0 ≤ xs := by rw [hxs]; have := preS_mono (fun c h => (HC.out c h).1) xf.toNat j (by omega); omega
        have hs1 : xs ≤ 12000000 := by
          rw [hxs]
          have h1 := preS_bound HC.out j
          have h2 := preS_mono (fun c h => (HC.out c h).1) 0 xf.toNat (Nat.zero_le _)
          rw [preS_zero] at h2
          omega
        have hj0 : 0 ≤ xj := by omega
        have hj12 : xj ≤ 12 := by omega
        have cx := HCX.out
        clear hxj hxs
        by_cases hjx : xj < x
        · obtain ⟨c, hcj⟩ := some_at (cs := cs) (p := j) (by have := HN.out.1; have := HXJ.out; omega)
          obtain ⟨b1, off1, ha, hcl⟩ := H4.out.resolve_left (fun e => by rw [e] at hcj; simp at hcj)
          subst ha
          have cc : wr.cell? ⟨b1, off1 + xj.toNat, none⟩ = some (.int .i64 c) := by rw [show xj.toNat = j by have := HXJ.out; omega]; exact cell_below HBW.out (hcl j c hcj)
          have hc1 := HC.out c (List.mem_of_getElem? hcj)
          have HSU := hide (preS_succ hcj)
          have hjn : xj < (n : Int) := by omega
          obtain ⟨hc0, hc1⟩ := hc1
          clear hcl hcj
          go_wp2
          go_roundw
          case rel => exact ⟨j + 1, _, _, by have := HXJ.out; omega, by omega, by omega, rfl, rfl, by rw [HSU.out, HXS.out]; omega, by first | rfl | trivial⟩
          case measure => simp [intOf]; omega
        · have HZ := hide (show stg cs es k = xs by rw [HY.out, HXS.out, show x.toNat = j by have := HXJ.out; omega])
          have HBS := hide HBW.out.size
          have e1 : Hid (OwnZ (wr.alloc (.cells #[.int .i64 xs] 3)) w.heap.size u5 (tab k (stg cs es))) := hide (HRO.out.alloc _)
          obtain ⟨sa, sk, hse⟩ := HRO.out.shape
          rw [tab_len] at hse
          subst hse
          have hne : ¬ xj < x := hjx
          clear hjx
          go_wp2_with (at_builtin; refine app_ints rfl _ _ rfl w.heap.size _ _ _ [xs] rfl e1.out rfl (ints_one _ _) (nil_some _ _ _) ?c3 ?c5 ?_)
          case c3 => rw [tab_len]; omega
          case c5 => have := HBS.out; simp; omega
          intro v' w2 hown' hgrow
          have HO2 := hide (show OwnZ w2 w.heap.size v' (tab (k + 1) (stg cs es)) by rw [tab_succ, HZ.out]; exact hown')
          have HB2 := hide (hgrow w (bel_al HBW.out) (Nat.le_refl _))
          have cx2 : w2.cell? ⟨b, off + xi.toNat, none⟩ = some (.int .i64 x) := cell_below HB2.out HCW.out
          clear hown' hgrow cx
          go_wp2
          go_roundw
          case rel => exact ⟨k + 1, _, _, by omega, by have := HXI.out; omega, rfl, rfl, HPX.out.symm, HO2.out, HB2.out⟩
          case measure => have := HXI.out; simp [intOf]; omega
    · obtain rfl : k = m := by have := HXI.out; omega
      have HI := hide HRO.out.isInts
      go_wp2
      exact bodyPost_ret (v := u5) (by simp [results, Tryd.results9, go_sem]) rfl ⟨_, rfl, HI.out, HBW.out⟩
end Go.Proofs.YtlbcmebifmebgafDoor
