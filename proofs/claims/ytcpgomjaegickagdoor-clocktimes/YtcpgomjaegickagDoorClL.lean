/- How long all takes, and who does nothing how long: Long and Idle of package clock. -/
import Derived.Test.YtcpgomjaegickagDoorClD
import Derived.Test.YtcpgomjaegickagDoorPlR2
import Derived.Test.YtcpgomjaegickagDoorOwZ
namespace Go.Proofs.YtcpgomjaegickagDoor
open Go.RowKit
def mxS : Int → List (Int × Int) → Int
  | l, [] => l
  | l, x :: t => mxS (if l < x.2 then x.2 else l) t
/-- The greatest end. -/
def mxT : Int → List (List (Int × Int)) → Int
  | l, [] => l
  | l, x :: t => mxT (mxS l x) t
/-- What some spans take. -/
def durT : List (Int × Int) → Int
  | [] => 0
  | x :: t => (x.2 - x.1) + durT t
theorem durT_app : ∀ l k, durT (l ++ k) = durT l + durT k
  | [], k => by simp [durT]
  | x :: t, k => by
    have := durT_app t k
    simp only [List.cons_append, durT]
    omega
theorem mxS_drop {l : List (Int × Int)} {i : Nat} {x : Int × Int} (h : l[i]? = some x) (q : Int) : mxS q (l.drop i) = mxS (if q < x.2 then x.2 else q) (l.drop (i + 1)) := by
  obtain ⟨hi, rfl⟩ := List.getElem?_eq_some_iff.1 h
  rw [List.drop_eq_getElem_cons hi, mxS]
theorem mxT_drop {T : List (List (Int × Int))} {i : Nat} {l : List (Int × Int)} (h : T[i]? = some l) (q : Int) : mxT q (T.drop i) = mxT (mxS q l) (T.drop (i + 1)) := by
  obtain ⟨hi, rfl⟩ := List.getElem?_eq_some_iff.1 h
  rw [List.drop_eq_getElem_cons hi, mxT]
theorem mxS_ge : ∀ (l : List (Int × Int)) (q : Int), q ≤ mxS q l ∧ ∀ x ∈ l, x.2 ≤ mxS q l
  | [], q => ⟨Int.le_refl _, fun x h => by simp at h⟩
  | y :: t, q => by
    obtain ⟨h1, h2⟩ := mxS_ge t (if q < y.2 then y.2 else q)
    have h3 : q ≤ (if q < y.2 then y.2 else q) ∧ y.2 ≤ (if q < y.2 then y.2 else q) := by split <;> omega
    refine ⟨by unfold mxS; omega, fun x hx => ?_⟩
    unfold mxS
    rcases List.mem_cons.1 hx with rfl | hx
    · omega
    · exact h2 x hx
theorem mxS_le : ∀ (l : List (Int × Int)) (q B : Int), q ≤ B → (∀ x ∈ l, x.2 ≤ B) → mxS q l ≤ B
  | [], q, B, h, _ => h
  | y :: t, q, B, h, h2 => by
    unfold mxS
    refine mxS_le t _ B ?_ (fun x hx => h2 x (List.mem_cons_of_mem _ hx))
    have := h2 y (by simp)
    split <;> omega
theorem mxT_ge : ∀ (T : List (List (Int × Int))) (q : Int), q ≤ mxT q T ∧ ∀ l ∈ T, ∀ x ∈ l, x.2 ≤ mxT q T
  | [], q => ⟨Int.le_refl _, fun l h => by simp at h⟩
  | y :: t, q => by
    obtain ⟨h1, h2⟩ := mxT_ge t (mxS q y)
    obtain ⟨h3, h4⟩ := mxS_ge y q
    refine ⟨by unfold mxT; omega, fun l hl x hx => ?_⟩
    unfold mxT
    rcases List.mem_cons.1 hl with rfl | hl
    · have := h4 x hx; omega
    · exact h2 l hl x hx
theorem mxT_le : ∀ (T : List (List (Int × Int))) (q B : Int), q ≤ B → (∀ l ∈ T, ∀ x ∈ l, x.2 ≤ B) → mxT q T ≤ B
  | [], q, B, h, _ => h
  | y :: t, q, B, h, h2 => by
    unfold mxT
    exact mxT_le t _ B (mxS_le y q B h (h2 y (by simp))) (fun l hl => h2 l (List.mem_cons_of_mem _ hl))
theorem mem_stA {T : List (List (Int × Int))} {l : List (Int × Int)} {x : Int × Int} (hl : l ∈ T) (hx : x ∈ l) : ∃ s i : Nat, s < T.length ∧ (stA T s)[i]? = some x := by
  obtain ⟨s, hs⟩ := List.getElem?_of_mem hl
  obtain ⟨i, hi⟩ := List.getElem?_of_mem hx
  exact ⟨s, i, (List.getElem?_eq_some_iff.1 hs).1, by rw [stA_at hs]; exact hi⟩
theorem BdT.long {T : List (List (Int × Int))} {B : Int} (h : BdT T B) : 0 ≤ mxT 0 T ∧ mxT 0 T ≤ B := by
  refine ⟨(mxT_ge T 0).1, mxT_le T 0 B h.1 (fun l hl x hx => ?_)⟩
  obtain ⟨s, i, _, hi⟩ := mem_stA hl hx
  exact (h.2 s i x hi).2.2
theorem durT_le {l : List (Int × Int)} {B : Int} (h : ∀ x ∈ l, 0 ≤ x.1 ∧ x.1 ≤ x.2 ∧ x.2 ≤ B) : 0 ≤ durT l ∧ durT l ≤ (l.length : Int) * B := by
  induction l with
  | nil => simp [durT]
  | cons x t ih =>
    obtain ⟨h1, h2⟩ := ih (fun y hy => h y (List.mem_cons_of_mem _ hy))
    have h3 := h x (by simp)
    unfold durT
    rw [List.length_cons, show ((t.length + 1 : Nat) : Int) = (t.length : Int) + 1 by omega, Int.add_mul]
    omega
set_option maxHeartbeats 16000000 in
set_option maxRecDepth 100000 in
theorem long_any (v : Value) (T : List (List (Int × Int))) (B : Int) (w : World) (hv : IsPlan w v T) (hb : BdT T B) (hl6 : T.length ≤ 6) (h24 : ∀ s, (stA T s).length ≤ 24) : Calls Tryd.prog 9 #[v] w fun e w' => e = .returned (.int .i64 (mxT 0 T)) ∧ Below w.heap.size w w' := by
  obtain ⟨a, cap, rfl, g2, g3, g4⟩ := hv
  obtain ⟨n, hn⟩ : ∃ n, T.length = n := ⟨_, rfl⟩
  obtain ⟨R, hR⟩ : ∃ x, mxT 0 T = x := ⟨_, rfl⟩
  have HBD := hide hb
  have H24 := hide h24
  have H4 := hide g4
  have HN := hide hn
  have HR := hide hR
  have hni : (n : Int) ≤ 6 := by omega
  rw [hn] at g2 hl6 ⊢
  rw [hR]
  clear g4 hb h24 hn hR
  go_enter Tryd.func9, Tryd.ntmps9
  go_wp2
  go_loopw [3, 4, 11] (fun lv fv iv wr => ∃ (k : Nat) (xi l : Int) (f : Bool), k ≤ n ∧ xi = (k : Int) ∧ iv = .int .i64 xi ∧ lv = .int .i64 l ∧ fv = .bool f ∧ Below w.heap.size w wr ∧ R = mxT l (T.drop k) ∧ (f = false → l = 0)) (fun _ _ iv _ => n - (intOf iv).toNat)
  case atStart => exact ⟨0, 0, 0, false, Nat.zero_le _, rfl, rfl, rfl, rfl, Below.refl _ _, by rw [List.drop_zero, HR.out], fun _ => rfl⟩
  case round =>
    obtain ⟨k, xi, l, f, hk, hxi, rfl, rfl, rfl, hbw, hla, hf0⟩ := hrel
    have HBW := hide hbw
    have HLA := hide hla
    have HF0 := hide hf0
    have HXI := hide hxi
    have hx0 : 0 ≤ xi := by omega
    have hx1 : xi ≤ 6 := by omega
    clear hbw hla hxi hf0
    by_cases hlt : xi < (n : Int)
    · have hkl : k < T.length := by have := HN.out; have := HXI.out; omega
      obtain ⟨row, hrow⟩ := stage_at hkl
      obtain ⟨b, off, ha, hcl⟩ := H4.out.resolve_left (fun e => by rw [e] at hkl; simp at hkl)
      subst ha
      obtain ⟨sv, hsv, hia⟩ := hcl k row hrow
      obtain ⟨ra, rc, rfl, r2, r3, r4⟩ := hia
      replace hsv := cell_bel HBW.out hsv
      rw [show k = xi.toNat by have := HXI.out; omega] at hsv
      obtain ⟨ln, hln⟩ : ∃ x, row.length = x := ⟨_, rfl⟩
      have hl24 : ln ≤ 24 := by rw [← hln, ← stA_at hrow]; exact H24.out k
      have HST := hide (stA_at hrow)
      have HNX := hide (mxT_drop hrow l)
      have HRW := hide r4
      have HLN := hide hln
      rw [hln] at hsv r2
      obtain ⟨W0, hW0⟩ : ∃ x, x = wr := ⟨_, rfl⟩
      subst hW0
      clear hcl r4 hln hkl hrow
      go_wp2
      go_loopw [3, 4, 8, 17] (fun lv fv _ iv w2 => ∃ (j : Nat) (xj l2 : Int) (f2 : Bool), j ≤ ln ∧ xj = (j : Int) ∧ iv = .int .i64 xj ∧ lv = .int .i64 l2 ∧ fv = .bool f2 ∧ Below W0.heap.size W0 w2 ∧ mxS l row = mxS l2 (row.drop j) ∧ (f2 = false → l2 = 0)) (fun _ _ _ iv _ => ln - (intOf iv).toNat)
      case atStart => exact ⟨0, 0, l, f, Nat.zero_le _, rfl, rfl, rfl, rfl, Below.refl _ _, by rw [List.drop_zero], HF0.out⟩
      case round =>
        obtain ⟨j, xj, l2, f2, hj, hxj, rfl, rfl, rfl, hbw, hla, hf0⟩ := hrel
        have HB2 := hide hbw
        have HL2 := hide hla
        have HF2 := hide hf0
        have HXJ := hide hxj
        have hz0 : 0 ≤ xj := by omega
        have hz1 : xj ≤ 24 := by omega
        clear hbw hla hxj hf0
        by_cases hlt2 : xj < (ln : Int)
        · obtain ⟨x, hx⟩ := act_at (l := row) (i := j) (by have := HLN.out; have := HXJ.out; omega)
          obtain ⟨b3, off3, ha3, hcl3⟩ := HRW.out.resolve_left (fun e => by rw [e] at hx; simp at hx)
          subst ha3
          obtain ⟨c1, c2⟩ := hcl3 j x hx
          replace c1 := cell_bel (below_go HBW.out HB2.out) c1
          replace c2 := cell_bel (below_go HBW.out HB2.out) c2
          rw [show j = xj.toNat by have := HXJ.out; omega] at c1 c2
          have hdr := mxS_drop hx l2
          have hnn : 0 ≤ x.2 := by have := HBD.out.2 k j x (by rw [HST.out]; exact hx); omega
          obtain ⟨x1, x2⟩ := x
          dsimp only at c1 c2 hdr hnn
          have HB3 := hide (below_go HB2.out (below_one wr (.cells #[.int .i64 x1, .int .i64 x2] 36)))
          clear hcl3 hx
          cases f2 with
          | false =>
            have hl0 := HF2.out rfl
            have HZ := hide (show mxS l row = mxS x2 (row.drop (j + 1)) by
              rw [HL2.out, hdr]
              by_cases q : l2 < x2
              · rw [if_pos q]
              · rw [if_neg q, show l2 = x2 by omega])
            clear hdr hnn hl0
            go_wp2
            go_roundw
            case rel => exact ⟨j + 1, _, _, true, by have := HXJ.out; omega, by have := HXJ.out; omega, rfl, rfl, rfl, HB3.out, HZ.out, (fun e => by cases e)⟩
            case measure => have := HXJ.out; simp [intOf]; omega
          | true =>
            by_cases q : l2 < x2
            · have HZ := hide (show mxS l row = mxS x2 (row.drop (j + 1)) by rw [HL2.out, hdr, if_pos q])
              clear hdr hnn
              go_wp2
              go_roundw
              case rel => exact ⟨j + 1, _, _, true, by have := HXJ.out; omega, by have := HXJ.out; omega, rfl, rfl, rfl, HB3.out, HZ.out, (fun e => by cases e)⟩
              case measure => have := HXJ.out; simp [intOf]; omega
            · have HZ := hide (show mxS l row = mxS l2 (row.drop (j + 1)) by rw [HL2.out, hdr, if_neg q])
              clear hdr hnn
              go_wp2
              go_roundw
              case rel => exact ⟨j + 1, _, _, true, by have := HXJ.out; omega, by have := HXJ.out; omega, rfl, rfl, rfl, HB3.out, HZ.out, (fun e => by cases e)⟩
              case measure => have := HXJ.out; simp [intOf]; omega
        · have HZ := hide (show R = mxT l2 (T.drop (k + 1)) by
            rw [HLA.out, HNX.out, HL2.out, List.drop_of_length_le (by have := HLN.out; have := HXJ.out; omega)]
            rfl)
          go_wp2
          go_roundw
          case rel => exact ⟨k + 1, _, _, f2, by have := HXI.out; omega, by have := HXI.out; omega, rfl, rfl, rfl, below_go HBW.out HB2.out, HZ.out, HF2.out⟩
          case measure => have := HXI.out; simp [intOf]; omega
    · have HZ := hide (show l = R by
        rw [HLA.out, List.drop_of_length_le (by have := HN.out; have := HXI.out; omega)]
        rfl)
      go_wp2
      go_ret
      exact ⟨ret_int HZ.out, HBW.out⟩
/-- Who does nothing how long. -/
def idlX (T : List (List (Int × Int))) : List Int := T.map (fun l => mxT 0 T - durT l)
def idlN (T : List (List (Int × Int))) (L : Int) (k : Nat) : List Int := (T.take k).map (fun l => L - durT l)
theorem idl_snoc {T : List (List (Int × Int))} {L : Int} {k : Nat} {l : List (Int × Int)} (h : T[k]? = some l) : idlN T L (k + 1) = idlN T L k ++ [L - durT l] := by
  unfold idlN
  rw [List.take_add_one, h]; simp
theorem idlN_len (T : List (List (Int × Int))) (L : Int) {k : Nat} (h : k ≤ T.length) : (idlN T L k).length = k := by
  unfold idlN
  rw [List.length_map, List.length_take]; omega
theorem durT_snoc {l : List (Int × Int)} {k : Nat} {x : Int × Int} (h : l[k]? = some x) : durT (l.take (k + 1)) = durT (l.take k) + (x.2 - x.1) := by
  rw [List.take_add_one, h, durT_app]; simp [durT]
set_option maxHeartbeats 16000000 in
set_option maxRecDepth 100000 in
theorem idle_any (v : Value) (T : List (List (Int × Int))) (w : World) (hv : IsPlan w v T) (hb : BdT T 144000000) (hl6 : T.length ≤ 6) (h24 : ∀ s, (stA T s).length ≤ 24) : Calls Tryd.prog 10 #[v] w fun e w' => ∃ s, e = .returned s ∧ IsInts w' s (idlX T) ∧ Below w.heap.size w w' := by
  have HLO := hide (long_any v T _ w hv hb hl6 h24)
  obtain ⟨a, cap, rfl, g2, g3, g4⟩ := hv
  obtain ⟨n, hn⟩ : ∃ n, T.length = n := ⟨_, rfl⟩
  obtain ⟨L, hL⟩ : ∃ x, mxT 0 T = x := ⟨_, rfl⟩
  obtain ⟨hL0, hL1⟩ := hb.long
  rw [hL] at hL0 hL1 HLO
  have HIX := hide (show idlX T = idlN T L n by unfold idlX idlN; rw [hL, ← hn, List.take_length])
  have HBD := hide hb
  have H24 := hide h24
  have H4 := hide g4
  have HN := hide hn
  have hni : (n : Int) ≤ 6 := by omega
  obtain ⟨e0, he0, hz0, hz1, hz2⟩ := info_parts infoInt
  have HEI := hide (And.intro he0 (And.intro hz0 (And.intro hz1 hz2)))
  rw [hn] at g2 hl6 HLO ⊢
  clear g4 hb h24 hn hL he0 hz0 hz1 hz2
  go_enter Tryd.func10, Tryd.ntmps10
  go_wp2_with (go_at_call 9; refine HLO.out.mono ?_; rintro e w1 ⟨rfl, hb1⟩; have HB1 := hide hb1; have hmk := run_mk0 (n : Int) n rfl (by omega) w1; have HO0 := hide (OwnZ.made w1 n (by omega)); clear hb1)
  clear hmk
  go_loopw [4, 7, 17] (fun ov _ iv wr => ∃ (k : Nat) (xi : Int), k ≤ n ∧ xi = (k : Int) ∧ iv = .int .i64 xi ∧ OwnZ wr w1.heap.size ov (idlN T L k) ∧ Below w1.heap.size w1 wr) (fun _ _ iv _ => n - (intOf iv).toNat)
  case atStart => exact ⟨0, 0, Nat.zero_le _, rfl, rfl, HO0.out, below_one _ _⟩
  case round =>
    obtain ⟨k, xi, hk, hxi, rfl, hro, hbw⟩ := hrel
    have HRO := hide hro
    have HBW := hide hbw
    have HXI := hide hxi
    have hx0 : 0 ≤ xi := by omega
    have hx1 : xi ≤ 6 := by omega
    obtain ⟨oa, ok, hoe⟩ := hro.shape
    obtain ⟨kn, hkn⟩ : ∃ x, (idlN T L k).length = x := ⟨_, rfl⟩
    have hk6 : kn ≤ 6 := by rw [← hkn, idlN_len _ _ (by have := HN.out; omega)]; omega
    have HKN := hide hkn
    rw [hkn] at hoe
    subst hoe
    clear hro hbw hxi hkn
    by_cases hlt : xi < (n : Int)
    · have hkl : k < T.length := by have := HN.out; have := HXI.out; omega
      obtain ⟨row, hrow⟩ := stage_at hkl
      obtain ⟨b, off, ha, hcl⟩ := H4.out.resolve_left (fun e => by rw [e] at hkl; simp at hkl)
      subst ha
      obtain ⟨sv, hsv, hia⟩ := hcl k row hrow
      obtain ⟨ra, rc, rfl, r2, r3, r4⟩ := hia
      have HBZ := hide (below_go HB1.out HBW.out)
      replace hsv := cell_bel HBZ.out hsv
      rw [show k = xi.toNat by have := HXI.out; omega] at hsv
      obtain ⟨ln, hln⟩ : ∃ x, row.length = x := ⟨_, rfl⟩
      have hl24 : ln ≤ 24 := by rw [← hln, ← stA_at hrow]; exact H24.out k
      have HST := hide (stA_at hrow)
      have HNX := hide (idl_snoc (L := L) hrow)
      have HRW := hide r4
      have HLN := hide hln
      have HIN := hide (show ∀ x ∈ row, 0 ≤ x.1 ∧ x.1 ≤ x.2 ∧ x.2 ≤ 144000000 from fun x hx => by
        obtain ⟨i, hi⟩ := List.getElem?_of_mem hx
        exact HBD.out.2 k i x (by rw [HST.out]; exact hi))
      rw [hln] at hsv r2
      obtain ⟨W0, hW0⟩ : ∃ x, x = wr := ⟨_, rfl⟩
      subst hW0
      clear hcl r4 hln hkl hrow
      go_wp2
      go_loopw [7, 9, 24] (fun lv _ iv w2 => ∃ (j : Nat) (xj l2 : Int), j ≤ ln ∧ xj = (j : Int) ∧ iv = .int .i64 xj ∧ lv = .int .i64 l2 ∧ Below W0.heap.size W0 w2 ∧ l2 = L - durT (row.take j)) (fun _ _ iv _ => ln - (intOf iv).toNat)
      case atStart => exact ⟨0, 0, L, Nat.zero_le _, rfl, rfl, rfl, Below.refl _ _, by rw [List.take_zero]; simp [durT]⟩
      case round =>
        obtain ⟨j, xj, l2, hj, hxj, rfl, rfl, hbw, hla⟩ := hrel
        have HB2 := hide hbw
        have HL2 := hide hla
        have HXJ := hide hxj
        have hz0 : 0 ≤ xj := by omega
        have hz1 : xj ≤ 24 := by omega
        have hbd : -3500000000 ≤ l2 ∧ l2 ≤ 144000000 := by
          obtain ⟨q1, q2⟩ := durT_le (l := row.take j) (B := 144000000) (fun x hx => HIN.out x (List.mem_of_mem_take hx))
          have q3 : (row.take j).length ≤ 24 := by rw [List.length_take]; omega
          omega
        obtain ⟨hbd0, hbd1⟩ := hbd
        clear hbw hla hxj
        by_cases hlt2 : xj < (ln : Int)
        · obtain ⟨x, hx⟩ := act_at (l := row) (i := j) (by have := HLN.out; have := HXJ.out; omega)
          obtain ⟨b3, off3, ha3, hcl3⟩ := HRW.out.resolve_left (fun e => by rw [e] at hx; simp at hx)
          subst ha3
          obtain ⟨c1, c2⟩ := hcl3 j x hx
          replace c1 := cell_bel (below_go HBZ.out HB2.out) c1
          replace c2 := cell_bel (below_go HBZ.out HB2.out) c2
          rw [show j = xj.toNat by have := HXJ.out; omega] at c1 c2
          obtain ⟨i0, i1, i2⟩ := HIN.out x (List.mem_of_getElem? hx)
          have hds := durT_snoc hx
          obtain ⟨x1, x2⟩ := x
          dsimp only at c1 c2 i0 i1 i2 hds
          have HZ := hide (show l2 - (x2 - x1) = L - durT (row.take (j + 1)) by rw [HL2.out, hds]; omega)
          have HB3 := hide (below_go HB2.out (below_one wr (.cells #[.int .i64 x1, .int .i64 x2] 36)))
          have hq1 : IntKind.i64.wrap (x2 - x1) = x2 - x1 := by rw [IntKind.wrap_i64]; omega
          have hq2 : IntKind.i64.wrap (l2 - (x2 - x1)) = l2 - (x2 - x1) := by rw [IntKind.wrap_i64]; omega
          clear hcl3 hx hds
          go_wp2
          go_roundw
          case rel => exact ⟨j + 1, _, _, by have := HXJ.out; omega, by have := HXJ.out; omega, rfl, rfl, HB3.out, HZ.out⟩
          case measure => have := HXJ.out; simp [intOf]; omega
        · have HZ := hide (show l2 = L - durT row by rw [HL2.out, List.take_of_length_le (by have := HLN.out; have := HXJ.out; omega)])
          obtain ⟨W2, hW2⟩ : ∃ x, x = wr := ⟨_, rfl⟩
          subst hW2
          go_wp2_with (at_builtin; refine wpList_append_own _ rfl _ _ 23 rfl w1.heap.size 3 e0 (.int .i64 0) 1 8 Tryd.underlying23 HEI.out.1 HEI.out.2.1 HEI.out.2.2.1 HEI.out.2.2.2 rfl (by decide) (.slice oa kn ok) _ _ rfl ((HRO.out.below HB2.out).alloc _) ⟨_, 0, none⟩ 1 1 [.int .i64 l2] rfl rfl (one_cells _ _) (one_one _) ?c3 ?c4 ?c5 ?_)
          case c3 => have := HKN.out; unfold maxLen; omega
          case c4 => have := HKN.out; omega
          case c5 => have h1 := HBW.out.size; have h2 := HB2.out.size; omega
          intro v' w3 hown' hg _
          have HO2 := hide (show OwnZ w3 w1.heap.size v' (idlN T L (k + 1)) by rw [HNX.out, ← HZ.out]; exact OwnZ.step hown')
          have HB4 := hide (show Below w1.heap.size w1 w3 from (below_go (below_go HBW.out HB2.out) (below_one _ _)).grown hg (by rw [World.size_alloc]; have h1 := HBW.out.size; have h2 := HB2.out.size; omega) (fun q hq => (World.ownsRow.lt HRO.out q hq).1))
          clear hown' hg
          go_wp2
          go_roundw
          case rel => exact ⟨k + 1, _, by have := HXI.out; omega, by have := HXI.out; omega, rfl, HO2.out, HB4.out⟩
          case measure => have := HXI.out; simp [intOf]; omega
    · obtain rfl : k = n := by have := HXI.out; omega
      go_wp2
      exact bodyPost_ret (v := .slice oa kn ok) (by simp [results, Tryd.results10, go_sem]) rfl ⟨_, rfl, by rw [HIX.out]; exact HRO.out.isInts, below_go HB1.out HBW.out⟩
end Go.Proofs.YtcpgomjaegickagDoor
