/- What Text of package fix comes to: the sign, the whole number's digits, the digits behind the point. -/
import Derived.Test.YtlfipljabbgocaaDoorFix
import Derived.Test.YtlfipljabbgocaaDoorTxt
import Derived.Test.YtlfipljabbgocaaDoorShelf
import Derived.Lib.ItoaMem
import Derived.Laws.IdiomStrings
namespace Go.Proofs.YtlfipljabbgocaaDoor
open Go.RowKit
theorem hide {p : Prop} (h : p) : Hid p := h
theorem ret_str {l l' : List UInt8} (h : l = l') : Ending.returned (.string ⟨l.toArray⟩) = .returned (.string ⟨l'.toArray⟩) := by rw [h]
theorem Tryd.infoU8 : (Tryd.prog.info? 5).map (fun i => (i.zero, i.size, i.bytes)) = some (some (.int .u8 0), 1, 1) := by kernel_rfl
def bc (l : List UInt8) : List Value := l.map fun b => Value.int .u8 (b.toNat : Int)
theorem bc_len (l : List UInt8) : (bc l).length = l.length := by simp [bc]
theorem owns_conv {w : World} {B g n cap : Nat} {l : List UInt8} (h : w.ownsRow B 5 1 (.slice (some ⟨g, 0, none⟩) n cap) n (bc l)) (hn : n = l.length) :
    (convert 43 9 (.slice (some ⟨g, 0, none⟩) n cap)).run Tryd.prog w = .ok (.string ⟨l.toArray⟩) w := by
  subst hn
  refine run_convert_bytes_back w _ _ 5 ⟨g, 0, none⟩ cap l Tryd.underlying43 Tryd.underlying5 Tryd.underlying9 (fun j hj => ?_)
  have := h.cellAt j (by omega)
  rw [show (⟨g, 0, none⟩ : Addr).add j = ⟨g, j, none⟩ by unfold Addr.add; split <;> simp_all, this]
  simp [bc, List.getElem?_eq_getElem hj]
theorem rel_more {w wr w1 : World} {g cap k q : Nat} {l : List UInt8} {v' : Value} {o : Obj} (hnx : Below w.heap.size w wr)
    (hown : wr.ownsRow w.heap.size 5 1 (.slice (some ⟨g, 0, none⟩) (k + 1) cap) (k + 1) (bc l))
    (hown' : w1.ownsRow w.heap.size 5 1 v' (k + 1 + 1) (bc l ++ [.int .u8 (48 + (q : Int) * 10 / 256)]))
    (hgrow : (wr.alloc o).grownBy w1 (Value.slice (some ⟨g, 0, none⟩) (k + 1) cap).ownBlock) (hq : q < 256) :
    ∃ g' cap', v' = .slice (some ⟨g', 0, none⟩) (k + 1 + 1) cap' ∧ w1.ownsRow w.heap.size 5 1 (.slice (some ⟨g', 0, none⟩) (k + 1 + 1) cap') (k + 1 + 1) (bc (l ++ [UInt8.ofNat (48 + q * 10 / 256)])) ∧ Below w.heap.size w w1 := by
  have e : bc (l ++ [UInt8.ofNat (48 + q * 10 / 256)]) = bc l ++ [.int .u8 (48 + (q : Int) * 10 / 256)] := by
    simp [bc]; omega
  rw [e]
  have hlt := hown.lt g rfl
  have hb : Below w.heap.size w w1 := (hnx.alloc hnx.size o).grown hgrow (by have := hnx.size; simp; omega) (fun k' h => by simp [Value.ownBlock] at h; omega)
  rcases hown'.2 with ⟨_, h⟩ | ⟨g', cap', _, h, _⟩
  · omega
  · subst h; exact ⟨g', cap', rfl, hown', hb⟩
set_option maxHeartbeats 800000 in
set_option maxRecDepth 100000 in
theorem behind_any (r : Nat) (hr : r < 256) (w : World) : Calls Tryd.prog 18 #[.int .i64 r] w fun e w' => e = .returned (.string ⟨(bp r).toArray⟩) ∧ Below w.heap.size w w' := by
  by_cases h0 : r = 0
  · subst h0
    go_enter Tryd.func18, Tryd.ntmps18
    go_wp2
    go_ret
    exact ⟨rfl, Below.refl _ _⟩
  · have hb0 : ((r : Int) == 0) = false := beq_eq_false_iff_ne.2 (by omega)
    have HF : Hid (bp r = 46 :: bpd 8 r) := by simp [Hid, bp, h0]
    obtain ⟨i0, hi, hz0, hz1, hz2⟩ := info_parts Tryd.infoU8
    go_enter Tryd.func18, Tryd.ntmps18
    go_wp2
    go_loopw [0, 3] (fun t v wr => ∃ (k q g cap : Nat) (l : List UInt8), BpRel r k q l ∧ t = .int .i64 q ∧ v = .slice (some ⟨g, 0, none⟩) (k + 1) cap ∧ wr.ownsRow w.heap.size 5 1 v (k + 1) (bc l) ∧ Below w.heap.size w wr) (fun t v _ => match v with | .slice _ n _ => 9 - n | _ => 0)
    case atStart => exact ⟨0, r, w.heap.size, 1, [46], bpRel_start r hr, rfl, rfl, World.ownsRow_lit w _ 1 (Nat.le_refl _) (by decide) rfl, (Below.refl _ _).alloc (Nat.le_refl _) _⟩
    case round =>
      obtain ⟨k, q, g, cap, l, hR, rfl, rfl, hown, hnx⟩ := hrel
      have hR1 : k ≤ 8 := hR.1
      have hR2 : q < 256 := hR.2.1
      have hR3 : l.length = k + 1 := hR.2.2.1
      by_cases hq : 0 < q
      · have hS := bpRel_step hR hq
        have hk := bpRel_lt hR hq
        have HS := hide hS
        have HX := hide hR3
        clear hS hR hR3
        go_wp2_with (at_builtin; refine wpList_append_own _ rfl _ _ 43 rfl w.heap.size 5 i0 (.int .u8 0) 1 1 Tryd.underlying43 hi hz0 hz1 hz2 rfl (by decide) _ _ _ rfl (hown.alloc _) ⟨wr.heap.size, 0, none⟩ 1 1 [_] rfl rfl (cell_one_new _ _ _) ?c2 ?c3 ?c4 ?c5 ?_)
        case c2 => intro u hu; simp at hu; subst hu; rfl
        case c3 => unfold maxLen; omega
        case c4 => omega
        case c5 => have := hnx.size; simp; omega
        · intro v' w1 hown' hgrow _
          obtain ⟨g', cap', hv', ho', hb'⟩ := rel_more hnx hown hown' hgrow (by omega)
          clear hown' hgrow hown
          subst hv'
          go_wp2
          go_roundw
          case rel => exact ⟨k + 1, q * 10 % 256, g', cap', _, HS.out, by go_num, rfl, ho', hb'⟩
          case measure => simp; omega
      · obtain rfl : q = 0 := by omega
        have hcv := owns_conv hown hR3.symm
        have HE := hide (bpRel_end hR)
        clear hR hR3
        go_wp2
        go_ret
        exact ⟨ret_str (HE.out.trans HF.out.symm), hnx⟩
theorem behind_int (r : Int) (w : World) (h0 : 0 ≤ r) (h1 : r < 256) : Calls Tryd.prog 18 #[.int .i64 r] w fun e w' => e = .returned (.string ⟨(bp r.toNat).toArray⟩) ∧ Below w.heap.size w w' := by
  obtain ⟨n, rfl⟩ := Int.eq_ofNat_of_zero_le h0
  exact behind_any n (by omega) w
theorem below_grow (w : World) (k : Nat) (os : Array Obj) : Below w.heap.size w (Sort.grow (w.drewN k) os) :=
  ⟨rfl, rfl, rfl, by simp [Sort.grow], fun i hi => by simp [Sort.grow, Array.getElem?_append, hi]⟩
/-- The table of powers that Itoa reads. -/
def Pow (w : World) : Prop := Lib.TabIs Tryd.prog w "internal/strconv.uint64pow10" .u64 Lib.pow10Tab
theorem itoa_any (n : Int) (w : World) (h0 : 0 ≤ n) (h1 : n ≤ 2147483647) (ht : Pow w) : Calls Tryd.prog 17 #[.int .i64 n] w fun e w' => e = .returned (.string ⟨(Lib.decDigits n.toNat).toArray⟩) ∧ Below w.heap.size w w' := by
  refine (Tryd.strconv_Itoa n (by omega) (by omega) w ht).mono ?_
  rintro e w' ⟨rfl, k, os, rfl⟩
  refine ⟨ret_str ?_, below_grow _ _ _⟩
  unfold Lib.itoa; rw [if_neg (by omega)]
/-- The text of a number within the ends. -/
def tx (y : Int) : List UInt8 := (if y < 0 then [45] else []) ++ Lib.decDigits (y.natAbs / 256) ++ bp (y.natAbs % 256)
theorem tx_neg (y : Nat) (h : 1 ≤ y) : tx (-(y : Int)) = 45 :: (Lib.decDigits (((y : Int) / 256).toNat) ++ bp (((y : Int) % 256).toNat)) := by
  unfold tx; rw [if_pos (by omega), show (-(y : Int)).natAbs = y by omega, show ((y : Int) / 256).toNat = y / 256 by omega, show ((y : Int) % 256).toNat = y % 256 by omega]; rfl
theorem tx_pos (y : Nat) : tx (y : Int) = Lib.decDigits (((y : Int) / 256).toNat) ++ bp (((y : Int) % 256).toNat) := by
  unfold tx; rw [if_neg (by omega), show (y : Int).natAbs = y by omega, show ((y : Int) / 256).toNat = y / 256 by omega, show ((y : Int) % 256).toNat = y % 256 by omega]; rfl
theorem clamp_at (x z : Int) (w : World) (h : cl x = z) : Calls Tryd.prog 15 #[.int .i64 x] w fun e w' => e = .returned (.int .i64 z) ∧ w' = w := by
  subst h; exact clamp_any x w
theorem ba_app (a b : List UInt8) : ((⟨a.toArray⟩ : ByteArray) ++ (⟨b.toArray⟩ : ByteArray)) = ⟨(a ++ b).toArray⟩ := by
  apply ByteArray.ext; simp
theorem ret_three {a b c d : List UInt8} (h : d = a ++ b ++ c) : Ending.returned (.string ((⟨a.toArray⟩ : ByteArray) ++ (⟨b.toArray⟩ : ByteArray) ++ (⟨c.toArray⟩ : ByteArray))) = .returned (.string ⟨d.toArray⟩) := by
  rw [ba_app, ba_app, h]
theorem decDigits_le : ∀ (k u : Nat), u < 10 ^ (k + 1) → (Lib.decDigits u).length ≤ k + 1
  | 0, u, h => by rw [Lib.decDigits_one (by omega)]; simp
  | k + 1, u, h => by
    rw [Lib.decDigits]
    split
    · simp
    · have := decDigits_le k (u / 10) (by rw [Nat.pow_succ] at h; omega)
      simp; omega
theorem bpd_le : ∀ (f r : Nat), (bpd f r).length ≤ f
  | 0, _ => by simp [bpd]
  | f + 1, r => by
    rw [bpd]; split
    · simp
    · have := bpd_le f (r * 10 % 256); simp; omega
theorem bp_le (r : Nat) : (bp r).length ≤ 9 := by
  unfold bp; split
  · simp
  · have := bpd_le 8 r; simp; omega
set_option maxHeartbeats 800000 in
set_option maxRecDepth 100000 in
theorem text_neg (x : Int) (y : Nat) (w : World) (ht : Pow w) (h0 : 1 ≤ y) (h1 : y ≤ 2147483647) (H : Hid (cl x = -(y : Int))) : Calls Tryd.prog 7 #[.int .i64 x] w fun e w' => e = .returned (.string ⟨(tx (-(y : Int))).toArray⟩) ∧ Below w.heap.size w w' := by
  have HT := hide (tx_neg y h0)
  have hl1 := decDigits_le 6 (y / 256) (by omega)
  have hl2 := bp_le (y % 256)
  go_enter Tryd.func7, Tryd.ntmps7
  go_wp2_with (first | (go_at_call 15; refine (clamp_at _ _ _ H.out).mono ?_; rintro e w' ⟨rfl, rfl⟩) | (go_at_call 17; refine (itoa_any _ _ (by omega) (by omega) ht).mono ?_; rintro e w1 ⟨rfl, hb1⟩) | (go_at_call 18; refine (behind_int _ _ (by omega) (by omega)).mono ?_; rintro e w2 ⟨rfl, hb2⟩))
  go_ret
  exact ⟨ret_three (a := [45]) (HT.out.trans (by rw [show ((y : Int) / 256).toNat = y / 256 by omega, show ((y : Int) % 256).toNat = y % 256 by omega]; rfl)), hb1.trans (hb2.mono hb1.size)⟩
set_option maxHeartbeats 800000 in
set_option maxRecDepth 100000 in
theorem text_pos (x : Int) (y : Nat) (w : World) (ht : Pow w) (h1 : y ≤ 2147483647) (H : Hid (cl x = (y : Int))) : Calls Tryd.prog 7 #[.int .i64 x] w fun e w' => e = .returned (.string ⟨(tx (y : Int)).toArray⟩) ∧ Below w.heap.size w w' := by
  have HT := hide (tx_pos y)
  have hl1 := decDigits_le 6 (y / 256) (by omega)
  have hl2 := bp_le (y % 256)
  go_enter Tryd.func7, Tryd.ntmps7
  go_wp2_with (first | (go_at_call 15; refine (clamp_at _ _ _ H.out).mono ?_; rintro e w' ⟨rfl, rfl⟩) | (go_at_call 17; refine (itoa_any _ _ (by omega) (by omega) ht).mono ?_; rintro e w1 ⟨rfl, hb1⟩) | (go_at_call 18; refine (behind_int _ _ (by omega) (by omega)).mono ?_; rintro e w2 ⟨rfl, hb2⟩))
  go_ret
  exact ⟨ret_three (a := []) (HT.out.trans (by rw [show ((y : Int) / 256).toNat = y / 256 by omega, show ((y : Int) % 256).toNat = y % 256 by omega]; rfl)), hb1.trans (hb2.mono hb1.size)⟩
theorem text_any (x : Int) (w : World) (ht : Pow w) : Calls Tryd.prog 7 #[.int .i64 x] w fun e w' => e = .returned (.string ⟨(tx (cl x)).toArray⟩) ∧ Below w.heap.size w w' := by
  have hb := cl_bd x
  by_cases h : cl x < 0
  · obtain ⟨y, hy⟩ : ∃ y : Nat, cl x = -(y : Int) := ⟨(cl x).natAbs, by omega⟩
    rw [hy]; exact text_neg x y w ht (by omega) (by omega) hy
  · obtain ⟨y, hy⟩ : ∃ y : Nat, cl x = (y : Int) := ⟨(cl x).natAbs, by omega⟩
    rw [hy]; exact text_pos x y w ht (by omega) hy
end Go.Proofs.YtlfipljabbgocaaDoor
