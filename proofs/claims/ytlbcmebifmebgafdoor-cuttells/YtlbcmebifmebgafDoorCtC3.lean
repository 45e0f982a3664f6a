/- What fits, leastLimit and the library's Search come to: the least limit within which so many stages are enough. -/
import Derived.Test.YtlbcmebifmebgafDoorCtC1
import Derived.Deep.LoopGhost
namespace Go.Proofs.YtlbcmebifmebgafDoor
open Go.RowKit
theorem fits_no {cs : List Int} {r k : Nat} {x L : Int} (h : cs[k]? = some x) (hx : L < x) : ¬ fitsP cs r L := fun e => by
  have := e.1 x (List.mem_of_getElem? h); omega
open Classical in
set_option maxHeartbeats 4000000 in
set_option maxRecDepth 100000 in
theorem fits_any (v : Value) (cs : List Int) (R : Nat) (r L : Int) (w : World) (hv : IsInts w v cs) (hc : ∀ c ∈ cs, 0 ≤ c ∧ c ≤ 1000000) (hl : cs.length ≤ 12) (hr : r = (R : Int)) :
    Calls Tryd.prog 23 #[v, .int .i64 r, .int .i64 L] w fun e w' => e = .returned (.bool (decide (fitsP cs R L))) ∧ w' = w := by
  obtain ⟨a, cap, rfl, h2, h3, h4⟩ := hv
  obtain ⟨n, hn⟩ : ∃ n, cs.length = n := ⟨_, rfl⟩
  rw [hn] at h2 hl ⊢
  have HN := hide hn
  have H4 := hide h4
  have HC := hide hc
  have HR := hide hr
  clear hn h4 hc hr
  go_enter Tryd.func23, Tryd.ntmps23
  go_wp2
  go_loop [7, 8, 13] (fun f s i => ∃ (k F : Nat) (xf xs : Int), k ≤ n ∧ F ≤ k ∧ i = .int .i64 k ∧ f = .int .i64 xf ∧ xf = (F : Int) ∧ s = .int .i64 xs ∧ 0 ≤ xs ∧ xs ≤ 1000000 * k ∧ (∀ j x, j < k → cs[j]? = some x → x ≤ L) ∧ gr L (cs.drop k) xs F = gr L cs 0 0) (fun _ _ i => n - (intOf i).toNat)
  case atStart => exact ⟨0, 0, 0, 0, Nat.zero_le _, Nat.zero_le _, rfl, rfl, rfl, rfl, by omega, by omega, fun j x hj _ => by omega, rfl⟩
  case round =>
    obtain ⟨k, F, xf, xs, hk, hF, rfl, rfl, hxf, rfl, hs0, hs1, he, hg⟩ := hrel
    have HE := hide he
    have HG := hide hg
    have HF := hide hxf
    have hf0 : 0 ≤ xf := by omega
    have hf1 : xf ≤ 12 := by omega
    have hs2 : xs ≤ 12000000 := by omega
    have HS := hide hs1
    clear he hg hxf hs1
    by_cases hlt : k < n
    · obtain ⟨x, hx⟩ := some_at (cs := cs) (p := k) (by have := HN.out; omega)
      obtain ⟨b, off, rfl, hcl⟩ := H4.out.resolve_left (fun e => by rw [e] at hx; simp at hx)
      have cx := hcl k x hx
      have hx1 := HC.out x (List.mem_of_getElem? hx)
      have HX := hide hx
      have hlt' : (k : Int) < (n : Int) := by omega
      obtain ⟨hx0, hx1⟩ := hx1
      clear hcl hx
      by_cases c1 : L < x
      · have HB := hide (fits_no (r := R) HX.out c1)
        go_wp2
        go_ret
        exact ⟨ret_bool (by rw [eq_comm, decide_eq_false_iff_not]; exact HB.out), rfl⟩
      · have HU := hide (show ∀ j y, j < k + 1 → cs[j]? = some y → y ≤ L by
          intro j y hj hy
          rcases Nat.lt_or_ge j k with h | h
          · exact HE.out j y h hy
          · have e : y = x := Option.some.inj (by rw [← hy, show j = k by omega, HX.out])
            rw [e]; omega)
        by_cases c2 : xf = 0
        · have HG2 := hide (show gr L (cs.drop (k + 1)) x (F + 1) = gr L cs 0 0 by
            rw [← HG.out, gr_drop HX.out, if_pos (.inl (by have := HF.out; omega))])
          have n2 : (xf == 0) = true := by simp [c2]
          clear c2
          go_wp2
          go_round
          case rel => exact ⟨k + 1, F + 1, _, _, by omega, by omega, by go_num, rfl, by have := HF.out; omega, rfl, hx0, by have := HS.out; omega, HU.out, HG2.out⟩
          case measure => simp [intOf]; omega
        · have n2 : (xf == 0) = false := by simpa using c2
          have HC2 := hide c2
          clear c2
          by_cases c3 : L < xs + x
          · have HG2 := hide (show gr L (cs.drop (k + 1)) x (F + 1) = gr L cs 0 0 by
              rw [← HG.out, gr_drop HX.out, if_pos (.inr c3)])
            go_wp2
            go_round
            case rel => exact ⟨k + 1, F + 1, _, _, by omega, by omega, by go_num, rfl, by have := HF.out; omega, rfl, hx0, by have := HS.out; omega, HU.out, HG2.out⟩
            case measure => simp [intOf]; omega
          · have HG2 := hide (show gr L (cs.drop (k + 1)) (xs + x) F = gr L cs 0 0 by
              rw [← HG.out, gr_drop HX.out, if_neg (by have := HF.out; have := HC2.out; omega)])
            go_wp2
            go_round
            case rel => exact ⟨k + 1, F, _, _, by omega, by omega, by go_num, rfl, HF.out, rfl, by omega, by have := HS.out; omega, HU.out, HG2.out⟩
            case measure => simp [intOf]; omega
    · have hkn : k = cs.length := by have := HN.out; omega
      have HD := hide (show decide (xf ≤ r) = decide (fitsP cs R L) by
        rw [decide_eq_decide]
        have hg := HG.out
        rw [hkn, gr_end] at hg
        unfold fitsP
        rw [← hg, HF.out, HR.out]
        exact ⟨fun h => ⟨fun c hc => by
          obtain ⟨j, hj, hjc⟩ := List.getElem_of_mem hc
          exact HE.out j c (by omega) (by rw [List.getElem?_eq_getElem hj, hjc]), by omega⟩, fun h => by have := h.2; omega⟩)
      clear hkn
      go_wp2
      go_ret
      exact ⟨ret_bool HD.out, rfl⟩
open Classical in
/-- The function that leastLimit hands to Search. -/
theorem limit_clos (B C : Nat) (v : Value) (cs : List Int) (R : Nat) (r i : Int) (w : World) (hB : w.cell? ⟨B, 0, none⟩ = some v) (hC : w.cell? ⟨C, 0, none⟩ = some (.int .i64 r)) (hv : IsInts w v cs) (hc : ∀ c ∈ cs, 0 ≤ c ∧ c ≤ 1000000) (hl : cs.length ≤ 12) (hr : r = (R : Int)) :
    Calls Tryd.prog 22 (#[.int .i64 i] ++ #[.pointer (some ⟨B, 0, none⟩), .pointer (some ⟨C, 0, none⟩)]) w fun e w' => e = .returned (.bool (decide (fitsP cs R i))) ∧ w' = w := by
  have HF := hide (fits_any v cs R r i w hv hc hl hr)
  obtain ⟨a, n, k, rfl⟩ := hv.shape
  obtain ⟨d, hd⟩ : ∃ d, decide (fitsP cs R i) = d := ⟨_, rfl⟩
  rw [hd] at HF ⊢
  clear hv hc hr hd
  go_enter Tryd.func22, Tryd.ntmps22
  go_wp2_with (go_at_call 23; refine HF.out.mono ?_; rintro e w' ⟨rfl, rfl⟩)
  go_ret
  exact ⟨rfl, rfl⟩
set_option maxHeartbeats 4000000 in
set_option maxRecDepth 1000000 in
/-- Search, at a function that only reads. -/
theorem search_any (K : Nat) (cap : Array Value) (eg : ∀ args w, (callFunc K args).run Tryd.prog w = .ok (.enter K args) w) (N : Nat) (p : Nat → Bool) (w : World) (hN : N ≤ 12000000)
    (hf : ∀ i : Nat, i < N → Calls Tryd.prog K (#[.int .i64 (i : Int)] ++ cap) w fun e w' => e = .returned (.bool (p i)) ∧ w' = w) (hm : ∀ a b, a ≤ b → b < N → p a = true → p b = true) :
    Calls Tryd.prog 21 #[.int .i64 (N : Int), .func (.func K) #[] cap] w fun e w' => ∃ m : Nat, e = .returned (.int .i64 (m : Int)) ∧ w' = w ∧ m ≤ N ∧ (∀ t, t < m → p t = false) ∧ (∀ t, m ≤ t → t < N → p t = true) := by
  have HF := hide hf
  have M := hide hm
  clear hf hm
  go_enter Tryd.func21, Tryd.ntmps21
  go_wp2
  go_loopg [5, 6] N (fun kx s5 s6 wr => ∃ (lo hi : Nat), s5 = .int .i64 lo ∧ s6 = .int .i64 hi ∧ lo ≤ hi ∧ hi ≤ N ∧ hi - lo ≤ kx ∧ wr = w ∧ Hid ((∀ t, t < lo → p t = false) ∧ (∀ t, hi ≤ t → t < N → p t = true)))
  case atStart => exact ⟨0, N, rfl, rfl, Nat.zero_le _, Nat.le_refl _, by omega, rfl, hide ⟨fun t ht => absurd ht (Nat.not_lt_zero _), fun t h1 h2 => by omega⟩⟩
  case round =>
    obtain ⟨lo, hi, rfl, rfl, hlh, hin, hg, rfl, I⟩ := hrel
    by_cases hlt : lo < hi
    · have hc := HF.out ((lo + hi) / 2) (by omega)
      rw [show (((lo + hi) / 2 : Nat) : Int) = ((lo : Int) + (hi : Int)) / 2 by omega] at hc
      cases hp : p ((lo + hi) / 2) <;> rw [hp] at hc
      · have HP := hide hp
        clear hp
        go_wp2_with (go_at_fn K; refine hc.mono ?_; rintro e w' ⟨rfl, rfl⟩)
        go_roundg (hi - ((lo + hi) / 2 + 1))
        case measure => omega
        case rel =>
          have I2 := hide (show (∀ t, t < (lo + hi) / 2 + 1 → p t = false) ∧ (∀ t, hi ≤ t → t < N → p t = true) from ⟨fun t ht => (by
            cases h : p t with
            | false => rfl
            | true => have := M.out t ((lo + hi) / 2) (by omega) (by omega) h; rw [HP.out] at this; cases this), I.out.2⟩)
          exact ⟨(lo + hi) / 2 + 1, hi, by rw [show ((lo : Int) + (hi : Int)) / 2 + 1 = (((lo + hi) / 2 + 1 : Nat) : Int) by omega], rfl, by omega, hin, Nat.le_refl _, rfl, I2⟩
      · have HP := hide hp
        clear hp
        go_wp2_with (go_at_fn K; refine hc.mono ?_; rintro e w' ⟨rfl, rfl⟩)
        go_roundg ((lo + hi) / 2 - lo)
        case measure => omega
        case rel =>
          have I2 := hide (show (∀ t, t < lo → p t = false) ∧ (∀ t, (lo + hi) / 2 ≤ t → t < N → p t = true) from ⟨I.out.1, fun t ht htn => M.out ((lo + hi) / 2) t ht htn HP.out⟩)
          exact ⟨lo, (lo + hi) / 2, rfl, by rw [show ((lo : Int) + (hi : Int)) / 2 = (((lo + hi) / 2 : Nat) : Int) by omega], by omega, by omega, Nat.le_refl _, rfl, I2⟩
    · obtain rfl : hi = lo := by omega
      go_wp2
      go_ret
      exact ⟨hi, rfl, rfl, hin, I.out.1, I.out.2⟩
theorem preS_whole {cs : List Int} {R : Nat} (h1 : 1 ≤ R) (hn : 1 ≤ cs.length) : Fw (preS cs) cs.length R 0 (preS cs cs.length) :=
  ⟨[cs.length], by simpa using h1, ⟨hn, rfl⟩, ⟨by rw [preS_zero]; omega, trivial⟩⟩
open Classical in
/-- What a search by halves finds is the least limit. -/
theorem least_of {cs : List Int} (hc : ∀ c ∈ cs, 0 ≤ c) {R m N : Nat} (h1 : 1 ≤ R) (hR : R ≤ cs.length) (hN : preS cs cs.length = (N : Int)) (hm : m ≤ N) (hlo : ∀ t : Nat, t < m → decide (fitsP cs R (t : Int)) = false) (hhi : ∀ t : Nat, m ≤ t → t < N → decide (fitsP cs R (t : Int)) = true) : Least (preS cs) cs.length R 0 0 (m : Int) := by
  have key : ∀ L, fitsP cs R L ↔ Fw (preS cs) cs.length R 0 L := fun L => by have := fits_iff hc R 0 L (Nat.zero_le _); simpa using this
  have hfw : Fw (preS cs) cs.length R 0 (m : Int) := by
    rcases Nat.lt_or_ge m N with h | h
    · exact (key _).1 (of_decide_eq_true (hhi m (Nat.le_refl _) h))
    · obtain rfl : m = N := by omega
      rw [← hN]; exact preS_whole h1 (by omega)
  refine ⟨by omega, hfw.fx (preS_mono hc) (by omega), fun L h0 hL => ?_⟩
  rcases Int.lt_or_le L m with h | h
  · have := of_decide_eq_false (hlo L.toNat (by omega))
    rw [show ((L.toNat : Nat) : Int) = L by omega] at this
    exact absurd ((key L).2 hL.fw) this
  · exact h
open Classical in
set_option maxHeartbeats 4000000 in
set_option maxRecDepth 100000 in
theorem limit_any (v : Value) (cs : List Int) (R : Nat) (r : Int) (w : World) (hv : IsInts w v cs) (hc : ∀ c ∈ cs, 0 ≤ c ∧ c ≤ 1000000) (hl : cs.length ≤ 12) (hr : r = (R : Int)) (h1 : 1 ≤ R) (hR : R ≤ cs.length) :
    Calls Tryd.prog 17 #[v, .int .i64 r] w fun e w' => ∃ m, e = .returned (.int .i64 m) ∧ Least (preS cs) cs.length R 0 0 m ∧ m ≤ 12000000 ∧ Below w.heap.size w w' := by
  obtain ⟨a, n, k, rfl⟩ := hv.shape
  have hc0 : ∀ c ∈ cs, 0 ≤ c := fun c h => (hc c h).1
  obtain ⟨V, hV⟩ : ∃ V, V = (w.alloc (.cells #[.slice a n k] 22)).alloc (.cells #[.int .i64 r] 3) := ⟨_, rfl⟩
  have HBV := hide (show Below w.heap.size w V by rw [hV]; exact bel_al (below_one _ _))
  have e1 : V.cell? ⟨w.heap.size, 0, none⟩ = some (.slice a n k) := by rw [hV]; exact cell_past (by simp) _
  have e2 : V.cell? ⟨w.heap.size + 1, 0, none⟩ = some (.int .i64 r) := by rw [hV]; simp
  obtain ⟨N, hN⟩ : ∃ N : Nat, preS cs cs.length = (N : Int) := ⟨(preS cs cs.length).toNat, by have := preS_mono hc0 0 cs.length (Nat.zero_le _); rw [preS_zero] at this; omega⟩
  have hNb : N ≤ 12000000 := by have := preS_bound hc cs.length; omega
  have HS := hide (ctsum_any _ cs V (hv.below HBV.out) hc hl)
  rw [hN] at HS
  have mono : ∀ x y : Nat, x ≤ y → y < N → decide (fitsP cs R (x : Int)) = true → decide (fitsP cs R (y : Int)) = true := fun x y hxy _ h => by
    have key : ∀ L, fitsP cs R L ↔ Fw (preS cs) cs.length R 0 L := fun L => by have := fits_iff hc0 R 0 L (Nat.zero_le _); simpa using this
    exact decide_eq_true ((key _).2 (((key _).1 (of_decide_eq_true h)).mono (by omega)))
  have HQ := hide (search_any 22 #[.pointer (some ⟨w.heap.size, 0, none⟩), .pointer (some ⟨w.heap.size + 1, 0, none⟩)] (enters_of Tryd.func22 (by kernel_rfl) rfl) N (fun i => decide (fitsP cs R (i : Int))) V hNb
    (fun i _ => limit_clos _ _ _ cs R r i V e1 e2 (hv.below HBV.out) hc hl hr) mono)
  have HL := hide (fun (m : Nat) => least_of (m := m) hc0 h1 hR hN)
  rw [hV] at e1
  have HV := hide hV
  have HNB := hide hNb
  clear hV hv hc hc0 hr hN hNb mono h1 hR e2
  go_enter Tryd.func17, Tryd.ntmps17
  go_wp2_with (first | (go_at_call 16; rw [← HV.out]; refine HS.out.mono ?_; rintro e w' ⟨rfl, rfl⟩) | (go_at_call 21; refine HQ.out.mono ?_; rintro e w' ⟨m, rfl, rfl, q1, q2, q3⟩))
  refine bodyPost_ret (v := .int .i64 (m : Int)) (by simp [results, Tryd.results17, go_sem]) rfl ⟨_, rfl, HL.out m q1 q2 q3, by have := HNB.out; omega, HBV.out⟩
end Go.Proofs.YtlbcmebifmebgafDoor
