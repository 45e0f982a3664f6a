/- Messages as bytes: how they are written and read, as plain data; what is written is read, whatever stands behind it, and of a shorter beginning nothing is. No program in sight. -/
import Derived.Test.YtaajlggpjholeahDoorRFault
namespace Go.Proofs.YtaajlggpjholeahDoor
/-- A number, seven binary digits at a time, in at most k bytes. -/
def sevF : Nat → Nat → List Int
  | 0, _ => []
  | k + 1, n => if n < 128 then [(n : Int)] else ((128 + n % 128 : Nat) : Int) :: sevF k (n / 128)
def sev (n : Nat) : List Int := sevF 9 n
/-- A number is read: at most so many bytes, the first one or not, what a digit is worth, what has come so far. -/
def rdB : Nat → Bool → Int → Int → List Int → Option (Int × List Int)
  | 0, _, _, _, _ => none
  | _ + 1, _, _, _, [] => none
  | k + 1, f, P, acc, d :: t => if d < 128 then (if d = 0 ∧ f = false then none else some (acc + d % 128 * P, t)) else rdB k false (P * 128) (acc + d % 128 * P) t
def rd1 (b : List Int) : Option (Int × List Int) := rdB 9 true 1 0 b
theorem sevF_more : ∀ {k n : Nat}, n < 128 ^ k → 0 < k → sevF (k + 1) n = sevF k n
  | 0, n, _, h => by omega
  | k + 1, n, h, _ => by
    unfold sevF
    by_cases c : n < 128
    · rw [if_pos c, if_pos c]
    · rw [if_neg c, if_neg c]
      have hk : 0 < k := by
        rcases Nat.eq_zero_or_pos k with e | e
        · rw [e] at h; simp at h; omega
        · exact e
      rw [sevF_more (k := k) (n := n / 128) (by rw [Nat.pow_succ] at h; exact Nat.div_lt_of_lt_mul (by rw [Nat.mul_comm]; exact h)) hk]
theorem sevF_ge {k j n : Nat} (h : n < 128 ^ k) (hk : 0 < k) (hj : k ≤ j) : sevF j n = sevF k n := by
  induction j with
  | zero => omega
  | succ j ih =>
    rcases Nat.lt_or_ge j k with q | q
    · rw [show k = j + 1 by omega]
    · rw [sevF_more (Nat.lt_of_lt_of_le h (Nat.pow_le_pow_right (by omega) q)) (by omega)]
      exact ih q
theorem sevF_len : ∀ (k n : Nat), (sevF k n).length ≤ k
  | 0, _ => by simp [sevF]
  | k + 1, n => by
    have := sevF_len k (n / 128)
    unfold sevF
    split <;> simp <;> omega
theorem sevF_byte : ∀ (k n : Nat), ∀ d ∈ sevF k n, 0 ≤ d ∧ d < 256
  | 0, _ => fun d h => by simp [sevF] at h
  | k + 1, n => fun d h => by
    unfold sevF at h
    split at h
    · have : d = (n : Int) := by simpa using h
      omega
    · rcases List.mem_cons.1 h with q | q
      · omega
      · exact sevF_byte k (n / 128) d q
theorem div_pow {n k : Nat} (h : n < 128 ^ (k + 1)) : n / 128 < 128 ^ k := Nat.div_lt_of_lt_mul (by rw [Nat.pow_succ] at h; rw [Nat.mul_comm]; exact h)
theorem rd_sev : ∀ {k n j : Nat} {f : Bool} {P acc : Int} {rest : List Int}, n < 128 ^ k → 0 < k → k ≤ j → (f = true ∨ n ≠ 0) → rdB j f P acc (sevF k n ++ rest) = some (acc + (n : Int) * P, rest)
  | 0, n, j, f, P, acc, rest, _, h, _, _ => by omega
  | k + 1, n, 0, f, P, acc, rest, _, _, h, _ => by omega
  | k + 1, n, j + 1, f, P, acc, rest, h, _, hj, hf => by
    unfold sevF
    by_cases c : n < 128
    · rw [if_pos c, List.singleton_append]
      unfold rdB
      rw [if_pos (by omega), if_neg (by
        rintro ⟨e1, e2⟩
        rcases hf with q | q
        · rw [q] at e2; cases e2
        · omega), show (n : Int) % 128 = n by omega]
    · rw [if_neg c, List.cons_append]
      unfold rdB
      have h1 := div_pow h
      have hk : 0 < k := by
        rcases Nat.eq_zero_or_pos k with e | e
        · rw [e] at h1; simp at h1; omega
        · exact e
      rw [if_neg (by omega), rd_sev h1 hk (by omega) (.inr (by omega))]
      have e1 : ((128 + n % 128 : Nat) : Int) % 128 = ((n % 128 : Nat) : Int) := by omega
      have e2 : (n : Int) = ((n % 128 : Nat) : Int) + 128 * ((n / 128 : Nat) : Int) := by omega
      rw [e1]
      congr 2
      rw [e2, Int.add_mul, Int.add_assoc]
      congr 1
      rw [show P * 128 = 128 * P from Int.mul_comm _ _, ← Int.mul_assoc, Int.mul_comm ((n / 128 : Nat) : Int) 128]
theorem rd_cut : ∀ {k n j c : Nat} {f : Bool} {P acc : Int}, c < (sevF k n).length → rdB j f P acc ((sevF k n).take c) = none
  | 0, n, j, c, f, P, acc, h => by simp [sevF] at h
  | k + 1, n, 0, c, f, P, acc, h => by simp [rdB]
  | k + 1, n, j + 1, 0, f, P, acc, h => by simp [rdB]
  | k + 1, n, j + 1, c + 1, f, P, acc, h => by
    unfold sevF at h ⊢
    by_cases q : n < 128
    · rw [if_pos q] at h; simp at h
    · rw [if_neg q] at h ⊢
      rw [List.take_succ_cons]
      unfold rdB
      rw [if_neg (by omega)]
      exact rd_cut (by simpa using h)
/-- Some numbers, one behind the other. -/
def rdNs : Nat → List Int → Option (List Int × List Int)
  | 0, b => some ([], b)
  | k + 1, b => match rd1 b with
    | none => none
    | some (x, t) => match rdNs k t with
      | none => none
      | some (l, t') => some (x :: l, t')
def wrNs (l : List Nat) : List Int := l.flatMap sev
def okN (n : Nat) : Prop := n < 128 ^ 9
theorem rd1_sev {n : Nat} (h : okN n) (rest : List Int) : rd1 (sev n ++ rest) = some ((n : Int), rest) := by
  unfold rd1 sev
  rw [rd_sev h (by decide) (Nat.le_refl _) (.inl rfl)]
  simp
theorem rdNs_wr : ∀ {l : List Nat}, (∀ n ∈ l, okN n) → ∀ rest, rdNs l.length (wrNs l ++ rest) = some (l.map (fun (n : Nat) => (n : Int)), rest)
  | [], _, rest => rfl
  | n :: t, h, rest => by
    have e : wrNs (n :: t) ++ rest = sev n ++ (wrNs t ++ rest) := by simp [wrNs]
    rw [e, List.length_cons, rdNs, rd1_sev (h n (by simp))]
    dsimp only
    rw [rdNs_wr (fun m hm => h m (List.mem_cons_of_mem _ hm)) rest]
    rfl
theorem rdNs_cut : ∀ {l : List Nat}, (∀ n ∈ l, okN n) → ∀ c, c < (wrNs l).length → rdNs l.length ((wrNs l).take c) = none
  | [], _, c, h => by simp [wrNs] at h
  | n :: t, hn, c, h => by
    have e : wrNs (n :: t) = sev n ++ wrNs t := by simp [wrNs]
    rw [e] at h ⊢
    rw [List.length_cons, rdNs]
    rcases Nat.lt_or_ge c (sev n).length with q | q
    · rw [List.take_append_of_le_length (by omega)]
      have : rd1 ((sev n).take c) = none := rd_cut q
      rw [this]
    · rw [List.take_append, List.take_of_length_le q, rd1_sev (hn n (by simp))]
      dsimp only
      rw [List.length_append] at h
      rw [rdNs_cut (fun m hm => hn m (List.mem_cons_of_mem _ hm)) (c - (sev n).length) (by omega)]
theorem wr_app (l k : List Nat) : wrNs (l ++ k) = wrNs l ++ wrNs k := by simp [wrNs]
/-- The two sums. -/
def sumsG : Int → Int → List Int → List Int
  | x, y, [] => [x % 255, y % 255]
  | x, y, d :: t => sumsG (x + d) (y + (x + d) % 255) t
theorem sumsG_len : ∀ (x y : Int) (l : List Int), (sumsG x y l).length = 2
  | _, _, [] => rfl
  | x, y, d :: t => by unfold sumsG; exact sumsG_len _ _ t
def zig (x : Int) : Nat := if 0 ≤ x then (2 * x).toNat else (-2 * x - 1).toNat
def unz (n : Int) : Int := if n % 2 = 1 then -(n / 2) - 1 else n / 2
theorem unz_zig (x : Int) : unz (zig x : Int) = x := by
  unfold unz zig
  by_cases c : 0 ≤ x
  · rw [if_pos c, if_neg (by omega)]; omega
  · rw [if_neg c, if_pos (by omega)]; omega
/-- What is wrong with a message. -/
def msgF (k mi : Int) (b : Mx) : Int := if k < 1 ∨ 2 < k ∨ mi < 0 ∨ 11 < mi then 1 else fault b
def headN (k mi : Int) (b : Mx) : List Nat := [k.toNat, mi.toNat, b.rows.toNat, b.cols.toNat]
def cellN (b : Mx) : List Nat := b.cells.map zig
def bodyB (k mi : Int) (b : Mx) : List Int := wrNs (headN k mi b ++ cellN b)
/-- A message's bytes. -/
def msgB (k mi : Int) (b : Mx) : List Int := bodyB k mi b ++ sumsG 0 0 (bodyB k mi b)
/-- The end of a message is read: the sums. -/
def rdEnd (b : List Int) (k mi : Int) (m : Mx) (t : List Int) : Option ((Int × Int × Mx) × Nat) :=
  if msgF k mi m ≠ 0 then none else match t with
    | s0 :: s1 :: _ => if sumsG 0 0 (b.take (b.length - t.length)) = [s0, s1] then some ((k, mi, m), b.length - t.length + 2) else none
    | _ => none
def rdMid (b : List Int) (h t : List Int) : Option ((Int × Int × Mx) × Nat) :=
  match h with
  | [k, mi, r, c] => if 24 < r ∨ 12 < c then none else match rdNs (r * c).toNat t with
    | none => none
    | some (zs, t') => rdEnd b k mi ⟨r, c, zs.map unz⟩ t'
  | _ => none
/-- A message is read, and how many bytes it has. -/
def rdMsg (b : List Int) : Option ((Int × Int × Mx) × Nat) :=
  match rdNs 4 b with
  | none => none
  | some (h, t) => rdMid b h t
theorem msgF_in {k mi : Int} {b : Mx} (h : msgF k mi b = 0) : 1 ≤ k ∧ k ≤ 2 ∧ 0 ≤ mi ∧ mi ≤ 11 ∧ fault b = 0 := by
  unfold msgF at h
  split at h
  · cases h
  · exact ⟨by omega, by omega, by omega, by omega, h⟩
theorem fault_zero {m : Mx} (h : fault m = 0) : (0 ≤ m.rows ∧ m.rows ≤ 24 ∧ 0 ≤ m.cols ∧ m.cols ≤ 12) ∧ (m.cells.length : Int) = m.rows * m.cols ∧ ∀ x ∈ m.cells, -2147483647 ≤ x ∧ x ≤ 2147483647 := by
  unfold fault at h
  by_cases c1 : okSides m = false
  · rw [if_pos c1] at h; cases h
  · rw [if_neg c1] at h
    by_cases c2 : (m.cells.length : Int) ≠ m.rows * m.cols
    · rw [if_pos c2] at h; cases h
    · rw [if_neg c2] at h
      by_cases c3 : m.cells.all inEnds = false
      · rw [if_pos c3] at h; cases h
      · refine ⟨?_, by omega, fun x hx => ?_⟩
        · have : okSides m = true := by simpa using c1
          simp [okSides] at this
          omega
        · have : m.cells.all inEnds = true := by simpa using c3
          have := List.all_eq_true.1 this x hx
          simpa [inEnds] using this
theorem msg_okN {k mi : Int} {b : Mx} (h : msgF k mi b = 0) : (∀ n ∈ headN k mi b, okN n) ∧ (∀ n ∈ cellN b, okN n) := by
  obtain ⟨h1, h2, h3, h4, h5⟩ := msgF_in h
  obtain ⟨⟨r1, r2, r3, r4⟩, _, hc⟩ := fault_zero h5
  constructor
  · intro n hn
    unfold okN
    simp [headN] at hn
    have : n ≤ 1000 := by omega
    exact Nat.lt_of_le_of_lt this (by decide)
  · intro n hn
    obtain ⟨x, hx, rfl⟩ := List.mem_map.1 hn
    have := hc x hx
    have hz : zig x ≤ 5000000000 := by unfold zig; split <;> omega
    unfold okN
    exact Nat.lt_of_le_of_lt hz (by decide)
theorem head_cast {k mi : Int} {b : Mx} (h : msgF k mi b = 0) : (headN k mi b).map (fun (n : Nat) => (n : Int)) = [k, mi, b.rows, b.cols] := by
  obtain ⟨h1, h2, h3, h4, h5⟩ := msgF_in h
  obtain ⟨⟨r1, r2, r3, r4⟩, _, _⟩ := fault_zero h5
  simp [headN]
  omega
theorem cell_cast (b : Mx) : ((cellN b).map (fun (n : Nat) => (n : Int))).map unz = b.cells := by
  unfold cellN
  rw [List.map_map, List.map_map]
  apply List.ext_getElem?
  intro i
  rw [List.getElem?_map]
  cases h : b.cells[i]? with
  | none => rfl
  | some x => simp [unz_zig]
theorem cell_len {k mi : Int} {b : Mx} (h : msgF k mi b = 0) : (b.rows * b.cols).toNat = (cellN b).length := by
  obtain ⟨_, _, _, _, h5⟩ := msgF_in h
  obtain ⟨_, hl, _⟩ := fault_zero h5
  unfold cellN
  rw [List.length_map]
  omega
theorem rd_head {k mi : Int} {b : Mx} (h : msgF k mi b = 0) (rest : List Int) : rdNs 4 (wrNs (headN k mi b) ++ rest) = some ([k, mi, b.rows, b.cols], rest) := by
  have := rdNs_wr (msg_okN h).1 rest
  rw [head_cast h] at this
  exact this
theorem rd_cells {k mi : Int} {b : Mx} (h : msgF k mi b = 0) (rest : List Int) : rdNs (b.rows * b.cols).toNat (wrNs (cellN b) ++ rest) = some ((cellN b).map (fun (n : Nat) => (n : Int)), rest) := by
  rw [cell_len h]
  exact rdNs_wr (msg_okN h).2 rest
theorem rd_mid {k mi : Int} {b : Mx} (h : msgF k mi b = 0) (B t : List Int) : rdMid B [k, mi, b.rows, b.cols] t = match rdNs (b.rows * b.cols).toNat t with | none => none | some (zs, t') => rdEnd B k mi ⟨b.rows, b.cols, zs.map unz⟩ t' := by
  obtain ⟨_, _, _, _, h5⟩ := msgF_in h
  obtain ⟨⟨r1, r2, r3, r4⟩, _, _⟩ := fault_zero h5
  unfold rdMid
  dsimp only
  rw [if_neg (by omega)]
/-- What is written is read, whatever stands behind it. -/
theorem msg_back {k mi : Int} {b : Mx} (h : msgF k mi b = 0) (more : List Int) : rdMsg (msgB k mi b ++ more) = some ((k, mi, b), (msgB k mi b).length) := by
  have e : msgB k mi b ++ more = wrNs (headN k mi b) ++ (wrNs (cellN b) ++ (sumsG 0 0 (bodyB k mi b) ++ more)) := by
    unfold msgB bodyB
    rw [wr_app]
    simp [List.append_assoc]
  unfold rdMsg
  have hl : (msgB k mi b).length = (bodyB k mi b).length + 2 := by unfold msgB; rw [List.length_append, sumsG_len]
  obtain ⟨s0, s1, hs⟩ : ∃ s0 s1, sumsG 0 0 (bodyB k mi b) = [s0, s1] := by
    have := sumsG_len 0 0 (bodyB k mi b)
    match hq : sumsG 0 0 (bodyB k mi b), this with
    | [x, y], _ => exact ⟨x, y, rfl⟩
  have htk : (msgB k mi b ++ more).take (bodyB k mi b).length = bodyB k mi b := by
    unfold msgB
    rw [List.append_assoc, List.take_append_of_le_length (Nat.le_refl _), List.take_length]
  have hsub : (msgB k mi b ++ more).length - (s0 :: s1 :: more).length = (bodyB k mi b).length := by
    rw [List.length_append, hl]
    simp
    omega
  rw [show rdNs 4 (msgB k mi b ++ more) = some ([k, mi, b.rows, b.cols], wrNs (cellN b) ++ (sumsG 0 0 (bodyB k mi b) ++ more)) by rw [e]; exact rd_head h _]
  dsimp only
  rw [rd_mid h, rd_cells h]
  dsimp only
  rw [cell_cast, hs]
  show rdEnd _ k mi ⟨b.rows, b.cols, b.cells⟩ (s0 :: s1 :: more) = _
  unfold rdEnd
  rw [if_neg (by rw [show (⟨b.rows, b.cols, b.cells⟩ : Mx) = b from rfl, h]; simp)]
  dsimp only
  rw [hsub, htk, if_pos hs, hl]
/-- Of a shorter beginning nothing is read. -/
theorem msg_cut {k mi : Int} {b : Mx} (h : msgF k mi b = 0) {c : Nat} (hc : c < (msgB k mi b).length) : rdMsg ((msgB k mi b).take c) = none := by
  have hl : (msgB k mi b).length = (bodyB k mi b).length + 2 := by unfold msgB; rw [List.length_append, sumsG_len]
  have hb : bodyB k mi b = wrNs (headN k mi b) ++ wrNs (cellN b) := by unfold bodyB; rw [wr_app]
  have e : msgB k mi b = wrNs (headN k mi b) ++ (wrNs (cellN b) ++ sumsG 0 0 (bodyB k mi b)) := by
    show bodyB k mi b ++ _ = _
    rw [← List.append_assoc, ← hb]
  have hbl : (bodyB k mi b).length = (wrNs (headN k mi b)).length + (wrNs (cellN b)).length := by rw [hb, List.length_append]
  unfold rdMsg
  rcases Nat.lt_or_ge c (wrNs (headN k mi b)).length with q | q
  · have : rdNs 4 ((msgB k mi b).take c) = none := by
      rw [e, List.take_append_of_le_length (by omega)]
      exact rdNs_cut (msg_okN h).1 c q
    rw [this]
  · have h1 : (msgB k mi b).take c = wrNs (headN k mi b) ++ ((wrNs (cellN b) ++ sumsG 0 0 (bodyB k mi b)).take (c - (wrNs (headN k mi b)).length)) := by
      rw [e, List.take_append, List.take_of_length_le q]
    obtain ⟨B, hB⟩ : ∃ B, (msgB k mi b).take c = B := ⟨_, rfl⟩
    rw [show rdNs 4 ((msgB k mi b).take c) = some ([k, mi, b.rows, b.cols], (wrNs (cellN b) ++ sumsG 0 0 (bodyB k mi b)).take (c - (wrNs (headN k mi b)).length)) by rw [h1]; exact rd_head h _, hB]
    dsimp only
    rw [rd_mid h]
    rcases Nat.lt_or_ge (c - (wrNs (headN k mi b)).length) (wrNs (cellN b)).length with p | p
    · rw [List.take_append_of_le_length (by omega), cell_len h, rdNs_cut (msg_okN h).2 _ p]
    · rw [List.take_append, List.take_of_length_le p, rd_cells h]
      dsimp only
      rw [cell_cast]
      unfold rdEnd
      split
      · rfl
      · have hlt : ((sumsG 0 0 (bodyB k mi b)).take (c - (wrNs (headN k mi b)).length - (wrNs (cellN b)).length)).length < 2 := by
          rw [List.length_take]; omega
        match hq : (sumsG 0 0 (bodyB k mi b)).take (c - (wrNs (headN k mi b)).length - (wrNs (cellN b)).length), hlt with
        | [], _ => rfl
        | [x], _ => rfl
        | x :: y :: t, hlt => exact absurd hlt (by simp only [List.length_cons]; omega)
end Go.Proofs.YtaajlggpjholeahDoor
