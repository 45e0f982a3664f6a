/- The walk of the law NetJoins: two nets, one behind the other, are one net, there and back. Condition: not more than 1,048,576 layers each. -/
import Derived.Test.YtbkkhdekjgabfadNetLaw
import Derived.Test.YtbkkhdekjgabfadListApp
import Derived.Test.YtbkkhdekjgabfadSameL
import Derived.Test.YtbkkhdekjgabfadNetC6
namespace Go.Proofs.Ytbkkhdekjgabfad
open Go.RowKit
def reluL : Ly := ⟨2, noMx, noMx⟩
def factJ : Mx := ⟨1, 2, [5, -5]⟩
theorem factJE : ngE [reluL] factJ = 0 := by decide
theorem factJL : (ngX [reluL] factJ).length = 2 := by unfold ngX; rw [if_pos factJE]; rfl
theorem infoLy : (Try.prog.info? 37).map (fun i => (i.zero, i.size, i.bytes)) = some (some (.agg #[.int .i64 0, .int .i64 0, .int .i64 0, .slice none 0 0, .int .i64 0, .int .i64 0, .slice none 0 0]), 7, 88) := by kernel_rfl
theorem enc_ly {w : World} {G : Nat → Prop} {l : Ly} {s t : Value} (h : PartAt w G (.inr l.w.cells) s) (h' : PartAt w G (.inr l.b.cells) t) : Enc w G (lyS l) [.int .i64 l.k, .int .i64 l.w.rows, .int .i64 l.w.cols, s, .int .i64 l.b.rows, .int .i64 l.b.cols, t] := .cons rfl (.cons rfl (.cons rfl (.cons h (.cons rfl (.cons rfl (.cons h' (.nil _ _)))))))
theorem part_nil (w : World) (G : Nat → Prop) : PartAt w G (.inr []) (.slice none 0 0) := ⟨IsInts.nil w, .inl rfl⟩
theorem relu_list (V : World) {B : Nat} (hB : V.heap.size = B) : IsLys (V.alloc (.cells #[.int .i64 2, .int .i64 0, .int .i64 0, .slice none 0 0, .int .i64 0, .int .i64 0, .slice none 0 0] 37)) (.slice (some ⟨B, 0, none⟩) 1 1) [reluL] := by
  subst hB
  exact (Owns.made (lo := V.heap.size) (base := V.heap.size) (e := 37) (size := 7) (n := 1) (Nat.le_refl _) (by unfold maxLen; omega) rfl (enc_ly (l := reluL) (part_nil _ _) (part_nil _ _))).reads
theorem flat_len {α β : Type} (f : α → List β) (k : Nat) (hk : ∀ x, (f x).length = k) : ∀ xs : List α, (xs.flatMap f).length = xs.length * k
  | [] => by simp
  | x :: xs => by rw [List.flatMap_cons, List.length_append, hk, flat_len f k hk xs, List.length_cons, Nat.succ_mul]; omega
theorem lys_reads {w : World} {v : Value} {ls : List Ly} {n : Nat} (hn : ls.length = n) (h : IsLys w v ls) : Reads w v n (ls.flatMap lyS) := by subst hn; exact h
theorem gds_reads {w : World} {v : Value} {ds : List (Mx × Mx)} {n : Nat} (hn : ds.length = n) (h : IsGds w v ds) : Reads w v n (ds.flatMap gdS) := by subst hn; exact h
theorem mxs_reads {w : World} {v : Value} {ms : List Mx} {n : Nat} (hn : ms.length = n) (h : IsMxs w v ms) : Reads w v n (ms.flatMap mxS) := by
  subst hn
  obtain ⟨a, cap, rfl, h2, h3, h4⟩ := h
  refine ⟨a, cap, rfl, h2, h3, ?_⟩
  rcases h4 with rfl | ⟨b, off, rfl, hc⟩
  · exact .inl rfl
  · refine .inr ⟨b, off, rfl, fun j p hp => ?_⟩
    have hj : j < ms.length * 3 := by
      rcases Nat.lt_or_ge j (ms.flatMap mxS).length with h | h
      · rw [flat_len mxS 3 (fun _ => rfl)] at h; exact h
      · rw [List.getElem?_eq_none h] at hp; cases hp
    have hi : j / 3 < ms.length := by omega
    obtain ⟨m, hm⟩ : ∃ m, ms[j / 3]? = some m := ⟨_, List.getElem?_eq_getElem hi⟩
    obtain ⟨s, c0, c1, c2, hs⟩ := hc _ m hm
    have hf := flat_at mxS 3 (fun _ => rfl) ms (j / 3) (j % 3) m hm (by omega)
    rw [show j / 3 * 3 + j % 3 = j by omega, hp] at hf
    rcases (show j % 3 = 0 ∨ j % 3 = 1 ∨ j % 3 = 2 by omega) with e | e | e
    · rw [e] at hf; obtain rfl := Option.some.inj hf
      exact ⟨_, by rw [show off + j = off + j / 3 * 3 by omega]; exact c0, rfl⟩
    · rw [e] at hf; obtain rfl := Option.some.inj hf
      exact ⟨_, by rw [show off + j = off + j / 3 * 3 + 1 by omega]; exact c1, rfl⟩
    · rw [e] at hf; obtain rfl := Option.some.inj hf
      exact ⟨s, by rw [show off + j = off + j / 3 * 3 + 2 by omega]; exact c2, hs, .inr fun _ _ hf => hf⟩
theorem lys_app {lo base : Nat} {w : World} {v : Value} {a b : List Ly} {n m : Nat} (hn : a.length = n) (hm : b.length = m) (h : Owns lo base w 37 7 v (n + m) (a.flatMap lyS ++ b.flatMap lyS)) : IsLys w v (a ++ b) := by
  subst hn hm
  have h' := h.reads
  show Reads _ _ (a ++ b).length ((a ++ b).flatMap lyS)
  rw [List.length_append, List.flatMap_append]; exact h'
theorem gds_app {lo base : Nat} {w : World} {v : Value} {a b : List (Mx × Mx)} {n m : Nat} (hn : a.length = n) (hm : b.length = m) (h : Owns lo base w 57 6 v (n + m) (a.flatMap gdS ++ b.flatMap gdS)) : IsGds w v (a ++ b) := by
  subst hn hm
  have h' := h.reads
  show Reads _ _ (a ++ b).length ((a ++ b).flatMap gdS)
  rw [List.length_append, List.flatMap_append]; exact h'
theorem mxs_app {lo base : Nat} {w : World} {v : Value} {a b : List Mx} {n m : Nat} (hn : a.length = n) (hm : b.length = m) (h : Owns lo base w 24 3 v (n + m) (a.flatMap mxS ++ b.flatMap mxS)) : IsMxs w v (a ++ b) := by
  subst hn hm
  have h' := h.reads
  refine reads_mxs ?_
  rw [List.length_append, List.flatMap_append]; exact h'
theorem mxs_tail {w : World} {b off n cap : Nat} {e : Mx} {vs vt : List Mx} (hn : vt.length = n) (hv : vs = e :: vt) (h : IsMxs w (.slice (some ⟨b, off, none⟩) (n + 1) cap) vs) : Reads w (.slice (some ⟨b, off + 3, none⟩) n (cap - 1)) n (vt.flatMap mxS) := by
  subst hv
  exact Reads.tail (k := 3) (fun _ => rfl) (mxs_reads (n := n + 1) (by rw [List.length_cons, hn]) h)
theorem nbD_len {N : Nat} (ls : List Ly) (ms : List Mx) (g : Mx) (h : ls.length ≤ N) : (nbD ls ms g).length ≤ N := by
  unfold nbD; split
  · have := bkD_len ls.reverse (ms.take ls.length).reverse g; rw [List.length_reverse] at this; omega
  · simp
theorem IsMxs.room {w : World} {a : Option Addr} {n cap : Nat} {ms : List Mx} (h : IsMxs w (.slice a n cap) ms) : n ≤ cap ∧ cap ≤ maxLen := by
  obtain ⟨_, _, e, h2, h3, _⟩ := h
  injection e with _ e2 e3
  subst e3
  exact ⟨by omega, h3⟩
set_option maxHeartbeats 40000000 in
set_option maxRecDepth 100000 in
theorem njoins_walk (v0 : Value) (m0 : List Ly) (v1 : Value) (m1 : List Ly) (v2 : Value) (m2 : Mx) (v3 : Value) (m3 : Mx) (w : World) (w0 : IsLys w v0 m0) (y0 : m0.length ≤ 1048576) (w1 : IsLys w v1 m1) (y1 : m1.length ≤ 1048576) (w2 : IsMx w v2 m2) (w3 : IsMx w v3 m3) : Calls Try.prog 4 #[v0, v1, v2, v3] w fun e w' => e = .returned (.bool true) ∧ Below w.heap.size w w' := by
  obtain ⟨aa, ak, rfl, _, _⟩ := w0.shape
  have MA := hide w0
  clear w0
  obtain ⟨ba, bk, rfl, _, _⟩ := w1.shape
  have MB := hide w1
  clear w1
  obtain ⟨sm2, rfl, hm2⟩ := w2
  obtain ⟨xa, xn, xk, rfl⟩ := hm2.shape
  obtain ⟨r, er⟩ : ∃ r, m2.rows = r := ⟨_, rfl⟩
  obtain ⟨c, ec⟩ : ∃ r, m2.cols = r := ⟨_, rfl⟩
  have Mm2 := hide (show IsMx w (.agg #[.int .i64 r, .int .i64 c, .slice xa xn xk]) m2 from ⟨_, by rw [er, ec], hm2⟩)
  obtain ⟨sm3, rfl, hm3⟩ := w3
  obtain ⟨ha, hn, hk, rfl⟩ := hm3.shape
  obtain ⟨r', er'⟩ : ∃ r, m3.rows = r := ⟨_, rfl⟩
  obtain ⟨c', ec'⟩ : ∃ r, m3.cols = r := ⟨_, rfl⟩
  have Mm3 := hide (show IsMx w (.agg #[.int .i64 r', .int .i64 c', .slice ha hn hk]) m3 from ⟨_, by rw [er', ec'], hm3⟩)
  rw [er, ec, er', ec']
  clear hm2 hm3 er ec er' ec'
  obtain ⟨NA, hNA⟩ : ∃ N, m0.length = N := ⟨_, rfl⟩
  obtain ⟨NB, hNB⟩ : ∃ N, m1.length = N := ⟨_, rfl⟩
  rw [hNA] at MA y0 ⊢
  rw [hNB] at MB y1 ⊢
  have HN := hide (And.intro hNA hNB)
  have HLE := hide (And.intro y0 y1)
  clear hNA hNB y0 y1
  have WW := hide (Below.refl w.heap.size w)
  have C := hide (Below.refl w.heap.size w)
  have D := below_next C.out (below_one w (.cells #[.int .i64 r, .int .i64 c, .slice xa xn xk] 24))
  replace MA := hide (MA.out.below D)
  replace MB := hide (MB.out.below D)
  replace Mm2 := hide (Mm2.out.below D)
  replace Mm3 := hide (Mm3.out.below D)
  replace WW := hide (below_next WW.out D)
  replace C := hide (Below.refl (w.alloc (.cells #[.int .i64 r, .int .i64 c, .slice xa xn xk] 24)).heap.size (w.alloc (.cells #[.int .i64 r, .int .i64 c, .slice xa xn xk] 24)))
  clear D
  have Bx := hide (Box.new w [.int .i64 r, .int .i64 c, .slice xa xn xk] 24 (B := w.heap.size) (by simp))
  have D := below_next C.out (below_one (w.alloc (.cells #[.int .i64 r, .int .i64 c, .slice xa xn xk] 24)) (.cells #[.int .i64 r', .int .i64 c', .slice ha hn hk] 24))
  replace MA := hide (MA.out.below D)
  replace MB := hide (MB.out.below D)
  replace Mm2 := hide (Mm2.out.below D)
  replace Mm3 := hide (Mm3.out.below D)
  replace Bx := hide (Bx.out.below D)
  replace WW := hide (below_next WW.out D)
  replace C := hide (Below.refl ((w.alloc (.cells #[.int .i64 r, .int .i64 c, .slice xa xn xk] 24)).alloc (.cells #[.int .i64 r', .int .i64 c', .slice ha hn hk] 24)).heap.size ((w.alloc (.cells #[.int .i64 r, .int .i64 c, .slice xa xn xk] 24)).alloc (.cells #[.int .i64 r', .int .i64 c', .slice ha hn hk] 24)))
  clear D
  have Bg := hide (Box.new (w.alloc (.cells #[.int .i64 r, .int .i64 c, .slice xa xn xk] 24)) [.int .i64 r', .int .i64 c', .slice ha hn hk] 24 (B := w.heap.size + 1) (by simp))
  have D := below_next C.out (below_one ((w.alloc (.cells #[.int .i64 r, .int .i64 c, .slice xa xn xk] 24)).alloc (.cells #[.int .i64 r', .int .i64 c', .slice ha hn hk] 24)) (.cells #[.int .i64 2, .int .i64 0, .int .i64 0, .slice none 0 0, .int .i64 0, .int .i64 0, .slice none 0 0] 37))
  replace MA := hide (MA.out.below D)
  replace MB := hide (MB.out.below D)
  replace Mm2 := hide (Mm2.out.below D)
  replace Mm3 := hide (Mm3.out.below D)
  replace Bx := hide (Bx.out.below D)
  replace Bg := hide (Bg.out.below D)
  replace WW := hide (below_next WW.out D)
  replace C := hide (Below.refl (((w.alloc (.cells #[.int .i64 r, .int .i64 c, .slice xa xn xk] 24)).alloc (.cells #[.int .i64 r', .int .i64 c', .slice ha hn hk] 24)).alloc (.cells #[.int .i64 2, .int .i64 0, .int .i64 0, .slice none 0 0, .int .i64 0, .int .i64 0, .slice none 0 0] 37)).heap.size (((w.alloc (.cells #[.int .i64 r, .int .i64 c, .slice xa xn xk] 24)).alloc (.cells #[.int .i64 r', .int .i64 c', .slice ha hn hk] 24)).alloc (.cells #[.int .i64 2, .int .i64 0, .int .i64 0, .slice none 0 0, .int .i64 0, .int .i64 0, .slice none 0 0] 37)))
  clear D
  have MFL := hide (relu_list ((w.alloc (.cells #[.int .i64 r, .int .i64 c, .slice xa xn xk] 24)).alloc (.cells #[.int .i64 r', .int .i64 c', .slice ha hn hk] 24)) (B := w.heap.size + 1 + 1) (by simp))
  have D := below_next C.out (below_one (((w.alloc (.cells #[.int .i64 r, .int .i64 c, .slice xa xn xk] 24)).alloc (.cells #[.int .i64 r', .int .i64 c', .slice ha hn hk] 24)).alloc (.cells #[.int .i64 2, .int .i64 0, .int .i64 0, .slice none 0 0, .int .i64 0, .int .i64 0, .slice none 0 0] 37)) (.cells #[.int .i64 5, .int .i64 (-5)] 3))
  replace MA := hide (MA.out.below D)
  replace MB := hide (MB.out.below D)
  replace Mm2 := hide (Mm2.out.below D)
  replace Mm3 := hide (Mm3.out.below D)
  replace Bx := hide (Bx.out.below D)
  replace Bg := hide (Bg.out.below D)
  replace MFL := hide (MFL.out.below D)
  replace WW := hide (below_next WW.out D)
  replace C := hide (Below.refl ((((w.alloc (.cells #[.int .i64 r, .int .i64 c, .slice xa xn xk] 24)).alloc (.cells #[.int .i64 r', .int .i64 c', .slice ha hn hk] 24)).alloc (.cells #[.int .i64 2, .int .i64 0, .int .i64 0, .slice none 0 0, .int .i64 0, .int .i64 0, .slice none 0 0] 37)).alloc (.cells #[.int .i64 5, .int .i64 (-5)] 3)).heap.size ((((w.alloc (.cells #[.int .i64 r, .int .i64 c, .slice xa xn xk] 24)).alloc (.cells #[.int .i64 r', .int .i64 c', .slice ha hn hk] 24)).alloc (.cells #[.int .i64 2, .int .i64 0, .int .i64 0, .slice none 0 0, .int .i64 0, .int .i64 0, .slice none 0 0] 37)).alloc (.cells #[.int .i64 5, .int .i64 (-5)] 3)))
  clear D
  have MFX := hide (show IsMx ((((w.alloc (.cells #[.int .i64 r, .int .i64 c, .slice xa xn xk] 24)).alloc (.cells #[.int .i64 r', .int .i64 c', .slice ha hn hk] 24)).alloc (.cells #[.int .i64 2, .int .i64 0, .int .i64 0, .slice none 0 0, .int .i64 0, .int .i64 0, .slice none 0 0] 37)).alloc (.cells #[.int .i64 5, .int .i64 (-5)] 3)) (.agg #[.int .i64 1, .int .i64 2, .slice (some ⟨w.heap.size + 1 + 1 + 1, 0, none⟩) 2 2]) factJ from ⟨_, rfl, ints_newB (((w.alloc (.cells #[.int .i64 r, .int .i64 c, .slice xa xn xk] 24)).alloc (.cells #[.int .i64 r', .int .i64 c', .slice ha hn hk] 24)).alloc (.cells #[.int .i64 2, .int .i64 0, .int .i64 0, .slice none 0 0, .int .i64 0, .int .i64 0, .slice none 0 0] 37)) [5, -5] (by decide) 3 (B := w.heap.size + 1 + 1 + 1) (by simp)⟩)
  go_enter Try.func4, Try.ntmps4
  have HX := hide (netgo_any _ _ [reluL] factJ _ (MFL.out.below C.out) (MFX.out.below C.out))
  go_wp2_with fail
  refine HX.out.mono ?_
  rintro e u1 ⟨vl, rfl, hm, hb⟩
  rw [factJE, err_eq rfl]
  obtain ⟨fa, fk, rfl, _, _⟩ := hm.shape
  rw [factJL]
  clear hm
  replace C := hide (below_next C.out hb)
  clear HX hb 
  clear MFL MFX
  replace MA := hide (MA.out.below C.out)
  replace MB := hide (MB.out.below C.out)
  replace Mm2 := hide (Mm2.out.below C.out)
  replace Mm3 := hide (Mm3.out.below C.out)
  replace Bx := hide (Bx.out.below C.out)
  replace Bg := hide (Bg.out.below C.out)
  replace WW := hide (below_next WW.out C.out)
  replace C := hide (Below.refl u1.heap.size u1)
  obtain ⟨iA, hi, hz0, hz1, hz2⟩ := info_parts infoLy
  have HIA := hide (And.intro hi (And.intro hz0 (And.intro hz1 hz2)))
  clear hi hz0 hz1 hz2
  have HOA : Hid (Owns u1.heap.size u1.heap.size (u1.alloc (.cells #[] 37)) 37 7 (.slice (some ⟨u1.heap.size, 0, none⟩) 0 0) 0 []) := hide (Owns.made (cs := []) (Nat.le_refl _) (Nat.zero_le _) (by simp) (Enc.nil _ _))
  have HRA0 : Hid (Reads u1 (.slice aa NA ak) NA (m0.flatMap lyS)) := hide (lys_reads HN.out.1 (MA.out.below C.out))
  have HLA0 : Hid ((m0.flatMap lyS).length = NA * 7) := hide (by rw [flat_len lyS 7 (fun _ => rfl)]; rw [HN.out.1])
  have HRA1 : Hid (Reads u1 (.slice ba NB bk) NB (m1.flatMap lyS)) := hide (lys_reads HN.out.2 (MB.out.below C.out))
  have HLA1 : Hid ((m1.flatMap lyS).length = NB * 7) := hide (by rw [flat_len lyS 7 (fun _ => rfl)]; rw [HN.out.2])
  go_wp2_with (first | (at_builtin; refine wpList_append_list rfl _ _ 32 rfl u1.heap.size 37 iA (.agg #[.int .i64 0, .int .i64 0, .int .i64 0, .slice none 0 0, .int .i64 0, .int .i64 0, .slice none 0 0]) 7 88 Try.underlying32 HIA.out.1 HIA.out.2.1 HIA.out.2.2.1 HIA.out.2.2.2 rfl (by decide) _ _ _ rfl HPA.out _ NB _ rfl u1 HRA1.out HLA1.out HDA.out (Nat.le_refl _) (by have := HLE.out; unfold maxLen; omega) (by have := HLE.out; omega) HDA.out.size ?_; intro rA sA hO hB; have HQA := hide hO; have HEA := hide (HDA.out.trans hB); clear hO hB; have zx0 := (Bx.out.below HEA.out) 0 _ rfl; have zx1 := (Bx.out.below HEA.out) 1 _ rfl; have zx2 := (Bx.out.below HEA.out) 2 _ rfl) | (at_builtin; refine wpList_append_list rfl _ _ 32 rfl u1.heap.size 37 iA (.agg #[.int .i64 0, .int .i64 0, .int .i64 0, .slice none 0 0, .int .i64 0, .int .i64 0, .slice none 0 0]) 7 88 Try.underlying32 HIA.out.1 HIA.out.2.1 HIA.out.2.2.1 HIA.out.2.2.2 rfl (by decide) _ _ _ rfl HOA.out _ NA _ rfl u1 HRA0.out HLA0.out (below_one _ _) (Nat.le_refl _) (by have := HLE.out; unfold maxLen; omega) (by have := HLE.out; omega) (by simp) ?_; intro qA pA hO hB; have HPA : Hid (Owns u1.heap.size u1.heap.size pA 37 7 qA NA (m0.flatMap lyS)) := hide (by rw [Nat.zero_add, List.nil_append] at hO; exact hO); have HDA := hide ((below_one u1 (.cells #[] 37)).trans hB); clear hO hB))
  clear HIA HOA HPA HDA HRA0 HRA1 HLA0 HLA1
  replace C := hide (below_next C.out HEA.out)
  replace MA := hide (MA.out.below C.out)
  replace MB := hide (MB.out.below C.out)
  replace Mm2 := hide (Mm2.out.below C.out)
  replace Mm3 := hide (Mm3.out.below C.out)
  replace Bx := hide (Bx.out.below C.out)
  replace Bg := hide (Bg.out.below C.out)
  replace WW := hide (below_next WW.out C.out)
  replace C := hide (Below.refl sA.heap.size sA)
  have MC := hide (lys_app HN.out.1 HN.out.2 HQA.out)
  clear HQA HEA
  obtain ⟨E, hE⟩ : ∃ E, ngE (m0 ++ m1) m2 = E := ⟨_, rfl⟩
  obtain ⟨ls, hls⟩ : ∃ l, ngX (m0 ++ m1) m2 = l := ⟨_, rfl⟩
  have HEL := hide (And.intro hE hls)
  clear hE hls
  have HX := hide (netgo_any _ _ (m0 ++ m1) m2 _ (MC.out.below C.out) (Mm2.out.below C.out))
  have zx0 := (Bx.out.below C.out) 0 _ rfl
  have zx1 := (Bx.out.below C.out) 1 _ rfl
  have zx2 := (Bx.out.below C.out) 2 _ rfl
  go_wp2_with fail
  refine HX.out.mono ?_
  rintro e u2 ⟨vl, rfl, hm, hb⟩
  rw [HEL.out.2] at hm
  rw [HEL.out.1]
  obtain ⟨la, lk, rfl, _, _⟩ := hm.shape
  replace C := hide (below_next C.out hb)
  clear HX hb zx0 zx1 zx2
  replace MA := hide (MA.out.below C.out)
  replace MB := hide (MB.out.below C.out)
  replace Mm2 := hide (Mm2.out.below C.out)
  replace Mm3 := hide (Mm3.out.below C.out)
  replace Bx := hide (Bx.out.below C.out)
  replace Bg := hide (Bg.out.below C.out)
  replace MC := hide (MC.out.below C.out)
  replace WW := hide (below_next WW.out C.out)
  replace C := hide (Below.refl u2.heap.size u2)
  have Ml := hide hm
  clear hm
  by_cases hE : E = 0
  · subst hE
    rw [err_eq rfl]
    obtain ⟨j1, j2, j3, j4, j5⟩ := join_go HEL.out.1
    obtain ⟨e, he⟩ : ∃ e, endX m0 m2 = e := ⟨_, rfl⟩
    obtain ⟨us, hus⟩ : ∃ u, ngX m0 m2 = u := ⟨_, rfl⟩
    obtain ⟨vs, hvs⟩ : ∃ u, ngX m1 e = u := ⟨_, rfl⟩
    obtain ⟨vt, hvt⟩ : ∃ u, runT m1 e = u := ⟨_, rfl⟩
    have hue : us[NA]? = some e := by rw [← hus, j3, ← he, ← HN.out.1]; exact endX_at m0 m2
    have hul : us.length = NA + 1 := by rw [← hus, j3, List.length_cons, runT_len, HN.out.1]
    rw [he] at j2 j4 j5
    rw [hvs, hvt] at j4
    rw [hus, hvt, HEL.out.2] at j5
    have hvl : vt.length = NB := by rw [← hvt, runT_len, HN.out.2]
    have hvl' : vs.length = NB + 1 := by rw [j4, List.length_cons, hvl]
    have HEE := hide (And.intro j1 (And.intro j2 (And.intro hus hvs)))
    have HEU := hide (And.intro hue hul)
    have HVL := hide (And.intro j4 (And.intro hvl hvl'))
    have HLS := hide j5
    have HEX := hide he
    clear j1 j2 j3 j4 j5 he hus hvs hvt hue hul hvl hvl' 
    have HX := hide (netgo_any _ _ m0 m2 _ (MA.out.below C.out) (Mm2.out.below C.out))
    have zx0 := (Bx.out.below C.out) 0 _ rfl
    have zx1 := (Bx.out.below C.out) 1 _ rfl
    have zx2 := (Bx.out.below C.out) 2 _ rfl
    go_wp2_with fail
    refine HX.out.mono ?_
    rintro e' u3 ⟨vl, rfl, hm, hb⟩
    rw [HEE.out.2.2.1] at hm
    rw [HEE.out.1, err_eq rfl]
    obtain ⟨ub, uo, uk, sa, sn, sk, rfl, c0, c1, c2, hs⟩ := hm.at HEU.out.1
    replace C := hide (below_next C.out hb)
    clear HX hb zx0 zx1 zx2
    have HUC := hide (And.intro c0 (And.intro c1 c2))
    have hme : IsMx u3 (.agg #[.int .i64 e.rows, .int .i64 e.cols, .slice sa sn sk]) e := ⟨_, rfl, hs⟩
    rw [HEU.out.2] at hm
    rw [HEU.out.2]
    clear c0 c1 c2 hs
    replace MA := hide (MA.out.below C.out)
    replace MB := hide (MB.out.below C.out)
    replace Mm2 := hide (Mm2.out.below C.out)
    replace Mm3 := hide (Mm3.out.below C.out)
    replace Bx := hide (Bx.out.below C.out)
    replace Bg := hide (Bg.out.below C.out)
    replace MC := hide (MC.out.below C.out)
    replace Ml := hide (Ml.out.below C.out)
    replace WW := hide (below_next WW.out C.out)
    replace C := hide (Below.refl u3.heap.size u3)
    have Mu := hide hm
    have Me := hide hme
    clear hm hme
    have hA1 := HLE.out.1
    have hB1 := HLE.out.2
    have hn1 : (((NA + 1 : Nat) : Int) != (NA : Int) + 1) = false := by simp
    obtain ⟨c0, c1, c2⟩ := HUC.out
    have HX := hide (netgo_any _ _ m1 e _ (MB.out.below C.out) (Me.out.below C.out))
    go_wp2_with fail
    refine HX.out.mono ?_
    rintro e' u4 ⟨vl, rfl, hm, hb⟩
    rw [HEE.out.2.2.2] at hm
    rw [HEE.out.2.1, err_eq rfl]
    obtain ⟨vb, vo, vk, _, _, _, rfl, _, _, _, _⟩ := hm.at (i := 0) (m := e) (by rw [HVL.out.1]; rfl)
    rw [HVL.out.2.2] at hm
    rw [HVL.out.2.2]
    clear c0 c1 c2
    replace C := hide (below_next C.out hb)
    clear HX hb 
    replace MA := hide (MA.out.below C.out)
    replace MB := hide (MB.out.below C.out)
    replace Mm2 := hide (Mm2.out.below C.out)
    replace Mm3 := hide (Mm3.out.below C.out)
    replace Bx := hide (Bx.out.below C.out)
    replace Bg := hide (Bg.out.below C.out)
    replace MC := hide (MC.out.below C.out)
    replace Ml := hide (Ml.out.below C.out)
    replace Mu := hide (Mu.out.below C.out)
    replace Me := hide (Me.out.below C.out)
    replace WW := hide (below_next WW.out C.out)
    replace C := hide (Below.refl u4.heap.size u4)
    have Mv := hide hm
    obtain ⟨hvk1, hvk2⟩ := hm.room
    clear hm HUC hn1
    have hn2 : (((NB + 1 : Nat) : Int) != (NB : Int) + 1) = false := by simp
    by_cases hv1 : vk = 1
    · subst hv1
      have hB0 : NB = 0 := by omega
      have HB0 := hide hB0
      clear hB0
      obtain ⟨iB, hi, hz0, hz1, hz2⟩ := info_parts infoMx
      have HIB := hide (And.intro hi (And.intro hz0 (And.intro hz1 hz2)))
      clear hi hz0 hz1 hz2
      have HOB : Hid (Owns u4.heap.size u4.heap.size (u4.alloc (.cells #[] 24)) 24 3 (.slice (some ⟨u4.heap.size, 0, none⟩) 0 0) 0 []) := hide (Owns.made (cs := []) (Nat.le_refl _) (Nat.zero_le _) (by simp) (Enc.nil _ _))
      have HRB0 : Hid (Reads u4 (.slice (some ⟨ub, uo, none⟩) (NA + 1) uk) (NA + 1) (us.flatMap mxS)) := hide (mxs_reads HEU.out.2 (Mu.out.below C.out))
      have HLB0 : Hid ((us.flatMap mxS).length = (NA + 1) * 3) := hide (by rw [flat_len mxS 3 (fun _ => rfl)]; rw [HEU.out.2])
      have HRB1 : Hid (Reads u4 (.slice (some ⟨vb, vo, none⟩) 0 0) 0 (vt.flatMap mxS)) := hide (⟨_, 0, rfl, Nat.le_refl _, Nat.zero_le _, .inl rfl⟩)
      have HLB1 : Hid ((vt.flatMap mxS).length = 0 * 3) := hide (by rw [flat_len mxS 3 (fun _ => rfl)]; rw [HVL.out.2.1.trans HB0.out])
      go_wp2_with (first | (at_builtin; refine wpList_append_list rfl _ _ 33 rfl u4.heap.size 24 iB (.agg #[.int .i64 0, .int .i64 0, .slice none 0 0]) 3 40 Try.underlying33 HIB.out.1 HIB.out.2.1 HIB.out.2.2.1 HIB.out.2.2.2 rfl (by decide) _ _ _ rfl HPB.out _ 0 _ rfl u4 HRB1.out HLB1.out HDB.out (Nat.le_refl _) (by have := HLE.out; unfold maxLen; omega) (by have := HLE.out; omega) HDB.out.size ?_; intro rB sB hO hB; have HQB := hide hO; have HEB := hide (HDB.out.trans hB); clear hO hB) | (at_builtin; refine wpList_append_list rfl _ _ 33 rfl u4.heap.size 24 iB (.agg #[.int .i64 0, .int .i64 0, .slice none 0 0]) 3 40 Try.underlying33 HIB.out.1 HIB.out.2.1 HIB.out.2.2.1 HIB.out.2.2.2 rfl (by decide) _ _ _ rfl HOB.out _ (NA + 1) _ rfl u4 HRB0.out HLB0.out (below_one _ _) (Nat.le_refl _) (by have := HLE.out; unfold maxLen; omega) (by have := HLE.out; omega) (by simp) ?_; intro qB pB hO hB; have HPB : Hid (Owns u4.heap.size u4.heap.size pB 24 3 qB (NA + 1) (us.flatMap mxS)) := hide (by rw [Nat.zero_add, List.nil_append] at hO; exact hO); have HDB := hide ((below_one u4 (.cells #[] 24)).trans hB); clear hO hB))
      clear HIB HOB HPB HDB HRB0 HRB1 HLB0 HLB1
      replace C := hide (below_next C.out HEB.out)
      replace MA := hide (MA.out.below C.out)
      replace MB := hide (MB.out.below C.out)
      replace Mm2 := hide (Mm2.out.below C.out)
      replace Mm3 := hide (Mm3.out.below C.out)
      replace Bx := hide (Bx.out.below C.out)
      replace Bg := hide (Bg.out.below C.out)
      replace MC := hide (MC.out.below C.out)
      replace Ml := hide (Ml.out.below C.out)
      replace Mu := hide (Mu.out.below C.out)
      replace Me := hide (Me.out.below C.out)
      replace Mv := hide (Mv.out.below C.out)
      replace WW := hide (below_next WW.out C.out)
      replace C := hide (Below.refl sB.heap.size sB)
      have Mw := hide (mxs_app HEU.out.2 (HVL.out.2.1.trans HB0.out) HQB.out)
      clear HQB HEB
      rw [← HLS.out] at Mw
      have HX := hide (mxs_same _ _ ls _ (Ml.out.below C.out) (Mw.out.below C.out))
      go_wp2_with fail
      refine HX.out.mono ?_
      rintro e u5 ⟨rfl, hb⟩
      replace C := hide (below_next C.out hb)
      clear HX hb 
      obtain ⟨F, hF⟩ : ∃ E, nbE (m0 ++ m1) ls m3 = E := ⟨_, rfl⟩
      obtain ⟨to', hto⟩ : ∃ l, nbX (m0 ++ m1) ls m3 = l := ⟨_, rfl⟩
      obtain ⟨ds, hds⟩ : ∃ l, nbD (m0 ++ m1) ls m3 = l := ⟨_, rfl⟩
      have HF := hide (And.intro hF (And.intro hto hds))
      clear hF hto hds
      have HX := hide (netback_any _ _ _ (m0 ++ m1) ls m3 _ (MC.out.below C.out) (Ml.out.below C.out) (Mm3.out.below C.out))
      have zg0 := (Bg.out.below C.out) 0 _ rfl
      have zg1 := (Bg.out.below C.out) 1 _ rfl
      have zg2 := (Bg.out.below C.out) 2 _ rfl
      go_wp2_with fail
      refine HX.out.mono ?_
      rintro e' u6 ⟨vx, vd, rfl, hm, hd, hb⟩
      rw [HF.out.2.1] at hm
      rw [HF.out.2.2] at hd
      rw [HF.out.1]
      obtain ⟨ps, rfl, hps⟩ := hm
      obtain ⟨pa, pn, pk, rfl⟩ := hps.shape
      obtain ⟨da, dk, rfl, _, _⟩ := hd.shape
      replace C := hide (below_next C.out hb)
      clear HX hb zg0 zg1 zg2
      have hm : IsMx u6 (.agg #[.int .i64 to'.rows, .int .i64 to'.cols, .slice pa pn pk]) to' := ⟨_, rfl, hps⟩
      clear hps
      have Mt := hide (hm.below (below_one u6 (.cells #[.int .i64 to'.rows, .int .i64 to'.cols, .slice pa pn pk] 24)))
      have Md := hide (hd.below (below_one u6 (.cells #[.int .i64 to'.rows, .int .i64 to'.cols, .slice pa pn pk] 24)))
      have D := below_next C.out (below_one u6 (.cells #[.int .i64 to'.rows, .int .i64 to'.cols, .slice pa pn pk] 24))
      replace MA := hide (MA.out.below D)
      replace MB := hide (MB.out.below D)
      replace Mm2 := hide (Mm2.out.below D)
      replace Mm3 := hide (Mm3.out.below D)
      replace Bx := hide (Bx.out.below D)
      replace Bg := hide (Bg.out.below D)
      replace MC := hide (MC.out.below D)
      replace Ml := hide (Ml.out.below D)
      replace Mu := hide (Mu.out.below D)
      replace Me := hide (Me.out.below D)
      replace Mv := hide (Mv.out.below D)
      replace Mw := hide (Mw.out.below D)
      replace WW := hide (below_next WW.out D)
      replace C := hide (Below.refl (u6.alloc (.cells #[.int .i64 to'.rows, .int .i64 to'.cols, .slice pa pn pk] 24)).heap.size (u6.alloc (.cells #[.int .i64 to'.rows, .int .i64 to'.cols, .slice pa pn pk] 24)))
      clear D
      have Bt := hide (Box.new u6 [.int .i64 to'.rows, .int .i64 to'.cols, .slice pa pn pk] 24 (B := u6.heap.size) (by simp))
      clear hm hd
      by_cases hF : F = 0
      · subst hF
        rw [err_eq rfl]
        have hjb := HF.out.1
        rw [← HEL.out.2] at hjb
        obtain ⟨k1, k2, k3, k4⟩ := join_back HEL.out.1 hjb
        rw [HEX.out, HEE.out.2.2.2] at k1 k2 k3 k4
        rw [HEE.out.2.2.1] at k2 k3 k4
        rw [HEL.out.2] at k3 k4
        rw [HF.out.2.1] at k3
        rw [HF.out.2.2] at k4
        obtain ⟨mid, hmid⟩ : ∃ l, nbX m1 vs m3 = l := ⟨_, rfl⟩
        obtain ⟨es, hes⟩ : ∃ l, nbD m1 vs m3 = l := ⟨_, rfl⟩
        rw [hmid] at k2 k3 k4
        rw [hes] at k4
        obtain ⟨hs', hhs⟩ : ∃ l, nbD m0 us mid = l := ⟨_, rfl⟩
        rw [hhs] at k4
        have HG1 := hide (And.intro k1 (And.intro hmid hes))
        have HG2 := hide (And.intro k2 (And.intro k3 hhs))
        have HG3 := hide k4
        have hlh : hs'.length ≤ 1048576 := by rw [← hhs]; exact nbD_len _ _ _ (by rw [HN.out.1]; exact HLE.out.1)
        have hle : es.length ≤ 1048576 := by rw [← hes]; exact nbD_len _ _ _ (by rw [HN.out.2]; exact HLE.out.2)
        clear k1 k2 k3 k4 hmid hes hhs hjb
        obtain ⟨NH, hNH⟩ : ∃ N, hs'.length = N := ⟨_, rfl⟩
        obtain ⟨NE, hNE⟩ : ∃ N, es.length = N := ⟨_, rfl⟩
        rw [hNH] at hlh
        rw [hNE] at hle
        replace HLE := hide (And.intro HLE.out (And.intro hlh hle))
        have HNG := hide (And.intro hNH hNE)
        clear hlh hle hNH hNE
        have HX := hide (netback_any _ _ _ m1 vs m3 _ (MB.out.below C.out) (Mv.out.below C.out) (Mm3.out.below C.out))
        have zg0 := (Bg.out.below C.out) 0 _ rfl
        have zg1 := (Bg.out.below C.out) 1 _ rfl
        have zg2 := (Bg.out.below C.out) 2 _ rfl
        go_wp2_with fail
        refine HX.out.mono ?_
        rintro e' u7 ⟨vx, vd, rfl, hm, hd, hb⟩
        rw [HG1.out.2.1] at hm
        rw [HG1.out.2.2] at hd
        rw [HG1.out.1, err_eq rfl]
        obtain ⟨ps, rfl, hps⟩ := hm
        obtain ⟨ia, in', ik, rfl⟩ := hps.shape
        obtain ⟨ja, jk, rfl, _, _⟩ := hd.shape
        replace C := hide (below_next C.out hb)
        clear HX hb zg0 zg1 zg2
        rw [HNG.out.2] at hd ⊢
        have hm : IsMx u7 (.agg #[.int .i64 mid.rows, .int .i64 mid.cols, .slice ia in' ik]) mid := ⟨_, rfl, hps⟩
        clear hps
        have Mm := hide (hm.below (below_one u7 (.cells #[.int .i64 mid.rows, .int .i64 mid.cols, .slice ia in' ik] 24)))
        have Mj := hide (hd.below (below_one u7 (.cells #[.int .i64 mid.rows, .int .i64 mid.cols, .slice ia in' ik] 24)))
        have D := below_next C.out (below_one u7 (.cells #[.int .i64 mid.rows, .int .i64 mid.cols, .slice ia in' ik] 24))
        replace MA := hide (MA.out.below D)
        replace MB := hide (MB.out.below D)
        replace Mm2 := hide (Mm2.out.below D)
        replace Mm3 := hide (Mm3.out.below D)
        replace Bx := hide (Bx.out.below D)
        replace Bg := hide (Bg.out.below D)
        replace MC := hide (MC.out.below D)
        replace Ml := hide (Ml.out.below D)
        replace Mu := hide (Mu.out.below D)
        replace Me := hide (Me.out.below D)
        replace Mv := hide (Mv.out.below D)
        replace Mw := hide (Mw.out.below D)
        replace Bt := hide (Bt.out.below D)
        replace Mt := hide (Mt.out.below D)
        replace Md := hide (Md.out.below D)
        replace WW := hide (below_next WW.out D)
        replace C := hide (Below.refl (u7.alloc (.cells #[.int .i64 mid.rows, .int .i64 mid.cols, .slice ia in' ik] 24)).heap.size (u7.alloc (.cells #[.int .i64 mid.rows, .int .i64 mid.cols, .slice ia in' ik] 24)))
        clear D
        have Bm := hide (Box.new u7 [.int .i64 mid.rows, .int .i64 mid.cols, .slice ia in' ik] 24 (B := u7.heap.size) (by simp))
        clear hm hd
        have HX := hide (netback_any _ _ _ m0 us mid _ (MA.out.below C.out) (Mu.out.below C.out) (Mm.out.below C.out))
        have zm0 := (Bm.out.below C.out) 0 _ rfl
        have zm1 := (Bm.out.below C.out) 1 _ rfl
        have zm2 := (Bm.out.below C.out) 2 _ rfl
        go_wp2_with fail
        refine HX.out.mono ?_
        rintro e' u8 ⟨vx, vd, rfl, hm, hd, hb⟩
        rw [HG2.out.2.1] at hm
        rw [HG2.out.2.2] at hd
        rw [HG2.out.1, err_eq rfl]
        obtain ⟨ps, rfl, hps⟩ := hm
        obtain ⟨ya, yn, yk, rfl⟩ := hps.shape
        obtain ⟨ka, kk, rfl, _, _⟩ := hd.shape
        replace C := hide (below_next C.out hb)
        clear HX hb zm0 zm1 zm2
        rw [HNG.out.1] at hd ⊢
        have hm : IsMx u8 (.agg #[.int .i64 to'.rows, .int .i64 to'.cols, .slice ya yn yk]) to' := ⟨_, rfl, hps⟩
        clear hps
        have My := hide (hm.below (below_one u8 (.cells #[.int .i64 to'.rows, .int .i64 to'.cols, .slice ya yn yk] 24)))
        have Mk := hide (hd.below (below_one u8 (.cells #[.int .i64 to'.rows, .int .i64 to'.cols, .slice ya yn yk] 24)))
        have D := below_next C.out (below_one u8 (.cells #[.int .i64 to'.rows, .int .i64 to'.cols, .slice ya yn yk] 24))
        replace MA := hide (MA.out.below D)
        replace MB := hide (MB.out.below D)
        replace Mm2 := hide (Mm2.out.below D)
        replace Mm3 := hide (Mm3.out.below D)
        replace Bx := hide (Bx.out.below D)
        replace Bg := hide (Bg.out.below D)
        replace MC := hide (MC.out.below D)
        replace Ml := hide (Ml.out.below D)
        replace Mu := hide (Mu.out.below D)
        replace Me := hide (Me.out.below D)
        replace Mv := hide (Mv.out.below D)
        replace Mw := hide (Mw.out.below D)
        replace Bt := hide (Bt.out.below D)
        replace Mt := hide (Mt.out.below D)
        replace Md := hide (Md.out.below D)
        replace Bm := hide (Bm.out.below D)
        replace Mm := hide (Mm.out.below D)
        replace Mj := hide (Mj.out.below D)
        replace WW := hide (below_next WW.out D)
        replace C := hide (Below.refl (u8.alloc (.cells #[.int .i64 to'.rows, .int .i64 to'.cols, .slice ya yn yk] 24)).heap.size (u8.alloc (.cells #[.int .i64 to'.rows, .int .i64 to'.cols, .slice ya yn yk] 24)))
        clear D
        have By := hide (Box.new u8 [.int .i64 to'.rows, .int .i64 to'.cols, .slice ya yn yk] 24 (B := u8.heap.size) (by simp))
        clear hm hd
        have HX := hide (matrices_any _ _ to' to' _ (My.out.below C.out) (Mt.out.below C.out))
        have zy0 := (By.out.below C.out) 0 _ rfl
        have zy1 := (By.out.below C.out) 1 _ rfl
        have zy2 := (By.out.below C.out) 2 _ rfl
        have zt0 := (Bt.out.below C.out) 0 _ rfl
        have zt1 := (Bt.out.below C.out) 1 _ rfl
        have zt2 := (Bt.out.below C.out) 2 _ rfl
        go_wp2_with fail
        refine HX.out.mono ?_
        rintro e u9 ⟨rfl, hb⟩
        rw [sameM_refl]
        replace C := hide (below_next C.out hb)
        clear HX hb zy0 zy1 zy2 zt0 zt1 zt2
        replace MA := hide (MA.out.below C.out)
        replace MB := hide (MB.out.below C.out)
        replace Mm2 := hide (Mm2.out.below C.out)
        replace Mm3 := hide (Mm3.out.below C.out)
        replace Bx := hide (Bx.out.below C.out)
        replace Bg := hide (Bg.out.below C.out)
        replace MC := hide (MC.out.below C.out)
        replace Ml := hide (Ml.out.below C.out)
        replace Mu := hide (Mu.out.below C.out)
        replace Me := hide (Me.out.below C.out)
        replace Mv := hide (Mv.out.below C.out)
        replace Mw := hide (Mw.out.below C.out)
        replace Bt := hide (Bt.out.below C.out)
        replace Mt := hide (Mt.out.below C.out)
        replace Md := hide (Md.out.below C.out)
        replace Bm := hide (Bm.out.below C.out)
        replace Mm := hide (Mm.out.below C.out)
        replace Mj := hide (Mj.out.below C.out)
        replace By := hide (By.out.below C.out)
        replace My := hide (My.out.below C.out)
        replace Mk := hide (Mk.out.below C.out)
        replace WW := hide (below_next WW.out C.out)
        replace C := hide (Below.refl u9.heap.size u9)
        obtain ⟨iBg, hi, hz0, hz1, hz2⟩ := info_parts infoGd
        have HIBg := hide (And.intro hi (And.intro hz0 (And.intro hz1 hz2)))
        clear hi hz0 hz1 hz2
        have HOBg : Hid (Owns u9.heap.size u9.heap.size (u9.alloc (.cells #[] 57)) 57 6 (.slice (some ⟨u9.heap.size, 0, none⟩) 0 0) 0 []) := hide (Owns.made (cs := []) (Nat.le_refl _) (Nat.zero_le _) (by simp) (Enc.nil _ _))
        have HRBg0 : Hid (Reads u9 (.slice ka NH kk) NH (hs'.flatMap gdS)) := hide (gds_reads HNG.out.1 (Mk.out.below C.out))
        have HLBg0 : Hid ((hs'.flatMap gdS).length = NH * 6) := hide (by rw [flat_len gdS 6 (fun _ => rfl)]; rw [HNG.out.1])
        have HRBg1 : Hid (Reads u9 (.slice ja NE jk) NE (es.flatMap gdS)) := hide (gds_reads HNG.out.2 (Mj.out.below C.out))
        have HLBg1 : Hid ((es.flatMap gdS).length = NE * 6) := hide (by rw [flat_len gdS 6 (fun _ => rfl)]; rw [HNG.out.2])
        go_wp2_with (first | (at_builtin; refine wpList_append_list rfl _ _ 39 rfl u9.heap.size 57 iBg (.agg #[.int .i64 0, .int .i64 0, .slice none 0 0, .int .i64 0, .int .i64 0, .slice none 0 0]) 6 80 Try.underlying39 HIBg.out.1 HIBg.out.2.1 HIBg.out.2.2.1 HIBg.out.2.2.2 rfl (by decide) _ _ _ rfl HPBg.out _ NE _ rfl u9 HRBg1.out HLBg1.out HDBg.out (Nat.le_refl _) (by have := HLE.out; unfold maxLen; omega) (by have := HLE.out; omega) HDBg.out.size ?_; intro rBg sBg hO hB; have HQBg := hide hO; have HEBg := hide (HDBg.out.trans hB); clear hO hB) | (at_builtin; refine wpList_append_list rfl _ _ 39 rfl u9.heap.size 57 iBg (.agg #[.int .i64 0, .int .i64 0, .slice none 0 0, .int .i64 0, .int .i64 0, .slice none 0 0]) 6 80 Try.underlying39 HIBg.out.1 HIBg.out.2.1 HIBg.out.2.2.1 HIBg.out.2.2.2 rfl (by decide) _ _ _ rfl HOBg.out _ NH _ rfl u9 HRBg0.out HLBg0.out (below_one _ _) (Nat.le_refl _) (by have := HLE.out; unfold maxLen; omega) (by have := HLE.out; omega) (by simp) ?_; intro qBg pBg hO hB; have HPBg : Hid (Owns u9.heap.size u9.heap.size pBg 57 6 qBg NH (hs'.flatMap gdS)) := hide (by rw [Nat.zero_add, List.nil_append] at hO; exact hO); have HDBg := hide ((below_one u9 (.cells #[] 57)).trans hB); clear hO hB))
        clear HIBg HOBg HPBg HDBg HRBg0 HRBg1 HLBg0 HLBg1
        replace C := hide (below_next C.out HEBg.out)
        replace MA := hide (MA.out.below C.out)
        replace MB := hide (MB.out.below C.out)
        replace Mm2 := hide (Mm2.out.below C.out)
        replace Mm3 := hide (Mm3.out.below C.out)
        replace Bx := hide (Bx.out.below C.out)
        replace Bg := hide (Bg.out.below C.out)
        replace MC := hide (MC.out.below C.out)
        replace Ml := hide (Ml.out.below C.out)
        replace Mu := hide (Mu.out.below C.out)
        replace Me := hide (Me.out.below C.out)
        replace Mv := hide (Mv.out.below C.out)
        replace Mw := hide (Mw.out.below C.out)
        replace Bt := hide (Bt.out.below C.out)
        replace Mt := hide (Mt.out.below C.out)
        replace Md := hide (Md.out.below C.out)
        replace Bm := hide (Bm.out.below C.out)
        replace Mm := hide (Mm.out.below C.out)
        replace Mj := hide (Mj.out.below C.out)
        replace By := hide (By.out.below C.out)
        replace My := hide (My.out.below C.out)
        replace Mk := hide (Mk.out.below C.out)
        replace WW := hide (below_next WW.out C.out)
        replace C := hide (Below.refl sBg.heap.size sBg)
        have Mo := hide (gds_app HNG.out.1 HNG.out.2 HQBg.out)
        clear HQBg HEBg
        rw [← HG3.out] at Mo
        have HX := hide (gds_same _ _ ds _ (Mo.out.below C.out) (Md.out.below C.out))
        go_wp2_with fail
        refine HX.out.mono ?_
        rintro e u10 ⟨rfl, hb⟩
        replace C := hide (below_next C.out hb)
        clear HX hb 
        go_wp2
        go_ret
        exact ⟨rfl, below_next WW.out C.out⟩
      · rw [err_ne hF]
        clear hF
        go_wp2
        go_ret
        exact ⟨rfl, below_next WW.out C.out⟩
    · have hv2 : 1 < vk := by omega
      have hv3 : ¬ vk - 1 = 0 := by omega
      obtain ⟨iD, hi, hz0, hz1, hz2⟩ := info_parts infoMx
      have HID := hide (And.intro hi (And.intro hz0 (And.intro hz1 hz2)))
      clear hi hz0 hz1 hz2
      have HOD : Hid (Owns u4.heap.size u4.heap.size (u4.alloc (.cells #[] 24)) 24 3 (.slice (some ⟨u4.heap.size, 0, none⟩) 0 0) 0 []) := hide (Owns.made (cs := []) (Nat.le_refl _) (Nat.zero_le _) (by simp) (Enc.nil _ _))
      have HRD0 : Hid (Reads u4 (.slice (some ⟨ub, uo, none⟩) (NA + 1) uk) (NA + 1) (us.flatMap mxS)) := hide (mxs_reads HEU.out.2 (Mu.out.below C.out))
      have HLD0 : Hid ((us.flatMap mxS).length = (NA + 1) * 3) := hide (by rw [flat_len mxS 3 (fun _ => rfl)]; rw [HEU.out.2])
      have HRD1 : Hid (Reads u4 (.slice (some ⟨vb, vo + 3, none⟩) NB (vk - 1)) NB (vt.flatMap mxS)) := hide (mxs_tail HVL.out.2.1 HVL.out.1 (Mv.out.below C.out))
      have HLD1 : Hid ((vt.flatMap mxS).length = NB * 3) := hide (by rw [flat_len mxS 3 (fun _ => rfl)]; rw [HVL.out.2.1])
      go_wp2_with (first | (at_builtin; refine wpList_append_list rfl _ _ 33 rfl u4.heap.size 24 iD (.agg #[.int .i64 0, .int .i64 0, .slice none 0 0]) 3 40 Try.underlying33 HID.out.1 HID.out.2.1 HID.out.2.2.1 HID.out.2.2.2 rfl (by decide) _ _ _ rfl HPD.out _ NB _ rfl u4 HRD1.out HLD1.out HDD.out (Nat.le_refl _) (by have := HLE.out; unfold maxLen; omega) (by have := HLE.out; omega) HDD.out.size ?_; intro rD sD hO hB; have HQD := hide hO; have HED := hide (HDD.out.trans hB); clear hO hB) | (at_builtin; refine wpList_append_list rfl _ _ 33 rfl u4.heap.size 24 iD (.agg #[.int .i64 0, .int .i64 0, .slice none 0 0]) 3 40 Try.underlying33 HID.out.1 HID.out.2.1 HID.out.2.2.1 HID.out.2.2.2 rfl (by decide) _ _ _ rfl HOD.out _ (NA + 1) _ rfl u4 HRD0.out HLD0.out (below_one _ _) (Nat.le_refl _) (by have := HLE.out; unfold maxLen; omega) (by have := HLE.out; omega) (by simp) ?_; intro qD pD hO hB; have HPD : Hid (Owns u4.heap.size u4.heap.size pD 24 3 qD (NA + 1) (us.flatMap mxS)) := hide (by rw [Nat.zero_add, List.nil_append] at hO; exact hO); have HDD := hide ((below_one u4 (.cells #[] 24)).trans hB); clear hO hB))
      clear HID HOD HPD HDD HRD0 HRD1 HLD0 HLD1
      replace C := hide (below_next C.out HED.out)
      replace MA := hide (MA.out.below C.out)
      replace MB := hide (MB.out.below C.out)
      replace Mm2 := hide (Mm2.out.below C.out)
      replace Mm3 := hide (Mm3.out.below C.out)
      replace Bx := hide (Bx.out.below C.out)
      replace Bg := hide (Bg.out.below C.out)
      replace MC := hide (MC.out.below C.out)
      replace Ml := hide (Ml.out.below C.out)
      replace Mu := hide (Mu.out.below C.out)
      replace Me := hide (Me.out.below C.out)
      replace Mv := hide (Mv.out.below C.out)
      replace WW := hide (below_next WW.out C.out)
      replace C := hide (Below.refl sD.heap.size sD)
      have Mw := hide (mxs_app HEU.out.2 (HVL.out.2.1) HQD.out)
      clear HQD HED
      rw [← HLS.out] at Mw
      have HX := hide (mxs_same _ _ ls _ (Ml.out.below C.out) (Mw.out.below C.out))
      go_wp2_with fail
      refine HX.out.mono ?_
      rintro e u11 ⟨rfl, hb⟩
      replace C := hide (below_next C.out hb)
      clear HX hb 
      obtain ⟨F, hF⟩ : ∃ E, nbE (m0 ++ m1) ls m3 = E := ⟨_, rfl⟩
      obtain ⟨to', hto⟩ : ∃ l, nbX (m0 ++ m1) ls m3 = l := ⟨_, rfl⟩
      obtain ⟨ds, hds⟩ : ∃ l, nbD (m0 ++ m1) ls m3 = l := ⟨_, rfl⟩
      have HF := hide (And.intro hF (And.intro hto hds))
      clear hF hto hds
      have HX := hide (netback_any _ _ _ (m0 ++ m1) ls m3 _ (MC.out.below C.out) (Ml.out.below C.out) (Mm3.out.below C.out))
      have zg0 := (Bg.out.below C.out) 0 _ rfl
      have zg1 := (Bg.out.below C.out) 1 _ rfl
      have zg2 := (Bg.out.below C.out) 2 _ rfl
      go_wp2_with fail
      refine HX.out.mono ?_
      rintro e' u12 ⟨vx, vd, rfl, hm, hd, hb⟩
      rw [HF.out.2.1] at hm
      rw [HF.out.2.2] at hd
      rw [HF.out.1]
      obtain ⟨ps, rfl, hps⟩ := hm
      obtain ⟨pa, pn, pk, rfl⟩ := hps.shape
      obtain ⟨da, dk, rfl, _, _⟩ := hd.shape
      replace C := hide (below_next C.out hb)
      clear HX hb zg0 zg1 zg2
      have hm : IsMx u12 (.agg #[.int .i64 to'.rows, .int .i64 to'.cols, .slice pa pn pk]) to' := ⟨_, rfl, hps⟩
      clear hps
      have Mt := hide (hm.below (below_one u12 (.cells #[.int .i64 to'.rows, .int .i64 to'.cols, .slice pa pn pk] 24)))
      have Md := hide (hd.below (below_one u12 (.cells #[.int .i64 to'.rows, .int .i64 to'.cols, .slice pa pn pk] 24)))
      have D := below_next C.out (below_one u12 (.cells #[.int .i64 to'.rows, .int .i64 to'.cols, .slice pa pn pk] 24))
      replace MA := hide (MA.out.below D)
      replace MB := hide (MB.out.below D)
      replace Mm2 := hide (Mm2.out.below D)
      replace Mm3 := hide (Mm3.out.below D)
      replace Bx := hide (Bx.out.below D)
      replace Bg := hide (Bg.out.below D)
      replace MC := hide (MC.out.below D)
      replace Ml := hide (Ml.out.below D)
      replace Mu := hide (Mu.out.below D)
      replace Me := hide (Me.out.below D)
      replace Mv := hide (Mv.out.below D)
      replace Mw := hide (Mw.out.below D)
      replace WW := hide (below_next WW.out D)
      replace C := hide (Below.refl (u12.alloc (.cells #[.int .i64 to'.rows, .int .i64 to'.cols, .slice pa pn pk] 24)).heap.size (u12.alloc (.cells #[.int .i64 to'.rows, .int .i64 to'.cols, .slice pa pn pk] 24)))
      clear D
      have Bt := hide (Box.new u12 [.int .i64 to'.rows, .int .i64 to'.cols, .slice pa pn pk] 24 (B := u12.heap.size) (by simp))
      clear hm hd
      by_cases hF : F = 0
      · subst hF
        rw [err_eq rfl]
        have hjb := HF.out.1
        rw [← HEL.out.2] at hjb
        obtain ⟨k1, k2, k3, k4⟩ := join_back HEL.out.1 hjb
        rw [HEX.out, HEE.out.2.2.2] at k1 k2 k3 k4
        rw [HEE.out.2.2.1] at k2 k3 k4
        rw [HEL.out.2] at k3 k4
        rw [HF.out.2.1] at k3
        rw [HF.out.2.2] at k4
        obtain ⟨mid, hmid⟩ : ∃ l, nbX m1 vs m3 = l := ⟨_, rfl⟩
        obtain ⟨es, hes⟩ : ∃ l, nbD m1 vs m3 = l := ⟨_, rfl⟩
        rw [hmid] at k2 k3 k4
        rw [hes] at k4
        obtain ⟨hs', hhs⟩ : ∃ l, nbD m0 us mid = l := ⟨_, rfl⟩
        rw [hhs] at k4
        have HG1 := hide (And.intro k1 (And.intro hmid hes))
        have HG2 := hide (And.intro k2 (And.intro k3 hhs))
        have HG3 := hide k4
        have hlh : hs'.length ≤ 1048576 := by rw [← hhs]; exact nbD_len _ _ _ (by rw [HN.out.1]; exact HLE.out.1)
        have hle : es.length ≤ 1048576 := by rw [← hes]; exact nbD_len _ _ _ (by rw [HN.out.2]; exact HLE.out.2)
        clear k1 k2 k3 k4 hmid hes hhs hjb
        obtain ⟨NH, hNH⟩ : ∃ N, hs'.length = N := ⟨_, rfl⟩
        obtain ⟨NE, hNE⟩ : ∃ N, es.length = N := ⟨_, rfl⟩
        rw [hNH] at hlh
        rw [hNE] at hle
        replace HLE := hide (And.intro HLE.out (And.intro hlh hle))
        have HNG := hide (And.intro hNH hNE)
        clear hlh hle hNH hNE
        have HX := hide (netback_any _ _ _ m1 vs m3 _ (MB.out.below C.out) (Mv.out.below C.out) (Mm3.out.below C.out))
        have zg0 := (Bg.out.below C.out) 0 _ rfl
        have zg1 := (Bg.out.below C.out) 1 _ rfl
        have zg2 := (Bg.out.below C.out) 2 _ rfl
        go_wp2_with fail
        refine HX.out.mono ?_
        rintro e' u13 ⟨vx, vd, rfl, hm, hd, hb⟩
        rw [HG1.out.2.1] at hm
        rw [HG1.out.2.2] at hd
        rw [HG1.out.1, err_eq rfl]
        obtain ⟨ps, rfl, hps⟩ := hm
        obtain ⟨ia, in', ik, rfl⟩ := hps.shape
        obtain ⟨ja, jk, rfl, _, _⟩ := hd.shape
        replace C := hide (below_next C.out hb)
        clear HX hb zg0 zg1 zg2
        rw [HNG.out.2] at hd ⊢
        have hm : IsMx u13 (.agg #[.int .i64 mid.rows, .int .i64 mid.cols, .slice ia in' ik]) mid := ⟨_, rfl, hps⟩
        clear hps
        have Mm := hide (hm.below (below_one u13 (.cells #[.int .i64 mid.rows, .int .i64 mid.cols, .slice ia in' ik] 24)))
        have Mj := hide (hd.below (below_one u13 (.cells #[.int .i64 mid.rows, .int .i64 mid.cols, .slice ia in' ik] 24)))
        have D := below_next C.out (below_one u13 (.cells #[.int .i64 mid.rows, .int .i64 mid.cols, .slice ia in' ik] 24))
        replace MA := hide (MA.out.below D)
        replace MB := hide (MB.out.below D)
        replace Mm2 := hide (Mm2.out.below D)
        replace Mm3 := hide (Mm3.out.below D)
        replace Bx := hide (Bx.out.below D)
        replace Bg := hide (Bg.out.below D)
        replace MC := hide (MC.out.below D)
        replace Ml := hide (Ml.out.below D)
        replace Mu := hide (Mu.out.below D)
        replace Me := hide (Me.out.below D)
        replace Mv := hide (Mv.out.below D)
        replace Mw := hide (Mw.out.below D)
        replace Bt := hide (Bt.out.below D)
        replace Mt := hide (Mt.out.below D)
        replace Md := hide (Md.out.below D)
        replace WW := hide (below_next WW.out D)
        replace C := hide (Below.refl (u13.alloc (.cells #[.int .i64 mid.rows, .int .i64 mid.cols, .slice ia in' ik] 24)).heap.size (u13.alloc (.cells #[.int .i64 mid.rows, .int .i64 mid.cols, .slice ia in' ik] 24)))
        clear D
        have Bm := hide (Box.new u13 [.int .i64 mid.rows, .int .i64 mid.cols, .slice ia in' ik] 24 (B := u13.heap.size) (by simp))
        clear hm hd
        have HX := hide (netback_any _ _ _ m0 us mid _ (MA.out.below C.out) (Mu.out.below C.out) (Mm.out.below C.out))
        have zm0 := (Bm.out.below C.out) 0 _ rfl
        have zm1 := (Bm.out.below C.out) 1 _ rfl
        have zm2 := (Bm.out.below C.out) 2 _ rfl
        go_wp2_with fail
        refine HX.out.mono ?_
        rintro e' u14 ⟨vx, vd, rfl, hm, hd, hb⟩
        rw [HG2.out.2.1] at hm
        rw [HG2.out.2.2] at hd
        rw [HG2.out.1, err_eq rfl]
        obtain ⟨ps, rfl, hps⟩ := hm
        obtain ⟨ya, yn, yk, rfl⟩ := hps.shape
        obtain ⟨ka, kk, rfl, _, _⟩ := hd.shape
        replace C := hide (below_next C.out hb)
        clear HX hb zm0 zm1 zm2
        rw [HNG.out.1] at hd ⊢
        have hm : IsMx u14 (.agg #[.int .i64 to'.rows, .int .i64 to'.cols, .slice ya yn yk]) to' := ⟨_, rfl, hps⟩
        clear hps
        have My := hide (hm.below (below_one u14 (.cells #[.int .i64 to'.rows, .int .i64 to'.cols, .slice ya yn yk] 24)))
        have Mk := hide (hd.below (below_one u14 (.cells #[.int .i64 to'.rows, .int .i64 to'.cols, .slice ya yn yk] 24)))
        have D := below_next C.out (below_one u14 (.cells #[.int .i64 to'.rows, .int .i64 to'.cols, .slice ya yn yk] 24))
        replace MA := hide (MA.out.below D)
        replace MB := hide (MB.out.below D)
        replace Mm2 := hide (Mm2.out.below D)
        replace Mm3 := hide (Mm3.out.below D)
        replace Bx := hide (Bx.out.below D)
        replace Bg := hide (Bg.out.below D)
        replace MC := hide (MC.out.below D)
        replace Ml := hide (Ml.out.below D)
        replace Mu := hide (Mu.out.below D)
        replace Me := hide (Me.out.below D)
        replace Mv := hide (Mv.out.below D)
        replace Mw := hide (Mw.out.below D)
        replace Bt := hide (Bt.out.below D)
        replace Mt := hide (Mt.out.below D)
        replace Md := hide (Md.out.below D)
        replace Bm := hide (Bm.out.below D)
        replace Mm := hide (Mm.out.below D)
        replace Mj := hide (Mj.out.below D)
        replace WW := hide (below_next WW.out D)
        replace C := hide (Below.refl (u14.alloc (.cells #[.int .i64 to'.rows, .int .i64 to'.cols, .slice ya yn yk] 24)).heap.size (u14.alloc (.cells #[.int .i64 to'.rows, .int .i64 to'.cols, .slice ya yn yk] 24)))
        clear D
        have By := hide (Box.new u14 [.int .i64 to'.rows, .int .i64 to'.cols, .slice ya yn yk] 24 (B := u14.heap.size) (by simp))
        clear hm hd
        have HX := hide (matrices_any _ _ to' to' _ (My.out.below C.out) (Mt.out.below C.out))
        have zy0 := (By.out.below C.out) 0 _ rfl
        have zy1 := (By.out.below C.out) 1 _ rfl
        have zy2 := (By.out.below C.out) 2 _ rfl
        have zt0 := (Bt.out.below C.out) 0 _ rfl
        have zt1 := (Bt.out.below C.out) 1 _ rfl
        have zt2 := (Bt.out.below C.out) 2 _ rfl
        go_wp2_with fail
        refine HX.out.mono ?_
        rintro e u15 ⟨rfl, hb⟩
        rw [sameM_refl]
        replace C := hide (below_next C.out hb)
        clear HX hb zy0 zy1 zy2 zt0 zt1 zt2
        replace MA := hide (MA.out.below C.out)
        replace MB := hide (MB.out.below C.out)
        replace Mm2 := hide (Mm2.out.below C.out)
        replace Mm3 := hide (Mm3.out.below C.out)
        replace Bx := hide (Bx.out.below C.out)
        replace Bg := hide (Bg.out.below C.out)
        replace MC := hide (MC.out.below C.out)
        replace Ml := hide (Ml.out.below C.out)
        replace Mu := hide (Mu.out.below C.out)
        replace Me := hide (Me.out.below C.out)
        replace Mv := hide (Mv.out.below C.out)
        replace Mw := hide (Mw.out.below C.out)
        replace Bt := hide (Bt.out.below C.out)
        replace Mt := hide (Mt.out.below C.out)
        replace Md := hide (Md.out.below C.out)
        replace Bm := hide (Bm.out.below C.out)
        replace Mm := hide (Mm.out.below C.out)
        replace Mj := hide (Mj.out.below C.out)
        replace By := hide (By.out.below C.out)
        replace My := hide (My.out.below C.out)
        replace Mk := hide (Mk.out.below C.out)
        replace WW := hide (below_next WW.out C.out)
        replace C := hide (Below.refl u15.heap.size u15)
        obtain ⟨iDg, hi, hz0, hz1, hz2⟩ := info_parts infoGd
        have HIDg := hide (And.intro hi (And.intro hz0 (And.intro hz1 hz2)))
        clear hi hz0 hz1 hz2
        have HODg : Hid (Owns u15.heap.size u15.heap.size (u15.alloc (.cells #[] 57)) 57 6 (.slice (some ⟨u15.heap.size, 0, none⟩) 0 0) 0 []) := hide (Owns.made (cs := []) (Nat.le_refl _) (Nat.zero_le _) (by simp) (Enc.nil _ _))
        have HRDg0 : Hid (Reads u15 (.slice ka NH kk) NH (hs'.flatMap gdS)) := hide (gds_reads HNG.out.1 (Mk.out.below C.out))
        have HLDg0 : Hid ((hs'.flatMap gdS).length = NH * 6) := hide (by rw [flat_len gdS 6 (fun _ => rfl)]; rw [HNG.out.1])
        have HRDg1 : Hid (Reads u15 (.slice ja NE jk) NE (es.flatMap gdS)) := hide (gds_reads HNG.out.2 (Mj.out.below C.out))
        have HLDg1 : Hid ((es.flatMap gdS).length = NE * 6) := hide (by rw [flat_len gdS 6 (fun _ => rfl)]; rw [HNG.out.2])
        go_wp2_with (first | (at_builtin; refine wpList_append_list rfl _ _ 39 rfl u15.heap.size 57 iDg (.agg #[.int .i64 0, .int .i64 0, .slice none 0 0, .int .i64 0, .int .i64 0, .slice none 0 0]) 6 80 Try.underlying39 HIDg.out.1 HIDg.out.2.1 HIDg.out.2.2.1 HIDg.out.2.2.2 rfl (by decide) _ _ _ rfl HPDg.out _ NE _ rfl u15 HRDg1.out HLDg1.out HDDg.out (Nat.le_refl _) (by have := HLE.out; unfold maxLen; omega) (by have := HLE.out; omega) HDDg.out.size ?_; intro rDg sDg hO hB; have HQDg := hide hO; have HEDg := hide (HDDg.out.trans hB); clear hO hB) | (at_builtin; refine wpList_append_list rfl _ _ 39 rfl u15.heap.size 57 iDg (.agg #[.int .i64 0, .int .i64 0, .slice none 0 0, .int .i64 0, .int .i64 0, .slice none 0 0]) 6 80 Try.underlying39 HIDg.out.1 HIDg.out.2.1 HIDg.out.2.2.1 HIDg.out.2.2.2 rfl (by decide) _ _ _ rfl HODg.out _ NH _ rfl u15 HRDg0.out HLDg0.out (below_one _ _) (Nat.le_refl _) (by have := HLE.out; unfold maxLen; omega) (by have := HLE.out; omega) (by simp) ?_; intro qDg pDg hO hB; have HPDg : Hid (Owns u15.heap.size u15.heap.size pDg 57 6 qDg NH (hs'.flatMap gdS)) := hide (by rw [Nat.zero_add, List.nil_append] at hO; exact hO); have HDDg := hide ((below_one u15 (.cells #[] 57)).trans hB); clear hO hB))
        clear HIDg HODg HPDg HDDg HRDg0 HRDg1 HLDg0 HLDg1
        replace C := hide (below_next C.out HEDg.out)
        replace MA := hide (MA.out.below C.out)
        replace MB := hide (MB.out.below C.out)
        replace Mm2 := hide (Mm2.out.below C.out)
        replace Mm3 := hide (Mm3.out.below C.out)
        replace Bx := hide (Bx.out.below C.out)
        replace Bg := hide (Bg.out.below C.out)
        replace MC := hide (MC.out.below C.out)
        replace Ml := hide (Ml.out.below C.out)
        replace Mu := hide (Mu.out.below C.out)
        replace Me := hide (Me.out.below C.out)
        replace Mv := hide (Mv.out.below C.out)
        replace Mw := hide (Mw.out.below C.out)
        replace Bt := hide (Bt.out.below C.out)
        replace Mt := hide (Mt.out.below C.out)
        replace Md := hide (Md.out.below C.out)
        replace Bm := hide (Bm.out.below C.out)
        replace Mm := hide (Mm.out.below C.out)
        replace Mj := hide (Mj.out.below C.out)
        replace By := hide (By.out.below C.out)
        replace My := hide (My.out.below C.out)
        replace Mk := hide (Mk.out.below C.out)
        replace WW := hide (below_next WW.out C.out)
        replace C := hide (Below.refl sDg.heap.size sDg)
        have Mo := hide (gds_app HNG.out.1 HNG.out.2 HQDg.out)
        clear HQDg HEDg
        rw [← HG3.out] at Mo
        have HX := hide (gds_same _ _ ds _ (Mo.out.below C.out) (Md.out.below C.out))
        go_wp2_with fail
        refine HX.out.mono ?_
        rintro e u16 ⟨rfl, hb⟩
        replace C := hide (below_next C.out hb)
        clear HX hb 
        go_wp2
        go_ret
        exact ⟨rfl, below_next WW.out C.out⟩
      · rw [err_ne hF]
        clear hF
        go_wp2
        go_ret
        exact ⟨rfl, below_next WW.out C.out⟩
  · rw [err_ne hE]
    clear hE
    go_wp2
    go_ret
    exact ⟨rfl, below_next WW.out C.out⟩
end Go.Proofs.Ytbkkhdekjgabfad
