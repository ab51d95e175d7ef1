/- Lines of texts without ends of lines, and of texts of one letter a line. Plain lists. -/
import Derived.Test.YtjhccghhinlmdaaDoorKeepPaint
namespace Go.Proofs.YtjhccghhinlmdaaDoor
open Go.RowKit

/-- a text without ends of lines, cut on the way: q whole lines, and some bytes of another -/
theorem cutS_plain (s : ByteArray) (w : Nat) (h : ∀ k, k < s.size → byteAt s k ≠ 10) (hw1 : 1 ≤ w) : ∀ k, k ≤ s.size → ∃ q, (cutS s w k).1 = q * w ∧ (cutS s w k).2.length = q ∧ (∀ j, j < q → (cutS s w k).2[j]? = some (s.extract (j * w) (j * w + w))) ∧ q * w ≤ k ∧ k ≤ q * w + w := by
  intro k
  induction k with
  | zero => intro _; exact ⟨0, by simp [cutS], by simp [cutS], by simp, by simp, by omega⟩
  | succ k ih =>
    intro hk
    obtain ⟨q, e1, e2, e3, e4, e5⟩ := ih (by omega)
    have hb := h k (by omega)
    simp only [cutS, if_neg hb]
    by_cases hw : (k : Int) - (cutS s w k).1 = w
    · rw [if_pos hw]
      rw [e1] at hw
      have ek : k = q * w + w := by omega
      refine ⟨q + 1, ?_, by simp [e2], ?_, ?_, ?_⟩
      · simp only [Nat.add_mul, Nat.one_mul]; exact ek
      · intro j hj
        rcases Nat.lt_or_ge j q with hlt | hge
        · rw [List.getElem?_append_left (by omega)]; exact e3 j hlt
        · have : j = q := by omega
          subst this
          rw [List.getElem?_append_right (by omega), e2, Nat.sub_self, e1, ek]
          rfl
      · rw [Nat.add_mul, Nat.one_mul]; omega
      · rw [Nat.add_mul, Nat.one_mul]; omega
    · rw [if_neg hw]
      rw [e1] at hw
      exact ⟨q, e1, e2, e3, by omega, by omega⟩
theorem cutF_plain (s : ByteArray) (w : Nat) (h : ∀ k, k < s.size → byteAt s k ≠ 10) (hw1 : 1 ≤ w) : ∃ q, (cutF s w).length = q + 1 ∧ (∀ j, j < q → (cutF s w)[j]? = some (s.extract (j * w) (j * w + w))) ∧ (cutF s w)[q]? = some (s.extract (q * w) s.size) ∧ q * w ≤ s.size ∧ s.size ≤ q * w + w := by
  obtain ⟨q, e1, e2, e3, e4, e5⟩ := cutS_plain s w h hw1 s.size (Nat.le_refl _)
  refine ⟨q, by simp [cutF, e2], ?_, ?_, e4, e5⟩
  · intro j hj
    unfold cutF
    rw [List.getElem?_append_left (by omega)]; exact e3 j hj
  · unfold cutF
    rw [List.getElem?_append_right (by omega), e2, Nat.sub_self, e1]; rfl
theorem byteAt_extract (s : ByteArray) (a b k : Nat) (h : a + k < b) : byteAt (s.extract a b) k = byteAt s (a + k) := by
  unfold byteAt
  rw [nums_extract, List.getD_eq_getElem?_getD, List.getD_eq_getElem?_getD, List.getElem?_take_of_lt (by omega), List.getElem?_drop]
theorem size_extract' (s : ByteArray) (a b : Nat) (hb : b ≤ s.size) : (s.extract a b).size = b - a := by rw [ByteArray.size_extract]; omega
theorem lineAt_of {ls : List ByteArray} {n : Nat} {l : ByteArray} (h : ls[n]? = some l) : lineAt ls (n : Int) = l := by simp [lineAt, List.getD_eq_getElem?_getD, h]

/-- what such a text has in a place -/
theorem charF_plain (s : ByteArray) (w col n : Nat) (h : ∀ k, k < s.size → byteAt s k ≠ 10) (hc : col < w) : charF (cutF s w) col n = if s.size ≤ n * w + col then 32 else shownC (byteAt s (n * w + col)) := by
  obtain ⟨q, e1, e2, e3, e4, e5⟩ := cutF_plain s w h (by omega)
  unfold charF
  rcases Nat.lt_trichotomy n q with hn | hn | hn
  · have m1 : n * w + w ≤ q * w := by
      have := Nat.mul_le_mul_right w (show n + 1 ≤ q by omega)
      rw [Nat.add_mul, Nat.one_mul] at this; exact this
    have hl := lineAt_of (e2 n hn)
    have hs : (s.extract (n * w) (n * w + w)).size = w := by rw [size_extract' _ _ _ (by omega)]; omega
    rw [hl, hs, if_neg (by omega), if_neg (by omega)]
    simp only [Int.toNat_natCast]
    rw [byteAt_extract _ _ _ _ (by omega)]
  · subst hn
    have hl := lineAt_of e3
    have hs : (s.extract (n * w) s.size).size = s.size - n * w := size_extract' _ _ _ (Nat.le_refl _)
    rw [hl, hs]
    by_cases hc2 : s.size ≤ n * w + col
    · rw [if_pos (by omega), if_pos hc2]
    · rw [if_neg (by omega), if_neg hc2]
      simp only [Int.toNat_natCast]
      rw [byteAt_extract _ _ _ _ (by omega)]
  · have m1 : q * w + w ≤ n * w := by
      have := Nat.mul_le_mul_right w (show q + 1 ≤ n by omega)
      rw [Nat.add_mul, Nat.one_mul] at this; exact this
    rw [if_pos (by omega), if_pos (by omega)]
/-- a window of such a text, in a cell of its own -/
theorem cell_plain (o : Win) (ok : o.Ok) (h : ∀ k, k < o.text.size → byteAt o.text k ≠ 10) (x y : Int) (hh : o.has x y = true) : o.cell 0 x y = (o.charK x y, o.style) := by
  obtain ⟨p1, p2, p3, p4⟩ := has_iff.1 hh
  have w1 := ok.w1
  obtain ⟨w, hw⟩ := Int.eq_ofNat_of_zero_le (show 0 ≤ o.w by omega)
  obtain ⟨col, hc⟩ := Int.eq_ofNat_of_zero_le (show 0 ≤ x - o.x by omega)
  obtain ⟨n, hn⟩ := Int.eq_ofNat_of_zero_le (show 0 ≤ y - o.y by omega)
  unfold Win.cell Win.charK
  rw [Int.add_zero, hw, hc, hn, charF_plain o.text w col n h (by omega)]
  have e : (n : Int) * (w : Int) + x - o.x = ((n * w + col : Nat) : Int) := by
    rw [Int.natCast_add, Int.natCast_mul]; omega
  rw [e]
  simp only [Int.toNat_natCast]
  congr 1
  by_cases hs : o.text.size ≤ n * w + col
  · rw [if_pos hs, if_pos (by omega)]
  · rw [if_neg hs, if_neg (by omega)]

/-- two windows of such texts: what is to be seen -/
theorem view_two (a b : Win) (oka : a.Ok) (okb : b.Ok) (ha : ∀ k, k < a.text.size → byteAt a.text k ≠ 10) (hb : ∀ k, k < b.text.size → byteAt b.text k ≠ 10) (x y : Int) : V.cell [(a, 0), (b, 0)] x y = if b.has x y = true ∧ (a.has x y = false ∨ a.layer ≤ b.layer) then (b.charK x y, b.style) else if a.has x y = true then (a.charK x y, a.style) else (32, 7) := by
  have e0 : V.at [(a, (0 : Int)), (b, 0)] 0 = (a, 0) := rfl
  have e1 : V.at [(a, (0 : Int)), (b, 0)] 1 = (b, 0) := rfl
  unfold V.cell
  simp only [List.length_cons, List.length_nil, V.best, e0, e1]
  by_cases h1 : a.has x y = true
  · by_cases h2 : b.has x y = true
    · by_cases h3 : a.layer ≤ b.layer
      · have : (if (V.at [(a, (0 : Int)), (b, 0)] 0).1.layer ≤ b.layer then some 1 else some 0) = some 1 := by rw [e0, if_pos h3]
        simp [h1, h2, h3, this, e1, cell_plain b okb hb x y h2]
      · simp [h1, h2, h3, e0, cell_plain a oka ha x y h1]
    · simp [h1, h2, e0, cell_plain a oka ha x y h1]
  · by_cases h2 : b.has x y = true
    · simp [h1, h2, e1, cell_plain b okb hb x y h2]
    · simp [h1, h2]
theorem view_one (a : Win) (oka : a.Ok) (ha : ∀ k, k < a.text.size → byteAt a.text k ≠ 10) (x y : Int) : V.cell [(a, 0)] x y = if a.has x y = true then (a.charK x y, a.style) else (32, 7) := by
  have e0 : V.at [(a, (0 : Int))] 0 = (a, 0) := rfl
  unfold V.cell
  simp only [List.length_cons, List.length_nil, V.best, e0]
  by_cases h1 : a.has x y = true
  · simp [h1, e0, cell_plain a oka ha x y h1]
  · simp [h1]
/-- a row of what is to be seen -/
theorem rowOf_grid (v : V) (W H : Nat) (y : Int) (hy : 0 ≤ y) (hy2 : y < H) : rowOf W y (v.grid W H) = (List.range W).map fun (x : Nat) => v.cell x y := by
  obtain ⟨n, rfl⟩ := Int.eq_ofNat_of_zero_le hy
  have hl : n * W + W ≤ W * H := by
    have := Nat.mul_le_mul_right W (show n + 1 ≤ H by omega)
    rw [Nat.add_mul, Nat.one_mul, Nat.mul_comm H W] at this; exact this
  have e1 : ((n : Int) * (W : Int)).toNat = n * W := by rw [← Int.natCast_mul, Int.toNat_natCast]
  have e2 : ((W : Int) * (H : Int)).toNat = W * H := by rw [← Int.natCast_mul, Int.toNat_natCast]
  apply List.ext_getElem?
  intro i
  unfold rowOf V.grid V.gridTo
  rw [e1, e2, Int.toNat_natCast]
  by_cases hi : i < W
  · rw [List.getElem?_take_of_lt hi, List.getElem?_drop, List.getElem?_map, List.getElem?_range (by omega), List.getElem?_map, List.getElem?_range hi]
    simp only [Option.map_some, Option.some.injEq]
    have := at_div (W := (W : Int)) (x := (i : Int)) (y := (n : Int)) (by omega) (by omega)
    rw [show ((n * W + i : Nat) : Int) = (n : Int) * W + i by rw [Int.natCast_add, Int.natCast_mul], this.1, this.2]
  · rw [List.getElem?_eq_none (by simp; omega), List.getElem?_eq_none (by simp; omega)]

theorem fits_zero (o : Win) : o.fits 0 = 0 := by
  unfold Win.fits
  (repeat' split) <;> omega
theorem errAt_zero {ws : List Win} {i : Nat} {o : Win} (ok : o.Ok) (h : (ws.take i).any (fun q => q.key == o.key) = false) : errAt ws i o = 0 := by
  obtain ⟨a1, a2, a3, a4, a5, a6, a7, a8, a9, b1, b2, b3, b4, b5, b6⟩ := ok
  unfold errAt
  rw [if_neg (by rw [h]; simp; omega), if_neg (by omega), if_neg (by omega), if_neg (by omega)]
theorem errV_one (a : Win) (ok : a.Ok) : errV [a] = 0 := by
  have h0 : errAt [a] 0 a = 0 := errAt_zero ok (by simp)
  unfold errV
  rw [if_neg (by simp)]
  simp [errFrom, h0]
theorem errV_two (a b : Win) (oka : a.Ok) (okb : b.Ok) (hk : a.key ≠ b.key) : errV [a, b] = 0 := by
  have h0 : errAt [a, b] 0 a = 0 := errAt_zero oka (by simp)
  have h1 : errAt [a, b] 1 b = 0 := errAt_zero okb (by simp [hk])
  unfold errV
  rw [if_neg (by simp)]
  simp [errFrom, h0, h1]
theorem next_nil (ws : List Win) : V.next [] ws = ws.map fun o => (o, 0) := by
  unfold V.next
  apply List.map_congr_left
  intro o _
  simp [V.offOf, fits_zero o]
theorem wins_one {w : World} {g : Nat} {a : Win} (h : Blk w g a.vals 23) : WinsAt w (some ⟨g, 0, none⟩) [a] := by
  intro i o ho
  cases i with
  | zero => simp at ho; subst ho; exact ⟨g, 0, rfl, ⟨h.cell 0, h.cell 1, h.cell 2, h.cell 3, h.cell 4, h.cell 5, h.cell 6, h.cell 7⟩⟩
  | succ i => simp at ho
theorem wins_two {w : World} {g : Nat} {a b : Win} (h : Blk w g (a.vals ++ b.vals) 23) : WinsAt w (some ⟨g, 0, none⟩) [a, b] := by
  intro i o ho
  cases i with
  | zero => simp at ho; subst ho; exact ⟨g, 0, rfl, ⟨h.cell 0, h.cell 1, h.cell 2, h.cell 3, h.cell 4, h.cell 5, h.cell 6, h.cell 7⟩⟩
  | succ i =>
    cases i with
    | zero => simp at ho; subst ho; exact ⟨g, 0, rfl, ⟨h.cell 8, h.cell 9, h.cell 10, h.cell 11, h.cell 12, h.cell 13, h.cell 14, h.cell 15⟩⟩
    | succ i => simp at ho
end Go.Proofs.YtjhccghhinlmdaaDoor
