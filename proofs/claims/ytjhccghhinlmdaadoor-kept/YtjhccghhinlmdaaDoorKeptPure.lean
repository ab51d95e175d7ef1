/- Texts of one letter a line, and a window of one cell. Plain lists. -/
import Derived.Test.YtjhccghhinlmdaaDoorCutPure
namespace Go.Proofs.YtjhccghhinlmdaaDoor
open Go.RowKit

/-- letters, from a on, each but the first behind an end of line -/
def colN : Nat → List Int
  | 0 => [97]
  | n + 1 => colN n ++ [10, 97 + ((n : Int) + 1)]
theorem colN_length (n : Nat) : (colN n).length = 2 * n + 1 := by
  induction n with
  | zero => rfl
  | succ n ih => simp [colN, ih]; omega
theorem colN_even (n j : Nat) (h : j ≤ n) : (colN n).getD (2 * j) 0 = 97 + (j : Int) := by
  induction n with
  | zero => have : j = 0 := by omega
            subst this; rfl
  | succ n ih =>
    have hl := colN_length n
    rw [colN, List.getD_eq_getElem?_getD]
    rcases Nat.lt_or_ge j (n + 1) with e | e
    · rw [List.getElem?_append_left (by omega), ← List.getD_eq_getElem?_getD]; exact ih (by omega)
    · have : j = n + 1 := by omega
      subst this
      rw [List.getElem?_append_right (by omega), hl, show 2 * (n + 1) - (2 * n + 1) = 1 by omega]
      simp
theorem colN_odd (n j : Nat) (h : j < n) : (colN n).getD (2 * j + 1) 0 = 10 := by
  induction n with
  | zero => omega
  | succ n ih =>
    have hl := colN_length n
    rw [colN, List.getD_eq_getElem?_getD]
    rcases Nat.lt_or_ge j n with e | e
    · rw [List.getElem?_append_left (by omega), ← List.getD_eq_getElem?_getD]; exact ih e
    · have : j = n := by omega
      subst this
      rw [List.getElem?_append_right (by omega), hl, Nat.sub_self]; rfl
theorem colN_bd (n : Nat) (h : n ≤ 25) : ∀ c ∈ colN n, 0 ≤ c ∧ c ≤ 255 := by
  induction n with
  | zero => intro c hc; simp [colN] at hc; omega
  | succ n ih =>
    intro c hc
    simp only [colN, List.mem_append, List.mem_cons, List.not_mem_nil, or_false] at hc
    rcases hc with hc | rfl | rfl
    · exact ih (by omega) c hc
    · omega
    · omega
def colS (n : Nat) : ByteArray := strOfNums (colN n)
theorem colS_size (n : Nat) : (colS n).size = 2 * n + 1 := by unfold colS; rw [strOfNums_size, colN_length]
theorem colS_at (n k : Nat) (h : n ≤ 25) : byteAt (colS n) k = (colN n).getD k 0 := by unfold byteAt colS; rw [nums_str _ (colN_bd n h)]

theorem cutS_succ (s : ByteArray) (w : Int) (k : Nat) : cutS s w (k + 1) = if byteAt s k = 10 then (k + 1, (cutS s w k).2 ++ [s.extract (cutS s w k).1 k]) else if (k : Int) - (cutS s w k).1 = w then (k, (cutS s w k).2 ++ [s.extract (cutS s w k).1 k]) else cutS s w k := rfl
theorem colCut (n : Nat) (h : n ≤ 25) : ∀ j, j ≤ n → (cutS (colS n) 1 (2 * j)) = (2 * j, (List.range j).map fun (i : Nat) => (colS n).extract (2 * i) (2 * i + 1)) ∧ (cutS (colS n) 1 (2 * j + 1)) = (2 * j, (List.range j).map fun (i : Nat) => (colS n).extract (2 * i) (2 * i + 1)) := by
  intro j
  induction j with
  | zero =>
    intro _
    have e0 : byteAt (colS n) 0 ≠ 10 := by rw [colS_at n 0 h]; have := colN_even n 0 (by omega); simp at this; rw [List.getD_eq_getElem?_getD, this]; decide
    refine ⟨rfl, ?_⟩
    show cutS (colS n) 1 (0 + 1) = _
    simp only [cutS, if_neg e0]
    rfl
  | succ j ih =>
    intro hj
    have i2 := (ih (by omega)).2
    have o1 : byteAt (colS n) (2 * j + 1) = 10 := by rw [colS_at n _ h]; exact colN_odd n j (by omega)
    have e1 : byteAt (colS n) (2 * j + 1 + 1) ≠ 10 := by
      rw [colS_at n _ h, show 2 * j + 1 + 1 = 2 * (j + 1) by omega, colN_even n (j + 1) hj]; omega
    have first : cutS (colS n) 1 (2 * (j + 1)) = (2 * (j + 1), (List.range (j + 1)).map fun (i : Nat) => (colS n).extract (2 * i) (2 * i + 1)) := by
      rw [show 2 * (j + 1) = (2 * j + 1) + 1 by omega]
      rw [cutS_succ, if_pos o1, i2]
      simp [List.range_succ]
    refine ⟨first, ?_⟩
    rw [show 2 * (j + 1) + 1 = (2 * j + 1 + 1) + 1 by omega]
    have first' : cutS (colS n) 1 (2 * j + 1 + 1) = (2 * (j + 1), (List.range (j + 1)).map fun (i : Nat) => (colS n).extract (2 * i) (2 * i + 1)) := by
      rw [show 2 * j + 1 + 1 = 2 * (j + 1) by omega]; exact first
    rw [cutS_succ, if_neg e1, first', if_neg (by simp only; omega)]
theorem colF (n : Nat) (h : n ≤ 25) : (cutF (colS n) 1).length = n + 1 ∧ ∀ j, j ≤ n → charF (cutF (colS n) 1) 0 j = 97 + (j : Int) := by
  have hs := colS_size n
  have hc := (colCut n h n (Nat.le_refl _)).2
  have e : cutF (colS n) 1 = (List.range (n + 1)).map fun (i : Nat) => (colS n).extract (2 * i) (2 * i + 1) := by
    unfold cutF
    rw [hs, hc]
    simp [List.range_succ]
  refine ⟨by rw [e]; simp, ?_⟩
  intro j hj
  have hl : lineAt (cutF (colS n) 1) (j : Int) = (colS n).extract (2 * j) (2 * j + 1) := by
    apply lineAt_of
    rw [e, List.getElem?_map, List.getElem?_range (by omega)]; rfl
  have hsz : ((colS n).extract (2 * j) (2 * j + 1)).size = 1 := by rw [size_extract' _ _ _ (by omega)]; omega
  unfold charF
  rw [hl, hsz, if_neg (by rw [e]; simp; omega)]
  rw [show (0 : Int).toNat = 0 by rfl, byteAt_extract _ _ _ _ (by omega), Nat.add_zero, colS_at n _ h, colN_even n j hj]
  unfold shownC
  rw [if_neg (by omega)]

/-- a window of one cell in the corner -/
def slitW (key : Int) (n : Nat) : Win := ⟨key, 0, 0, 1, 1, 0, 3, colS n⟩
theorem slitW_ok (key : Int) (n : Nat) (h : n ≤ 25) (k1 : 1 ≤ key) (k2 : key ≤ 999) : (slitW key n).Ok := by
  have := colS_size n
  constructor <;> simp only [slitW] <;> omega
theorem slit_fits (key : Int) (n : Nat) (h : n ≤ 25) (x : Int) : (slitW key n).fits x = if x > n then (n : Int) else if x < 0 then 0 else x := by
  have hl := (colF n h).1
  have e2 : ((cutF (slitW key n).text (slitW key n).w).length : Int) - (slitW key n).h = n := by
    show ((cutF (colS n) 1).length : Int) - 1 = n
    rw [hl]; omega
  unfold Win.fits
  simp only [e2]
  by_cases h1 : x > n
  · rw [if_pos h1, if_pos h1, if_neg (by omega)]
  · rw [if_neg h1, if_neg h1]
theorem slit_cell (key : Int) (n : Nat) (h : n ≤ 25) (off : Int) (o1 : 0 ≤ off) (o2 : off ≤ n) : (slitW key n).cell off 0 0 = (97 + off, 3) := by
  obtain ⟨j, rfl⟩ := Int.eq_ofNat_of_zero_le o1
  have := (colF n h).2 j (by omega)
  unfold Win.cell
  simp only [slitW]
  rw [show (0 : Int) - 0 = 0 by omega, show (0 : Int) + (j : Int) = j by omega, this]
/-- the other window -/
def otherW : Win := ⟨8, 4, 4, 3, 3, 0, 0, ⟨#[111, 116, 104, 101, 114]⟩⟩
theorem otherW_ok : otherW.Ok := by constructor <;> decide
theorem corner (key : Int) (n : Nat) (h : n ≤ 25) (off x : Int) (o1 : 0 ≤ off) (o2 : off ≤ n) : V.cell [(otherW, x), (slitW key n, off)] 0 0 = (97 + off, 3) ∧ V.cell [(slitW key n, off), (otherW, x)] 0 0 = (97 + off, 3) := by
  have h1 : otherW.has 0 0 = false := by decide
  have h2 : (slitW key n).has 0 0 = true := by simp [slitW, Win.has]
  have c := slit_cell key n h off o1 o2
  constructor
  · have e0 : V.at [(otherW, x), (slitW key n, off)] 0 = (otherW, x) := rfl
    have e1 : V.at [(otherW, x), (slitW key n, off)] 1 = (slitW key n, off) := rfl
    unfold V.cell
    simp only [List.length_cons, List.length_nil, V.best, e0, e1]
    simp [h1, h2, e1, c]
  · have e0 : V.at [(slitW key n, off), (otherW, x)] 0 = (slitW key n, off) := rfl
    have e1 : V.at [(slitW key n, off), (otherW, x)] 1 = (otherW, x) := rfl
    unfold V.cell
    simp only [List.length_cons, List.length_nil, V.best, e0, e1]
    simp [h1, h2, e0, c]
end Go.Proofs.YtjhccghhinlmdaaDoor
