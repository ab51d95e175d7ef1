/- What cannot be seen changes nothing: plain facts of views. -/
import Derived.Test.YtjhccghhinlmdaaDoorKeepAlike
namespace Go.Proofs.YtjhccghhinlmdaaDoor
open Go.RowKit

theorem next_two (a b : Win) : V.next [(a, 0), (b, 0)] [a, b] = [(a, 0), (b, 0)] := by
  simp [V.next, V.offOf, fits_zero]
/-- a window that lies to the left of the screen -/
def farW : Win := ⟨3, -99, 0, 9, 9, 9, 0, ⟨#[110, 111, 116, 32, 116, 111, 32, 98, 101, 32, 115, 101, 101, 110]⟩⟩
theorem farW_ok : farW.Ok := ⟨by decide, by decide, by decide, by decide, by decide, by decide, by decide, by decide, by decide, by decide, by decide, by decide, by decide, by decide, by decide⟩
theorem farW_has (x y : Int) (hx : 0 ≤ x) : farW.has x y = false := by
  unfold Win.has farW
  simp
  omega
theorem cell_far (f a b : Win) (x y : Int) (h : f.has x y = false) : V.cell [(f, 0), (a, 0), (b, 0)] x y = V.cell [(a, 0), (b, 0)] x y := by
  have e0 : V.at [(f, (0 : Int)), (a, 0), (b, 0)] 0 = (f, 0) := rfl
  have e1 : V.at [(f, (0 : Int)), (a, 0), (b, 0)] 1 = (a, 0) := rfl
  have e2 : V.at [(f, (0 : Int)), (a, 0), (b, 0)] 2 = (b, 0) := rfl
  have d0 : V.at [(a, (0 : Int)), (b, 0)] 0 = (a, 0) := rfl
  have d1 : V.at [(a, (0 : Int)), (b, 0)] 1 = (b, 0) := rfl
  unfold V.cell
  by_cases ha : a.has x y = true
  · by_cases hb : b.has x y = true
    · by_cases hl : a.layer ≤ b.layer
      · simp [V.best, e0, e1, e2, d0, d1, h, ha, hb, hl]
      · simp [V.best, e0, e1, e2, d0, d1, h, ha, hb, hl]
    · simp [V.best, e0, e1, e2, d0, d1, h, ha, hb]
  · by_cases hb : b.has x y = true
    · simp [V.best, e0, e1, e2, d0, d1, h, ha, hb]
    · simp [V.best, e0, e1, e2, d0, d1, h, ha, hb]
theorem grid_far (a b : Win) (W H : Int) (w1 : 1 ≤ W) : V.grid [(farW, 0), (a, 0), (b, 0)] W H = V.grid [(a, 0), (b, 0)] W H := by
  unfold V.grid V.gridTo
  apply List.map_congr_left
  intro i _
  exact cell_far farW a b _ _ (farW_has _ _ (Int.emod_nonneg _ (by omega)))
theorem next_far (a b : Win) (ka : a.key = 1) (kb : b.key = 2) : V.next [(a, 0), (b, 0)] [farW, a, b] = [(farW, 0), (a, 0), (b, 0)] := by
  simp [V.next, V.offOf, ka, kb, farW, fits_zero]
theorem next_back (a b : Win) (ka : a.key = 1) (kb : b.key = 2) : V.next [(farW, 0), (a, 0), (b, 0)] [a, b] = [(a, 0), (b, 0)] := by
  simp [V.next, V.offOf, ka, kb, farW, fits_zero]
theorem errV_far (a b : Win) (oka : a.Ok) (okb : b.Ok) (ka : a.key = 1) (kb : b.key = 2) : errV [farW, a, b] = 0 := by
  have h0 : errAt [farW, a, b] 0 farW = 0 := errAt_zero farW_ok (by simp)
  have h1 : errAt [farW, a, b] 1 a = 0 := errAt_zero oka (by simp [ka, farW])
  have h2 : errAt [farW, a, b] 2 b = 0 := errAt_zero okb (by simp [ka, kb, farW])
  unfold errV
  rw [if_neg (by simp)]
  simp [errFrom, h0, h1, h2]
theorem told_same (W H : Int) (v v' : V) (h : v.grid W H = v'.grid W H) : Pt.told ⟨W, H, v, 0, 0⟩ ⟨W, H, v', 0, 0⟩ = [] := by
  unfold Pt.told
  have e : Pt.grid ⟨W, H, v, 0, 0⟩ = Pt.grid ⟨W, H, v', 0, 0⟩ := h
  rw [e]
  exact change_same _ _ _ _
theorem str_none' : strOfNums [] = ByteArray.empty := rfl
theorem wins_three {w : World} {g : Nat} {a b c : Win} (h : Blk w g (a.vals ++ b.vals ++ c.vals) 23) : WinsAt w (some ⟨g, 0, none⟩) [a, b, c] := by
  intro i o ho
  match i with
  | 0 => simp at ho; subst ho; exact ⟨g, 0, rfl, ⟨h.cell 0, h.cell 1, h.cell 2, h.cell 3, h.cell 4, h.cell 5, h.cell 6, h.cell 7⟩⟩
  | 1 => simp at ho; subst ho; exact ⟨g, 0, rfl, ⟨h.cell 8, h.cell 9, h.cell 10, h.cell 11, h.cell 12, h.cell 13, h.cell 14, h.cell 15⟩⟩
  | 2 => simp at ho; subst ho; exact ⟨g, 0, rfl, ⟨h.cell 16, h.cell 17, h.cell 18, h.cell 19, h.cell 20, h.cell 21, h.cell 22, h.cell 23⟩⟩
  | i + 3 => simp at ho
end Go.Proofs.YtjhccghhinlmdaaDoor
