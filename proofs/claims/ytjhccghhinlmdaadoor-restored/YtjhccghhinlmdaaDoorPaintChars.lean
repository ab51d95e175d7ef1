/- What is to be seen of a view is characters, with styles that there are. Plain data alone. -/
import Derived.Test.YtjhccghhinlmdaaDoorPaintModel
import Derived.Test.YtjhccghhinlmdaaDoorBrushBound
namespace Go.Proofs.YtjhccghhinlmdaaDoor

theorem shownC_bd (c : Int) : 32 ≤ shownC c ∧ shownC c ≤ 126 := by unfold shownC; split <;> omega
theorem charF_vis (ls : List ByteArray) (a b : Int) : 32 ≤ charF ls a b ∧ charF ls a b ≤ 126 := by
  unfold charF; split
  · omega
  · exact shownC_bd _
theorem V.Ok.cell {v : V} (h : v.Ok) (x y : Int) : 32 ≤ (v.cell x y).1 ∧ (v.cell x y).1 ≤ 126 ∧ 0 ≤ (v.cell x y).2 ∧ (v.cell x y).2 ≤ 15 := by
  unfold V.cell
  split
  · exact ⟨by decide, by decide, by decide, by decide⟩
  · rename_i j hj
    have hl := V.best_lt v x y _ _ hj
    have hw := (h.at hl).1
    have := charF_vis (cutF (v.at j).1.text (v.at j).1.w) (x - (v.at j).1.x) (y - (v.at j).1.y + (v.at j).2)
    exact ⟨this.1, this.2, hw.s1, hw.s2⟩
theorem V.Ok.chars {v : V} (h : v.Ok) (W H : Int) : Chars (v.grid W H) := by
  intro c hc
  unfold V.grid V.gridTo at hc
  obtain ⟨i, _, rfl⟩ := List.mem_map.1 hc
  exact h.cell _ _
theorem V.grid_len (v : V) {W H : Int} (w1 : 1 ≤ W) (h1 : 1 ≤ H) : ((v.grid W H).length : Int) = W * H := by
  rw [V.grid_length]
  have := Int.mul_nonneg (show 0 ≤ W by omega) (show 0 ≤ H by omega)
  omega
end Go.Proofs.YtjhccghhinlmdaaDoor
