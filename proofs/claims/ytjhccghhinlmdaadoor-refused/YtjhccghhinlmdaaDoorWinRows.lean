/- Windows and offsets in slices of one's own. -/
import Derived.Test.YtjhccghhinlmdaaDoorPaintCheck
import Derived.Test.YtjhccghhinlmdaaDoorCellsRow
namespace Go.Proofs.YtjhccghhinlmdaaDoor
open Go.RowKit

theorem info_win : (Tryd.prog.info? 23).map (fun i => (i.zero, i.size, i.bytes)) = some (some (.agg #[.int .i64 0, .int .i64 0, .int .i64 0, .int .i64 0, .int .i64 0, .int .i64 0, .int .i64 0, .string ⟨#[]⟩]), 8, 72) := by kernel_rfl
def flatW (ws : List Win) : List Value := ws.flatMap Win.vals
theorem flatW_length (ws : List Win) : (flatW ws).length = ws.length * 8 := by
  induction ws with
  | nil => rfl
  | cons p ps ih => simp only [flatW, List.flatMap_cons, List.length_append, List.length_cons, Win.vals, List.length_nil] at *; omega
theorem flatW_snoc (ws : List Win) (o : Win) : flatW ws ++ o.vals = flatW (ws ++ [o]) := by simp [flatW]
theorem flatW_at (ws : List Win) : ∀ (i : Nat) (o : Win), ws[i]? = some o → ∀ j, j < 8 → (flatW ws)[i * 8 + j]? = o.vals[j]? := by
  induction ws with
  | nil => intro i p h; simp at h
  | cons q ws ih =>
    intro i o h j hj
    have hq : q.vals.length = 8 := rfl
    cases i with
    | zero =>
      simp at h; subst h
      simp only [flatW, List.flatMap_cons, Nat.zero_mul, Nat.zero_add]
      rw [List.getElem?_append_left (by omega)]
    | succ i =>
      simp at h
      have := ih i o h j hj
      simp only [flatW, List.flatMap_cons] at *
      rw [List.getElem?_append_right (by omega), hq, show (i + 1) * 8 + j - 8 = i * 8 + j by omega]
      exact this
/-- windows in a slice of the call's own -/
theorem own_wins {w : World} {base g n cap : Nat} {ws : List Win} (hn : n = ws.length) (h : w.ownsRow base 23 8 (.slice (some ⟨g, 0, none⟩) n cap) n (flatW ws)) : WinsAt w (some ⟨g, 0, none⟩) ws ∧ n ≤ cap := by
  rcases h.2 with ⟨hv, _⟩ | ⟨g', cap', cur, hv, hb, hg, hc1, hc2, hc3, hc4⟩
  · simp at hv
  · simp only [Value.slice.injEq, Option.some.injEq, Addr.mk.injEq] at hv
    obtain ⟨⟨rfl, _⟩, _, rfl⟩ := hv
    refine ⟨?_, hc1⟩
    intro i o ho
    have hi : i < ws.length := (List.getElem?_eq_some_iff.1 ho).1
    have k : ∀ j, j < 8 → w.cell? ⟨g, 0 + i * 8 + j, none⟩ = o.vals[j]? := by
      intro j hj
      rw [cell_of_row w g _ cur 23 (0, 0) hg, Nat.zero_add]
      have e : (cur.toList.take (n * 8))[i * 8 + j]? = (flatW ws)[i * 8 + j]? := by rw [hc4]
      rw [List.getElem?_take_of_lt (by omega), flatW_at ws i o ho j hj] at e
      rw [← Array.getElem?_toList, e]
    exact ⟨g, 0, rfl, k 0 (by decide), k 1 (by decide), k 2 (by decide), k 3 (by decide), k 4 (by decide), k 5 (by decide), k 6 (by decide), k 7 (by decide)⟩
theorem eight_one (a0 a1 a2 a3 a4 a5 a6 : Int) (s : ByteArray) : ∀ u ∈ [Value.int .i64 a0, .int .i64 a1, .int .i64 a2, .int .i64 a3, .int .i64 a4, .int .i64 a5, .int .i64 a6, .string s], u.oneCell' = true := by
  intro u hu
  simp only [List.mem_cons, List.not_mem_nil, or_false] at hu
  rcases hu with rfl | rfl | rfl | rfl | rfl | rfl | rfl | rfl <;> rfl


theorem own_wins' {w : World} {base n : Nat} {u : Value} {ws : List Win} (hn : n = ws.length) (h : w.ownsRow base 23 8 u n (flatW ws)) : ∃ va cap, u = .slice va n cap ∧ WinsAt w va ws ∧ n ≤ cap := by
  rcases h.2 with ⟨rfl, h0⟩ | ⟨g, cap, cur, rfl, _⟩
  · subst h0
    have : ws = [] := List.eq_nil_of_length_eq_zero hn.symm
    subst this
    exact ⟨none, 0, rfl, fun i o ho => by simp at ho, Nat.le_refl _⟩
  · obtain ⟨h1, h2⟩ := own_wins hn h
    exact ⟨_, cap, rfl, h1, h2⟩
end Go.Proofs.YtjhccghhinlmdaaDoor
