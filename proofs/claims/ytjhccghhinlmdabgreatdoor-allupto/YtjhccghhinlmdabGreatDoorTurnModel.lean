/- A screen of another size: the cells that both have stay, the others are blank. Plain lists. -/
import Derived.Test.YtjhccghhinlmdabGreatDoorBase
namespace Go.Proofs.YtjhccghhinlmdabGreatDoor

/-- the cells of a screen of w columns and h rows once those ahead of column x of row y have been carried over from one of W columns and H rows -/
def tn (W H : Int) (l : List (Int × Int)) (w h y x : Int) : List (Int × Int) :=
  (List.range (w * h).toNat).map fun (i : Nat) => if ((i : Int) / w < y ∨ ((i : Int) / w = y ∧ (i : Int) % w < x)) ∧ (i : Int) / w < H ∧ (i : Int) % w < W then (chr l (W * ((i : Int) / w) + (i : Int) % w).toNat, sty l (W * ((i : Int) / w) + (i : Int) % w).toNat) else (32, 7)
theorem tn_length (W H : Int) (l : List (Int × Int)) (w h y x : Int) : (tn W H l w h y x).length = (w * h).toNat := by simp [tn]
theorem tn_eq {W H : Int} {l : List (Int × Int)} {w h y x y' x' : Int} (H0 : ∀ i : Nat, i < (w * h).toNat → (i : Int) / w < H → (i : Int) % w < W → (((i : Int) / w < y ∨ ((i : Int) / w = y ∧ (i : Int) % w < x)) ↔ ((i : Int) / w < y' ∨ ((i : Int) / w = y' ∧ (i : Int) % w < x')))) : tn W H l w h y x = tn W H l w h y' x' := by
  unfold tn
  apply List.map_congr_left
  intro i hi
  rw [List.mem_range] at hi
  by_cases h1 : (i : Int) / w < H ∧ (i : Int) % w < W
  · simp only [H0 i hi h1.1 h1.2]
  · rw [if_neg (fun h => h1 h.2), if_neg (fun h => h1 h.2)]
theorem div_bd {w h : Int} {i : Nat} (hw : 1 ≤ w) (_hh : 1 ≤ h) (hi : i < (w * h).toNat) : 0 ≤ (i : Int) / w ∧ (i : Int) / w < h ∧ 0 ≤ (i : Int) % w ∧ (i : Int) % w < w ∧ (i : Int) = w * ((i : Int) / w) + (i : Int) % w := by
  have h0 : (i : Int) < h * w := by rw [Int.mul_comm]; omega
  exact ⟨Int.ediv_nonneg (by omega) (by omega), (Int.ediv_lt_iff_lt_mul (by omega)).2 h0, Int.emod_nonneg _ (by omega), Int.emod_lt_of_pos _ (by omega), (Int.mul_ediv_add_emod _ _).symm⟩
theorem tn_zero {W H : Int} {l : List (Int × Int)} {w h : Int} (hw : 1 ≤ w) (hh : 1 ≤ h) : tn W H l w h 0 0 = List.replicate (w * h).toNat (32, 7) := by
  apply List.ext_getElem (by simp [tn])
  intro i h1 h2
  rw [tn_length] at h1
  have := div_bd hw hh h1
  simp only [tn, List.getElem_map, List.getElem_range, List.getElem_replicate]
  rw [if_neg (by omega)]
/-- a column that one of the two has not, or a row that the new one has not -/
theorem tn_skip {W H : Int} {l : List (Int × Int)} {w h y x : Int} (hw : 1 ≤ w) (hh : 1 ≤ h) (ho : w ≤ x ∨ W ≤ x ∨ h ≤ y) : tn W H l w h y x = tn W H l w h y (x + 1) := by
  apply tn_eq
  intro i hi h1 h2
  have := div_bd hw hh hi
  omega
theorem tn_row {W H : Int} {l : List (Int × Int)} {w h y x : Int} (hw : 1 ≤ w) (hh : 1 ≤ h) (ho : w ≤ x ∨ W ≤ x) : tn W H l w h y x = tn W H l w h (y + 1) 0 := by
  apply tn_eq
  intro i hi h1 h2
  have := div_bd hw hh hi
  omega
theorem tn_end {W H : Int} {l : List (Int × Int)} {w h y : Int} (hw : 1 ≤ w) (hh : 1 ≤ h) (ho : h ≤ y ∨ H ≤ y) : tn W H l w h y 0 = tn W H l w h H 0 := by
  apply tn_eq
  intro i hi h1 h2
  have := div_bd hw hh hi
  omega
theorem tn_in {W H : Int} {l : List (Int × Int)} {w h y x : Int} (hw : 1 ≤ w) (hh : 1 ≤ h) (hx : 0 ≤ x) (hx1 : x < w) (hx2 : x < W) (hy2 : y < H) (k m : Nat) (hk : (k : Int) = w * y + x) (hm : (m : Int) = W * y + x) :
    (tn W H l w h y x).set k (chr l m, sty l m) = tn W H l w h y (x + 1) := by
  apply List.ext_getElem (by simp [tn])
  intro i h1 h2
  rw [tn_length] at h2
  have d := div_bd hw hh h2
  by_cases e : k = i
  · subst e
    have q1 : (k : Int) / w = y := by
      rw [hk, Int.mul_add_ediv_left _ _ (by omega), Int.ediv_eq_zero_of_lt hx hx1]; omega
    have q2 : (k : Int) % w = x := by
      rw [hk, Int.mul_add_emod_self_left, Int.emod_eq_of_lt hx hx1]
    rw [List.getElem_set_self]
    simp only [tn, List.getElem_map, List.getElem_range]
    rw [if_pos (by omega), q1, q2, ← hm]
    simp
  · rw [List.getElem_set_ne e]
    simp only [tn, List.getElem_map, List.getElem_range]
    by_cases q : (i : Int) / w = y ∧ (i : Int) % w = x
    · exfalso; apply e
      rw [q.1, q.2] at d
      omega
    · have : (((i : Int) / w < y ∨ ((i : Int) / w = y ∧ (i : Int) % w < x)) ↔ ((i : Int) / w < y ∨ ((i : Int) / w = y ∧ (i : Int) % w < x + 1))) := by omega
      simp only [this]
end Go.Proofs.YtjhccghhinlmdabGreatDoor
