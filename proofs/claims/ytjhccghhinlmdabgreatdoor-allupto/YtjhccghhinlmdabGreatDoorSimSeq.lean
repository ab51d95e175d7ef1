/- The document's terminal and the program's, as plain data: whole sequences, feeding, another size. -/
import Derived.Test.YtjhccghhinlmdabGreatDoorSimPure
namespace Go.Proofs.YtjhccghhinlmdabGreatDoor

theorem wip_clr (P : Int → Bool) (l : List (Int × Int)) (a b : Int) (h : ∀ i : Nat, i < l.length → (P i = true ↔ (a ≤ i ∧ (i : Int) < b))) : wip P l l.length = clr l a b := by
  apply List.ext_getElem (by simp [wip, clr])
  intro i h1 h2
  have hi : i < l.length := by rw [wip_length] at h1; exact h1
  simp only [wip, clr, List.getElem_mapIdx]
  by_cases hp : P i = true
  · rw [if_pos ⟨hi, hp⟩, if_pos ((h i hi).1 hp)]
  · rw [if_neg (fun q => hp q.2), if_neg (fun q => hp ((h i hi).2 q))]
theorem wip_none (P : Int → Bool) (l : List (Int × Int)) (h : ∀ i : Nat, i < l.length → ¬ P i = true) : wip P l l.length = l := by
  rw [wip_clr P l 0 0 (fun i hi => ⟨fun q => absurd q (h i hi), fun q => by omega⟩), clr_same l 0 0 (by omega)]

theorem row_of_place {W y i : Int} (hW : 1 ≤ W) : i / W = y ↔ (y * W ≤ i ∧ i < y * W + W) := by
  constructor
  · intro h
    have e1 := Int.mul_ediv_add_emod i W
    have e2 := Int.emod_nonneg i (show W ≠ 0 by omega)
    have e3 := Int.emod_lt_of_pos i (show 0 < W by omega)
    rw [h, Int.mul_comm] at e1
    omega
  · intro ⟨h1, h2⟩
    have e : i = W * y + (i - y * W) := by rw [Int.mul_comm]; omega
    rw [e, Int.mul_add_ediv_left _ _ (by omega), Int.ediv_eq_zero_of_lt (by omega) (by omega)]; omega

theorem toT_wipes {r : R} (o : r.Ok) (c n : Int) (hn : 0 ≤ n) (h1 : c ≠ 72) (h2 : c ≠ 65) (h3 : c ≠ 66) (h4 : c ≠ 67) (h5 : c ≠ 68) (h6 : c ≠ 109) (l : List (Int)) (hl : l.getD 0 0 = n) : (r.wipes c n).toT = r.toT.does l c := by
  have hx0 := o.x0; have hx1 := o.x1; have hy0 := o.y0; have hy1 := o.y1; have hw1 := o.w1
  have hlen := o.len
  obtain ⟨i1, i2, i3⟩ := idx_bd o.w2 o.h2 hx0 hx1 hy0 hy1
  unfold T.does
  rw [if_neg h1, if_neg h2, if_neg h3, if_neg h4, if_neg h5, hl]
  show { r.toT with cells := wip (r.wiped c n) r.cells r.cells.length } = _
  have HR : ∀ i : Nat, (i : Int) / r.W = r.y ↔ (r.y * r.W ≤ i ∧ (i : Int) < r.y * r.W + r.W) := fun i => row_of_place hw1
  have hc : r.W * r.y = r.y * r.W := Int.mul_comm _ _
  have here : r.toT.here = r.y * r.W + r.x := rfl
  by_cases c74 : c = 74
  · rw [if_pos c74]
    unfold T.erase
    by_cases n0 : n = 0
    · rw [if_pos n0, here]
      rw [wip_clr _ _ (r.y * r.W + r.x) (r.toT.W * r.toT.H) (fun i hi => ?_)]
      · rfl
      · show _ ↔ _ ∧ (i : Int) < r.W * r.H
        simp only [R.wiped, partB, decide_eq_true_eq, hc]
        omega
    rw [if_neg n0]
    by_cases n1 : n = 1
    · rw [if_pos n1, here]
      rw [wip_clr _ _ 0 (r.y * r.W + r.x + 1) (fun i hi => ?_)]
      · rfl
      · simp only [R.wiped, partB, decide_eq_true_eq, hc]
        omega
    rw [if_neg n1]
    by_cases n2 : n = 2
    · rw [if_pos n2]
      rw [wip_clr _ _ 0 (r.toT.W * r.toT.H) (fun i hi => ?_)]
      · rfl
      · show _ ↔ _ ∧ (i : Int) < r.W * r.H
        simp only [R.wiped, partB, decide_eq_true_eq]
        omega
    · rw [if_neg n2]
      rw [wip_none _ _ (fun i hi => ?_)]
      · rfl
      · simp only [R.wiped, partB, decide_eq_true_eq]
        omega
  rw [if_neg c74]
  by_cases c75 : c = 75
  · rw [if_pos c75]
    unfold T.erase
    by_cases n0 : n = 0
    · rw [if_pos n0, here]
      rw [wip_clr _ _ (r.y * r.W + r.x) (r.toT.y * r.toT.W + r.toT.W) (fun i hi => ?_)]
      · rfl
      · show _ ↔ _ ∧ (i : Int) < r.y * r.W + r.W
        simp only [R.wiped, partB, decide_eq_true_eq, hc, HR]
        omega
    rw [if_neg n0]
    by_cases n1 : n = 1
    · rw [if_pos n1, here]
      rw [wip_clr _ _ (r.toT.y * r.toT.W) (r.y * r.W + r.x + 1) (fun i hi => ?_)]
      · rfl
      · show _ ↔ r.y * r.W ≤ (i : Int) ∧ _
        simp only [R.wiped, partB, decide_eq_true_eq, hc, HR]
        omega
    rw [if_neg n1]
    by_cases n2 : n = 2
    · rw [if_pos n2]
      rw [wip_clr _ _ (r.toT.y * r.toT.W) (r.toT.y * r.toT.W + r.toT.W) (fun i hi => ?_)]
      · rfl
      · show _ ↔ r.y * r.W ≤ (i : Int) ∧ (i : Int) < r.y * r.W + r.W
        simp only [R.wiped, partB, decide_eq_true_eq, HR]
        omega
    · rw [if_neg n2]
      rw [wip_none _ _ (fun i hi => ?_)]
      · rfl
      · simp only [R.wiped, partB, decide_eq_true_eq]
        omega
  rw [if_neg c75]
  by_cases c88 : c = 88
  · rw [if_pos c88]
    unfold T.eraseCells
    rw [here, ← oneI_eq hn]
    rw [wip_clr _ _ (r.y * r.W + r.x) (r.y * r.W + r.x + if r.toT.W - r.toT.x < oneI n then r.toT.W - r.toT.x else oneI n) (fun i hi => ?_)]
    · rfl
    · show _ ↔ r.y * r.W + r.x ≤ (i : Int) ∧ (i : Int) < r.y * r.W + r.x + (if r.W - r.x < oneI n then r.W - r.x else oneI n)
      simp only [R.wiped, decide_eq_true_eq, hc, HR]
      split <;> omega
  rw [if_neg c88, if_neg h6]
  rw [wip_none _ _ (fun i hi => ?_)]
  · rfl
  · simp only [R.wiped, decide_eq_true_eq]
    omega

theorem toT_does {r : R} (o : r.Ok) (c : Int) (l : List Int) (hl : ∀ a ∈ l, 0 ≤ a ∧ a ≤ 999) : (r.does l c).toT = r.toT.does l c := by
  have n0 := nth_bd hl 0
  have n1 := nth_bd hl 1
  by_cases h1 : c = 72
  · unfold R.does T.does; rw [if_pos h1, if_pos h1, toT_goes o, oneI_eq n0.1, oneI_eq n1.1]
  by_cases h2 : c = 65
  · unfold R.does T.does; rw [if_neg h1, if_neg h1, if_pos h2, if_pos h2, toT_goes o, oneI_eq n0.1]; rfl
  by_cases h3 : c = 66
  · unfold R.does T.does; rw [if_neg h1, if_neg h1, if_neg h2, if_neg h2, if_pos h3, if_pos h3, toT_goes o, oneI_eq n0.1]; rfl
  by_cases h4 : c = 67
  · unfold R.does T.does; rw [if_neg h1, if_neg h1, if_neg h2, if_neg h2, if_neg h3, if_neg h3, if_pos h4, if_pos h4, toT_goes o, oneI_eq n0.1]; rfl
  by_cases h5 : c = 68
  · unfold R.does T.does; rw [if_neg h1, if_neg h1, if_neg h2, if_neg h2, if_neg h3, if_neg h3, if_neg h4, if_neg h4, if_pos h5, if_pos h5, toT_goes o, oneI_eq n0.1]; rfl
  by_cases h6 : c = 109
  · subst h6
    exact toT_pens l r o.p0 o.p1
  · rw [does_else h1 h2 h3 h4 h5 h6]
    exact toT_wipes o c _ n0.1 h1 h2 h3 h4 h5 h6 l rfl

theorem read_take (xs : List Int) : readP (xs.take 13) = readP xs := by
  unfold readP
  by_cases h : 12 < xs.length
  · rw [if_pos h, if_pos (by rw [List.length_take]; omega)]
  · rw [List.take_of_length_le (by omega)]
theorem read_bd {xs l : List Int} {q : Bool} (h : readP xs = some (q, l)) : ∀ a ∈ l, 0 ≤ a ∧ a ≤ 999 := by
  unfold readP at h
  split at h
  · cases h
  · split at h
    · cases hN : numbers xs.tail with
      | none => rw [hN] at h; cases h
      | some m => rw [hN] at h; simp at h; rw [← h.2]; exact (numbers_bd hN).1
    · cases hN : numbers xs with
      | none => rw [hN] at h; cases h
      | some m => rw [hN] at h; simp at h; rw [← h.2]; exact (numbers_bd hN).1
theorem toT_ends {r : R} (o : r.Ok) (xs : List Int) (c : Int) : (r.ends xs c).toT = match readP xs with
    | none => r.toT
    | some (true, l) => r.toT.query l c
    | some (false, l) => r.toT.does l c := by
  unfold R.ends
  cases h : readP xs with
  | none => rfl
  | some v =>
    obtain ⟨q, l⟩ := v
    cases q with
    | true => exact toT_query r l c
    | false => exact toT_does o c l (read_bd h)
end Go.Proofs.YtjhccghhinlmdabGreatDoor
