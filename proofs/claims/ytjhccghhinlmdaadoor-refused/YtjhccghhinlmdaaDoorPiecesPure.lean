/- Whatever came: behind an end of all that has begun, a new pen, an empty screen and a Z in the corner there is that Z alone. Plain data alone. -/
import Derived.Test.YtjhccghhinlmdaaDoorTermFeed
namespace Go.Proofs.YtjhccghhinlmdaaDoor
namespace T

/-- parameters are kept in a sequence alone -/
def Cln (t : T) : Prop := t.stage ≠ 2 → t.params = []

theorem feed_append (t : T) (a b : List Int) : t.feed (a ++ b) = (t.feed a).feed b := by simp [feed]
theorem feed_cons (t : T) (c : Int) (l : List Int) : t.feed (c :: l) = (t.take c).feed l := rfl
theorem feed_nil (t : T) : t.feed [] = t := rfl

/-- what no byte changes, but for sequences: the stage and the parameters -/
theorem rowDown_sp (t : T) : t.rowDown.stage = t.stage ∧ t.rowDown.params = t.params ∧ t.rowDown.W = t.W ∧ t.rowDown.H = t.H := by unfold rowDown; split <;> simp
theorem write_sp (t : T) (c : Int) : (t.write c).stage = t.stage ∧ (t.write c).params = t.params ∧ (t.write c).W = t.W ∧ (t.write c).H = t.H := by
  have h1 : ∀ u : T, (u.onward).stage = u.stage ∧ u.onward.params = u.params ∧ u.onward.W = u.W ∧ u.onward.H = u.H := by intro u; unfold onward; split <;> simp
  have h2 := rowDown_sp { t with x := 0 }
  have h3 : t.fresh.stage = t.stage ∧ t.fresh.params = t.params ∧ t.fresh.W = t.W ∧ t.fresh.H = t.H := by
    unfold fresh
    split
    · exact ⟨h2.1, h2.2.1, h2.2.2.1, h2.2.2.2⟩
    · exact ⟨rfl, rfl, rfl, rfl⟩
  have h4 := h1 (t.fresh.put c)
  exact ⟨h4.1.trans h3.1, h4.2.1.trans h3.2.1, h4.2.2.1.trans h3.2.2.1, h4.2.2.2.trans h3.2.2.2⟩
theorem takePlain_sp (t : T) (c : Int) : (t.takePlain c).params = t.params ∧ (t.takePlain c).W = t.W ∧ (t.takePlain c).H = t.H ∧ ((t.takePlain c).stage = t.stage ∨ (t.takePlain c).stage = 1) := by
  unfold takePlain
  have h1 := rowDown_sp t
  have h2 := write_sp t c
  repeat' split
  · exact ⟨rfl, rfl, rfl, .inr rfl⟩
  · exact ⟨rfl, rfl, rfl, .inl rfl⟩
  · exact ⟨h1.2.1, h1.2.2.1, h1.2.2.2, .inl h1.1⟩
  · exact ⟨rfl, rfl, rfl, .inl rfl⟩
  · exact ⟨h2.2.1, h2.2.2.1, h2.2.2.2, .inl h2.1⟩
  · exact ⟨rfl, rfl, rfl, .inl rfl⟩
theorem setPen_WH (l : List Int) : ∀ t : T, (t.setPen l).W = t.W ∧ (t.setPen l).H = t.H := by
  induction l with
  | nil => intro t; exact ⟨rfl, rfl⟩
  | cons n l ih =>
    intro t
    have h := ih (t.penBy n)
    have h2 : (t.penBy n).W = t.W ∧ (t.penBy n).H = t.H := by unfold penBy; (repeat' split) <;> simp
    exact ⟨h.1.trans h2.1, h.2.trans h2.2⟩
theorem obey_WH (t : T) (c : Int) : (t.obey c).W = t.W ∧ (t.obey c).H = t.H := by
  have he : ∀ n a b, (t.erase n a b).W = t.W ∧ (t.erase n a b).H = t.H := by intro n a b; unfold erase; (repeat' split) <;> simp
  unfold obey
  split
  · exact ⟨rfl, rfl⟩
  · unfold query; (repeat' split) <;> simp
  · unfold does
    repeat' split
    all_goals first | exact he _ _ _ | exact setPen_WH _ _ | exact ⟨rfl, rfl⟩
theorem take_WH (t : T) (c : Int) : (t.take c).W = t.W ∧ (t.take c).H = t.H := by
  unfold take
  split
  · have := takePlain_sp t c; exact ⟨this.2.1, this.2.2.1⟩
  · split
    · exact ⟨rfl, rfl⟩
    · unfold takeParam
      split
      · unfold keepParam; split <;> simp
      · split
        · exact obey_WH t c
        · exact ⟨rfl, rfl⟩
theorem feed_WH (l : List Int) : ∀ t : T, (t.feed l).W = t.W ∧ (t.feed l).H = t.H := by
  induction l with
  | nil => intro t; exact ⟨rfl, rfl⟩
  | cons c l ih =>
    intro t
    have h := ih (t.take c)
    have h2 := take_WH t c
    exact ⟨h.1.trans h2.1, h.2.trans h2.2⟩

theorem take_cln (t : T) (c : Int) (h : t.Cln) (ho : 0 ≤ t.stage ∧ t.stage ≤ 2) : (t.take c).Cln ∧ 0 ≤ (t.take c).stage ∧ (t.take c).stage ≤ 2 := by
  unfold take
  split
  · rename_i h0
    have := takePlain_sp t c
    refine ⟨fun _ => ?_, ?_⟩
    · rw [this.1]; exact h (by omega)
    · rcases this.2.2.2 with h1 | h1 <;> omega
  · split
    · rename_i h0 h1
      refine ⟨fun _ => ?_, ?_⟩
      · show t.params = []; exact h (by omega)
      · show 0 ≤ (if c = 91 then 2 else if c = 27 then 1 else 0 : Int) ∧ (if c = 91 then 2 else if c = 27 then 1 else 0 : Int) ≤ 2
        (repeat' split) <;> omega
    · rename_i h0 h1
      have hd : ∀ u : T, (u.drop c).Cln ∧ 0 ≤ (u.drop c).stage ∧ (u.drop c).stage ≤ 2 := by
        intro u
        refine ⟨fun _ => rfl, ?_⟩
        show 0 ≤ (if c = 27 then 1 else 0 : Int) ∧ (if c = 27 then 1 else 0 : Int) ≤ 2
        split <;> omega
      unfold takeParam
      split
      · have e : (t.keepParam c).stage = t.stage := by unfold keepParam; split <;> rfl
        rw [e]
        refine ⟨fun h2 => ?_, ho⟩
        rw [e] at h2; omega
      · split
        · exact hd _
        · exact hd _
theorem feed_cln (l : List Int) : ∀ t : T, t.Cln → 0 ≤ t.stage ∧ t.stage ≤ 2 → (t.feed l).Cln ∧ 0 ≤ (t.feed l).stage ∧ (t.feed l).stage ≤ 2 := by
  induction l with
  | nil => intro t h1 h2; exact ⟨h1, h2⟩
  | cons c l ih =>
    intro t h1 h2
    have := take_cln t c h1 h2
    exact ih _ this.1 this.2

/-- 27 ends whatever has begun -/
theorem take_27 (t : T) (h : t.Cln) : t.take 27 = { t with stage := 1, params := [] } := by
  unfold take
  split
  · rename_i h0
    have hp := h (by omega)
    simp [takePlain, hp]
  · split
    · rename_i h0 h1
      have hp := h (by omega)
      show { t with stage := _ } = _
      rw [← hp]; rfl
    · unfold takeParam
      rw [if_neg (by omega), if_neg (by omega)]
      rfl

theorem take_91 (t : T) : ({ t with stage := 1, params := [] } : T).take 91 = { t with stage := 2, params := [] } := rfl
theorem read_nil : readP [] = some (false, [0]) := by decide
theorem read_2 : readP [50] = some (false, [2]) := by decide
theorem take_m (t : T) : ({ t with stage := 2, params := [] } : T).take 109 = { t with colour := 7, bold := false, stage := 0, params := [] } := by
  show (({ t with stage := 2, params := [] } : T).obey 109).drop 109 = _
  have e : ({ t with stage := 2, params := [] } : T).obey 109 = { t with colour := 7, bold := false, stage := 2, params := [] } := by
    simp only [obey, read_nil]
    rfl
  rw [e]
  rfl
theorem take_2J (t : T) : (({ t with stage := 2, params := [] } : T).take 50).take 74 = { t with cells := clr t.cells 0 (t.W * t.H), stage := 0, params := [] } := by
  have e0 : ({ t with stage := 2, params := [] } : T).take 50 = { t with stage := 2, params := [50] } := rfl
  rw [e0]
  show (({ t with stage := 2, params := [50] } : T).obey 74).drop 74 = _
  have e : ({ t with stage := 2, params := [50] } : T).obey 74 = { t with cells := clr t.cells 0 (t.W * t.H), stage := 2, params := [50] } := by
    simp only [obey, read_2]
    rfl
  rw [e]
  rfl
theorem take_H (t : T) (hw : 1 ≤ t.W) (hh : 1 ≤ t.H) : ({ t with stage := 2, params := [] } : T).take 72 = { t with x := 0, y := 0, full := false, stage := 0, params := [] } := by
  show (({ t with stage := 2, params := [] } : T).obey 72).drop 72 = _
  have a : within 0 t.W = 0 := by unfold within; rw [if_neg (by omega), if_neg (by omega)]
  have b : within 0 t.H = 0 := by unfold within; rw [if_neg (by omega), if_neg (by omega)]
  have e : ({ t with stage := 2, params := [] } : T).obey 72 = { t with x := within 0 t.W, y := within 0 t.H, full := false, stage := 2, params := [] } := by
    simp only [obey, read_nil]
    rfl
  rw [e, a, b]
  rfl

theorem clr_all (l : List (Int × Int)) (n : Int) (h : (l.length : Int) = n) : clr l 0 n = List.replicate l.length (32, 7) := by
  apply List.ext_getElem (by simp [clr])
  intro i h1 h2
  simp only [clr, List.getElem_mapIdx, List.getElem_replicate]
  rw [if_pos]
  have : i < l.length := by simpa [clr] using h1
  omega

def resetBytes : List Int := [27, 91, 109, 27, 91, 50, 74, 27, 91, 72, 90]
theorem reset (t : T) (h : t.Cln) (hw : 1 ≤ t.W) (hh : 1 ≤ t.H) (hl : (t.cells.length : Int) = t.W * t.H) :
    (t.feed resetBytes).cells = (List.replicate t.cells.length (32, 7)).set 0 (90, 7) ∧ (t.feed resetBytes).W = t.W ∧ (t.feed resetBytes).H = t.H := by
  refine ⟨?_, feed_WH _ _⟩
  unfold resetBytes
  rw [feed_cons, take_27 t h, feed_cons, take_91, feed_cons, take_m, feed_cons, take_27 _ (fun _ => rfl), feed_cons, take_91, feed_cons, feed_cons, take_2J, feed_cons, take_27 _ (fun _ => rfl), feed_cons, take_91, feed_cons, take_H _ (by exact hw) (by exact hh), feed_cons, feed_nil]
  simp only []
  rw [clr_all _ _ hl]
  have e : ∀ u : T, u.stage = 0 → u.full = false → u.take 90 = (u.put 90).onward := by
    intro u h0 hf
    unfold take; rw [if_pos h0]
    unfold takePlain; rw [if_neg (by omega), if_neg (by omega), if_neg (by omega), if_neg (by omega), if_pos ⟨by omega, by omega⟩]
    have : u.fresh = u := by simp [fresh, hf]
    unfold write; rw [this]
  rw [e _ rfl rfl]
  have on : ∀ u : T, u.onward.cells = u.cells := by intro u; unfold onward; split <;> rfl
  rw [on]
  simp only [put, pen]
  rw [show ((0 : Int) * t.W + 0).toNat = 0 by simp]
  rfl
end T
end Go.Proofs.YtjhccghhinlmdaaDoor
