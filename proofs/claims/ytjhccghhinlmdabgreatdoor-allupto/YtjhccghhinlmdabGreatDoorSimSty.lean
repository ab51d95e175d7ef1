/- The styles on the document's terminal stay styles. -/
import Derived.Test.YtjhccghhinlmdabGreatDoorSimFeed
namespace Go.Proofs.YtjhccghhinlmdabGreatDoor

def StyL (l : List (Int × Int)) : Prop := ∀ c ∈ l, 0 ≤ c.2 ∧ c.2 ≤ 255
theorem StyL.blank (n : Nat) : StyL (List.replicate n (32, 7)) := by
  intro c hc; rw [(List.mem_replicate.1 hc).2]; simp
theorem StyL.up {l : List (Int × Int)} (h : StyL l) (W : Int) : StyL (up W l) := by
  intro c hc
  unfold Proofs.YtjhccghhinlmdabGreatDoor.up at hc
  rcases List.mem_append.1 hc with hc | hc
  · exact h c (List.mem_of_mem_drop hc)
  · exact StyL.blank _ c hc
theorem StyL.set {l : List (Int × Int)} (h : StyL l) (k : Nat) (c s : Int) (h0 : 0 ≤ s) (h1 : s ≤ 255) : StyL (l.set k (c, s)) := by
  intro x hx
  rcases List.mem_or_eq_of_mem_set hx with hx | hx
  · exact h x hx
  · rw [hx]; exact ⟨h0, h1⟩
theorem StyL.wip {l : List (Int × Int)} (h : StyL l) (P : Int → Bool) (k : Nat) : StyL (wip P l k) := by
  intro x hx
  unfold Proofs.YtjhccghhinlmdabGreatDoor.wip at hx
  obtain ⟨i, hi, rfl⟩ := List.mem_mapIdx.1 hx
  split
  · simp
  · exact h _ (List.getElem_mem hi)
theorem StyL.sty {l : List (Int × Int)} (h : StyL l) (k : Nat) : 0 ≤ sty l k ∧ sty l k ≤ 255 := by
  unfold Proofs.YtjhccghhinlmdabGreatDoor.sty
  by_cases hk : k < l.length
  · rw [List.getD_eq_getElem?_getD, List.getElem?_eq_getElem hk]
    exact h _ (List.getElem_mem hk)
  · rw [List.getD_eq_getElem?_getD, List.getElem?_eq_none (by omega)]; simp
theorem StyL.tn {l : List (Int × Int)} (h : StyL l) (W H w h' y x : Int) : StyL (tn W H l w h' y x) := by
  intro c hc
  unfold Proofs.YtjhccghhinlmdabGreatDoor.tn at hc
  obtain ⟨i, _, rfl⟩ := List.mem_map.1 hc
  split
  · exact h.sty _
  · simp

theorem sty_down {r : R} (h : StyL r.cells) : StyL r.down.cells := by
  unfold R.down; split
  · exact h
  · exact h.up _
theorem sty_fresh {r : R} (h : StyL r.cells) : StyL r.fresh.cells := by
  unfold R.fresh; split
  · exact sty_down (r := { r with x := 0 }) h
  · exact h
theorem sty_takes {r : R} (o : r.Ok) (h : StyL r.cells) (c : Int) : StyL (r.takes c).cells := by
  unfold R.takes
  repeat' split
  · exact h
  · exact h
  · exact sty_down h
  · exact h
  · exact h
  · have o1 := R.fresh_ok o
    have : StyL (r.fresh.put c).cells := (sty_fresh h).set _ _ _ o1.p0 (by have := o1.p1; omega)
    unfold R.onward; split <;> exact this
  · exact h
theorem sty_ends {r : R} (h : StyL r.cells) (xs : List Int) (c : Int) : StyL (r.ends xs c).cells := by
  unfold R.ends
  split
  · exact h
  · unfold R.query; split <;> exact h
  · unfold R.does
    repeat' split
    all_goals first | exact h | exact h.wip _ _
theorem sty_eat {r : R} (o : r.Ok) (h : StyL r.cells) (c : Int) : StyL (r.eat c).cells := by
  unfold R.eat
  split
  · exact sty_takes o h c
  · unfold R.goesOn
    repeat' split
    all_goals first | exact h | exact sty_ends (r := { r with begun := ⟨#[]⟩ }) h _ _
theorem sty_feed (l : List Int) : ∀ {r : R}, r.Ok → StyL r.cells → StyL (r.feed l).cells := by
  induction l with
  | nil => intro r _ h; exact h
  | cons c l ih => intro r o h; exact ih (R.eat_ok o c) (sty_eat o h c)
end Go.Proofs.YtjhccghhinlmdabGreatDoor
