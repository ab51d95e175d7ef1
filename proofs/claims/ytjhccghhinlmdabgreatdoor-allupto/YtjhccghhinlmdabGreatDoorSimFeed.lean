/- The document's terminal and the program's, as plain data: fed, and of another size. -/
import Derived.Test.YtjhccghhinlmdabGreatDoorSimSeq
namespace Go.Proofs.YtjhccghhinlmdabGreatDoor

theorem R.beg_ok {r : R} (h : r.Ok) (s : ByteArray) : ({ r with begun := s } : R).Ok := ⟨h.w1, h.w2, h.h1, h.h2, h.len, h.x0, h.x1, h.y0, h.y1, h.p0, h.p1⟩
theorem R.takes_ok {r : R} (h : r.Ok) (c : Int) : (r.takes c).Ok := by
  have := h.x0; have := h.x1
  unfold R.takes
  repeat' split
  · exact R.beg_ok h _
  · exact (h.xz).full false
  · exact (R.down_ok h).full false
  · exact ⟨h.w1, h.w2, h.h1, h.h2, h.len, by simp only []; omega, by simp only []; omega, h.y0, h.y1, h.p0, h.p1⟩
  · exact ⟨h.w1, h.w2, h.h1, h.h2, h.len, by simp only []; omega, by simp only []; omega, h.y0, h.y1, h.p0, h.p1⟩
  · exact R.onward_ok (R.put_ok (R.fresh_ok h) c)
  · exact h
theorem R.does_ok {r : R} (h : r.Ok) (l : List Int) (c : Int) : (r.does l c).Ok := by
  unfold R.does
  repeat' split
  all_goals first | exact R.goes_ok h _ _ | skip
  · have := penFold_bd l r.pen h.p0 h.p1
    exact ⟨h.w1, h.w2, h.h1, h.h2, h.len, h.x0, h.x1, h.y0, h.y1, this.1, this.2⟩
  · exact R.wipes_ok h _ _
theorem R.ends_ok {r : R} (h : r.Ok) (xs : List Int) (c : Int) : (r.ends xs c).Ok := by
  unfold R.ends
  split
  · exact h
  · exact R.query_ok h _ _
  · exact R.does_ok h _ _
theorem R.goesOn_ok {r : R} (h : r.Ok) (c : Int) : (r.goesOn c).Ok := by
  unfold R.goesOn
  split
  · exact R.beg_ok h _
  · split
    · exact R.beg_ok h _
    · split
      · exact R.beg_ok h _
      · split
        · exact R.ends_ok (R.beg_ok h _) _ _
        · exact R.beg_ok h _
theorem R.eat_ok {r : R} (h : r.Ok) (c : Int) : (r.eat c).Ok := by
  unfold R.eat
  split
  · exact R.takes_ok h c
  · exact R.goesOn_ok h c
theorem R.feed_ok (l : List Int) : ∀ {r : R}, r.Ok → (r.feed l).Ok := by
  induction l with
  | nil => intro r h; exact h
  | cons c l ih => intro r h; exact ih (R.eat_ok h c)

/-- no sequence has begun -/
def T.bare (t : T) : T := { t with params := [], stage := 0 }
theorem bare_query (t : T) (l : List Int) (c : Int) : t.bare.query l c = (t.query l c).bare := by
  unfold T.query; repeat' split
  all_goals rfl
theorem bare_penBy (t : T) (n : Int) : t.bare.penBy n = (t.penBy n).bare := by
  unfold T.penBy; repeat' split
  all_goals rfl
theorem bare_setPen (l : List Int) : ∀ t : T, t.bare.setPen l = (t.setPen l).bare := by
  induction l with
  | nil => intro t; rfl
  | cons n l ih => intro t; simp only [T.setPen, List.foldl_cons] at *; rw [bare_penBy, ih]
theorem bare_erase (t : T) (n a b : Int) : t.bare.erase n a b = (t.erase n a b).bare := by
  unfold T.erase; repeat' split
  all_goals rfl
theorem bare_does (t : T) (l : List Int) (c : Int) : t.bare.does l c = (t.does l c).bare := by
  unfold T.does
  repeat' split
  all_goals first | rfl | exact bare_erase _ _ _ _ | exact bare_setPen _ _
theorem drop_bare (t : T) (c : Int) (h : c ≠ 27) : t.drop c = t.bare := by unfold T.drop T.bare; rw [if_neg h]
theorem toT_bare (r : R) : ({ r with begun := ⟨#[]⟩ } : R).toT = r.toT.bare := rfl
theorem toT_stage1 {r : R} (h : r.begun.size = 1) : r.toT.stage = 1 ∧ r.toT.params = [] := by
  have hl : (nums r.begun).length = 1 := by rw [nums_length]; exact h
  refine ⟨by simp [R.toT, h], ?_⟩
  simp only [R.toT, List.drop_of_length_le (show (nums r.begun).length ≤ 2 by omega)]; rfl
theorem nums_one (c : Int) (h0 : 0 ≤ c) (h1 : c ≤ 255) : nums (strOfNums [c]) = [c] := nums_str [c] (by intro x hx; simp at hx; omega)

theorem toT_eat {r : R} (o : r.Ok) (c : Int) (h0 : 0 ≤ c) (h1 : c ≤ 255) : (r.eat c).toT = r.toT.take c := by
  unfold R.eat T.take
  by_cases z : r.begun.size = 0
  · rw [if_pos z, if_pos (toT_stage0 z).1]
    exact toT_takes o z c
  rw [if_neg z]
  unfold R.goesOn
  by_cases z1 : r.begun.size = 1
  · obtain ⟨s1, p1⟩ := toT_stage1 z1
    rw [if_neg (show ¬ r.toT.stage = 0 by rw [s1]; decide), if_pos s1]
    unfold T.takeKind
    by_cases c27 : c = 27
    · rw [if_pos c27]
      refine T.ext' rfl rfl rfl rfl rfl rfl rfl rfl rfl ?_ ?_
      · show (1 : Int) = if c = 91 then 2 else if c = 27 then 1 else 0
        rw [c27]; rfl
      · show _ = r.toT.params
        rw [p1]; rfl
    rw [if_neg c27, if_pos z1]
    by_cases c91 : c = 91
    · rw [if_pos c91]
      refine T.ext' rfl rfl rfl rfl rfl rfl rfl rfl rfl ?_ ?_
      · show (if (r.begun ++ ⟨#[91]⟩).size = 0 then 0 else if (r.begun ++ ⟨#[91]⟩).size = 1 then 1 else 2) = if c = 91 then (2 : Int) else if c = 27 then 1 else 0
        rw [ByteArray.size_append, size_open, z1, if_pos c91]; rfl
      · show ((nums (r.begun ++ ⟨#[91]⟩)).drop 2).take 13 = r.toT.params
        rw [p1, List.drop_of_length_le (by rw [nums_length, ByteArray.size_append, size_open, z1]; omega)]; rfl
    · rw [if_neg c91]
      refine T.ext' rfl rfl rfl rfl rfl rfl rfl rfl rfl ?_ ?_
      · show (0 : Int) = if c = 91 then 2 else if c = 27 then 1 else 0
        rw [if_neg c91, if_neg c27]
      · show _ = r.toT.params
        rw [p1]; rfl
  have s2 : r.toT.stage = 2 := by simp [R.toT, z, z1]
  have hlen : 2 ≤ (nums r.begun).length := by rw [nums_length]; omega
  rw [if_neg (show ¬ r.toT.stage = 0 by rw [s2]; decide), if_neg (show ¬ r.toT.stage = 1 by rw [s2]; decide)]
  unfold T.takeParam
  by_cases c27 : c = 27
  · rw [if_pos c27, if_neg (by omega), if_neg (by omega)]
    unfold T.drop
    rw [if_pos c27]; rfl
  rw [if_neg c27, if_neg z1]
  by_cases cp : 32 ≤ c ∧ c ≤ 63
  · rw [if_pos cp, if_pos cp]
    have e1 : (nums (r.begun ++ strOfNums [c])).drop 2 = (nums r.begun).drop 2 ++ [c] := by
      rw [nums_append, nums_one c h0 h1, List.drop_append_of_le_length hlen]
    unfold T.keepParam
    have hs : (if (r.begun ++ strOfNums [c]).size = 0 then (0 : Int) else if (r.begun ++ strOfNums [c]).size = 1 then 1 else 2) = r.toT.stage := by
      rw [s2, ByteArray.size_append, size_str1, if_neg (by omega), if_neg (by omega)]
    by_cases hk : ((nums r.begun).drop 2).length ≤ 12
    · rw [if_pos (show r.toT.params.length ≤ 12 by show (((nums r.begun).drop 2).take 13).length ≤ 12; rw [List.length_take]; omega)]
      refine T.ext' rfl rfl rfl rfl rfl rfl rfl rfl rfl hs ?_
      show ((nums (r.begun ++ strOfNums [c])).drop 2).take 13 = ((nums r.begun).drop 2).take 13 ++ [c]
      rw [e1, List.take_of_length_le (by simp at hk ⊢; omega), List.take_of_length_le (by omega)]
    · rw [if_neg (show ¬ r.toT.params.length ≤ 12 by show ¬ (((nums r.begun).drop 2).take 13).length ≤ 12; rw [List.length_take]; omega)]
      refine T.ext' rfl rfl rfl rfl rfl rfl rfl rfl rfl hs ?_
      show ((nums (r.begun ++ strOfNums [c])).drop 2).take 13 = ((nums r.begun).drop 2).take 13
      rw [e1, List.take_append_of_le_length (by omega)]
  rw [if_neg cp, if_neg cp]
  by_cases ce : 64 ≤ c ∧ c ≤ 126
  · rw [if_pos ce, if_pos ce, toT_ends (R.beg_ok o _), drop_bare _ _ c27, toT_bare]
    have e2 : nums (r.begun.extract 2 r.begun.size) = (nums r.begun).drop 2 := by
      rw [nums_extract, List.take_of_length_le (by rw [List.length_drop, nums_length]; omega)]
    unfold T.obey
    rw [e2, show r.toT.params = ((nums r.begun).drop 2).take 13 from rfl, read_take]
    cases readP ((nums r.begun).drop 2) with
    | none => rfl
    | some v =>
      obtain ⟨q, l⟩ := v
      cases q with
      | true => exact bare_query _ _ _
      | false => exact bare_does _ _ _
  · rw [if_neg ce, if_neg ce, drop_bare _ _ c27, toT_bare]

theorem toT_feed (l : List Int) : ∀ {r : R}, r.Ok → (∀ c ∈ l, 0 ≤ c ∧ c ≤ 255) → (r.feed l).toT = r.toT.feed l := by
  induction l with
  | nil => intro r _ _; rfl
  | cons c l ih =>
    intro r o h
    have hc := h c (by simp)
    have := ih (R.eat_ok o c) (fun x hx => h x (by simp [hx]))
    simp only [R.feed, T.feed, List.foldl_cons] at *
    rw [this, toT_eat o c hc.1 hc.2]
theorem nums_bd (s : ByteArray) : ∀ c ∈ nums s, 0 ≤ c ∧ c ≤ 255 := by
  intro c hc
  unfold nums at hc
  obtain ⟨b, _, rfl⟩ := List.mem_map.1 hc
  have := b.toNat_lt
  omega
theorem toT_turn {r : R} (o : r.Ok) {a c : Int} (ha : 1 ≤ a) (hc : 1 ≤ c) : (r.turn a c).toT = r.toT.resized a c := by
  have := o.x0; have := o.y0
  refine T.ext' rfl rfl rfl ?_ ?_ rfl rfl rfl rfl rfl rfl
  · show least r.x (a - 1) = within r.x a
    unfold least within; (repeat' split) <;> omega
  · show least r.y (c - 1) = within r.y c
    unfold least within; (repeat' split) <;> omega
theorem toT_new (W H : Int) : (R.new W H).toT = T.new W H := rfl
end Go.Proofs.YtjhccghhinlmdabGreatDoor
