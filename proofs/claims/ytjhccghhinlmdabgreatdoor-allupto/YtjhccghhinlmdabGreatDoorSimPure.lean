/- The document's terminal and the program's, as plain data: each byte does the same to both. -/
import Derived.Test.YtjhccghhinlmdabGreatDoorRefTurn
import Derived.Test.YtjhccghhinlmdabGreatDoorTermResize
namespace Go.Proofs.YtjhccghhinlmdabGreatDoor

/-- the program's data of the document's terminal -/
def R.toT (r : R) : T :=
  { W := r.W, H := r.H, cells := r.cells, x := r.x, y := r.y, shown := !r.hidden, full := r.full, colour := r.pen % 8, bold := decide (8 ≤ r.pen), stage := if r.begun.size = 0 then 0 else if r.begun.size = 1 then 1 else 2, params := ((nums r.begun).drop 2).take 13 }
theorem T.ext' {a b : T} (h1 : a.W = b.W) (h2 : a.H = b.H) (h3 : a.cells = b.cells) (h4 : a.x = b.x) (h5 : a.y = b.y) (h6 : a.shown = b.shown) (h7 : a.full = b.full) (h8 : a.colour = b.colour) (h9 : a.bold = b.bold) (h10 : a.stage = b.stage) (h11 : a.params = b.params) : a = b := by
  cases a; cases b; simp_all

theorem toT_pen {r : R} (h : r.Ok) : r.toT.pen = r.pen := by
  have := h.p0; have := h.p1
  simp only [T.pen, R.toT, decide_eq_true_eq]
  split <;> omega
theorem toT_down (r : R) : r.down.toT = r.toT.rowDown := by
  unfold R.down T.rowDown
  by_cases h : r.y + 1 < r.H
  · rw [if_pos h, if_pos (show r.toT.y + 1 < r.toT.H from h)]; rfl
  · rw [if_neg h, if_neg (show ¬ r.toT.y + 1 < r.toT.H from h)]; rfl
theorem toT_fresh (r : R) : r.fresh.toT = r.toT.fresh := by
  unfold R.fresh T.fresh
  by_cases h : r.full = true
  · rw [if_pos h, if_pos (show r.toT.full = true from h)]
    have := toT_down { r with x := 0 }
    show { (({ r with x := 0 } : R).down).toT with full := false } = _
    rw [this]; rfl
  · rw [if_neg h, if_neg (show ¬ r.toT.full = true from h)]
theorem toT_put {r : R} (h : r.Ok) (c : Int) : (r.put c).toT = r.toT.put c := by
  unfold R.put T.put
  rw [toT_pen h]
  show { r.toT with cells := r.cells.set (r.W * r.y + r.x).toNat (c, r.pen) } = { r.toT with cells := r.cells.set (r.y * r.W + r.x).toNat (c, r.pen) }
  rw [Int.mul_comm]
theorem toT_onward {r : R} (h : r.Ok) : r.onward.toT = r.toT.onward := by
  have := h.x1
  unfold R.onward T.onward
  by_cases e : r.x = r.W - 1
  · rw [if_pos e, if_neg (show ¬ r.toT.x + 1 < r.toT.W by show ¬ r.x + 1 < r.W; omega)]; rfl
  · rw [if_neg e, if_pos (show r.toT.x + 1 < r.toT.W by show r.x + 1 < r.W; omega)]; rfl
theorem within_in {i n : Int} (h0 : 0 ≤ i) (h1 : i < n) : within i n = i := by unfold within; (repeat' split) <;> omega
theorem toT_stage0 {r : R} (h : r.begun.size = 0) : r.toT.stage = 0 ∧ r.toT.params = [] := by
  have hl : (nums r.begun).length = 0 := by rw [nums_length]; exact h
  refine ⟨by simp [R.toT, h], ?_⟩
  simp only [R.toT, List.eq_nil_of_length_eq_zero hl]; rfl

theorem toT_takes {r : R} (o : r.Ok) (hz : r.begun.size = 0) (c : Int) : (r.takes c).toT = r.toT.takePlain c := by
  have hx0 := o.x0; have hx1 := o.x1; have hy0 := o.y0; have hy1 := o.y1
  unfold R.takes T.takePlain
  by_cases c27 : c = 27
  · rw [if_pos c27, if_pos c27]
    refine T.ext' rfl rfl rfl rfl rfl rfl rfl rfl rfl rfl ?_
    show _ = r.toT.params
    rw [(toT_stage0 hz).2]; rfl
  rw [if_neg c27, if_neg c27]
  by_cases c13 : c = 13
  · rw [if_pos c13, if_pos c13]
    refine T.ext' rfl rfl rfl ?_ ?_ rfl rfl rfl rfl rfl rfl
    · show 0 = within 0 r.W; rw [within_in (by omega) (by omega)]
    · show r.y = within r.y r.H; rw [within_in hy0 hy1]
  rw [if_neg c13, if_neg c13]
  by_cases c10 : c = 10
  · rw [if_pos c10, if_pos c10, ← toT_down]; rfl
  rw [if_neg c10, if_neg c10]
  by_cases c8 : c = 8
  · rw [if_pos c8, if_pos c8]
    refine T.ext' rfl rfl rfl ?_ ?_ rfl rfl rfl rfl rfl rfl
    · show (if 0 < r.x then r.x - 1 else r.x) = within (r.x - 1) r.W
      unfold within; (repeat' split) <;> omega
    · show r.y = within r.y r.H; rw [within_in hy0 hy1]
  rw [if_neg c8, if_neg c8]
  by_cases cw : 32 ≤ c ∧ c ≤ 126
  · rw [if_pos cw, if_pos cw]
    unfold T.write
    rw [toT_onward (R.put_ok (R.fresh_ok o) c), toT_put (R.fresh_ok o), toT_fresh]
  · rw [if_neg cw, if_neg cw]

theorem oneI_eq {n : Int} (h : 0 ≤ n) : oneI n = atLeast n := by unfold oneI atLeast; (repeat' split) <;> omega
theorem toT_goes {r : R} (o : r.Ok) (x y : Int) : (r.goes x y).toT = r.toT.moveTo x y := by
  have := o.w1; have := o.h1
  refine T.ext' rfl rfl rfl ?_ ?_ rfl rfl rfl rfl rfl rfl
  · show least (if x < 0 then 0 else x) (r.W - 1) = within x r.W
    unfold least within; (repeat' split) <;> omega
  · show least (if y < 0 then 0 else y) (r.H - 1) = within y r.H
    unfold least within; (repeat' split) <;> omega
theorem toT_query (r : R) (l : List Int) (c : Int) : (r.query l c).toT = r.toT.query l c := by
  unfold R.query T.query
  by_cases h25 : l.contains 25 = true
  · rw [if_pos h25]
    by_cases h1 : c = 104
    · rw [if_pos ⟨h25, .inl h1⟩, if_pos h1]
      refine T.ext' rfl rfl rfl rfl rfl ?_ rfl rfl rfl rfl rfl
      show (!(decide (c = 108))) = true
      rw [h1]; rfl
    · rw [if_neg h1]
      by_cases h2 : c = 108
      · rw [if_pos ⟨h25, .inr h2⟩, if_pos h2]
        refine T.ext' rfl rfl rfl rfl rfl ?_ rfl rfl rfl rfl rfl
        show (!(decide (c = 108))) = false
        rw [h2]; rfl
      · rw [if_neg (fun h => by rcases h.2 with h | h <;> contradiction), if_neg h2]
  · rw [if_neg (fun h => h25 h.1), if_neg h25]
theorem toT_pen1 {r : R} (h0 : 0 ≤ r.pen) (h1 : r.pen ≤ 15) (n : Int) : ({ r with pen := penR r.pen n } : R).toT = r.toT.penBy n := by
  unfold penR T.penBy
  by_cases e0 : n = 0
  · simp only [if_pos e0]; rfl
  simp only [if_neg e0]
  by_cases e1 : n = 1
  · simp only [if_pos e1]
    refine T.ext' rfl rfl rfl rfl rfl rfl rfl ?_ ?_ rfl rfl
    · show (r.pen % 8 + 8) % 8 = r.pen % 8; omega
    · show decide (8 ≤ r.pen % 8 + 8) = true; exact decide_eq_true (by omega)
  simp only [if_neg e1]
  by_cases e22 : n = 22
  · simp only [if_pos e22]
    refine T.ext' rfl rfl rfl rfl rfl rfl rfl ?_ ?_ rfl rfl
    · show (r.pen % 8) % 8 = r.pen % 8; omega
    · show decide (8 ≤ r.pen % 8) = false; exact decide_eq_false (by omega)
  simp only [if_neg e22]
  by_cases e30 : 30 ≤ n ∧ n ≤ 37
  · simp only [if_pos e30]
    refine T.ext' rfl rfl rfl rfl rfl rfl rfl ?_ ?_ rfl rfl
    · show (r.pen - r.pen % 8 + n - 30) % 8 = n - 30; omega
    · show decide (8 ≤ r.pen - r.pen % 8 + n - 30) = decide (8 ≤ r.pen); rw [decide_eq_decide]; omega
  simp only [if_neg e30]
  by_cases e39 : n = 39
  · simp only [if_pos e39]
    refine T.ext' rfl rfl rfl rfl rfl rfl rfl ?_ ?_ rfl rfl
    · show (r.pen - r.pen % 8 + 7) % 8 = 7; omega
    · show decide (8 ≤ r.pen - r.pen % 8 + 7) = decide (8 ≤ r.pen); rw [decide_eq_decide]; omega
  simp only [if_neg e39]
theorem toT_pens (l : List Int) : ∀ r : R, 0 ≤ r.pen → r.pen ≤ 15 → ({ r with pen := l.foldl penR r.pen } : R).toT = r.toT.setPen l := by
  induction l with
  | nil => intro r _ _; rfl
  | cons n l ih =>
    intro r h0 h1
    have hb := penR_bd r.pen n h0 h1
    have := ih { r with pen := penR r.pen n } hb.1 hb.2
    rw [toT_pen1 h0 h1] at this
    exact this
end Go.Proofs.YtjhccghhinlmdabGreatDoor
