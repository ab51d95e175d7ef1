/- Plain letters on a new terminal: where each one stands. Plain data alone. -/
import Derived.Test.YtjhccghhinlmdaaTermFeed
namespace Go.Proofs.Ytjhccghhinlmdaa

/-- behind the letters L: f rows have gone; the cursor's row is a; it has b letters -/
structure Ty (W H : Nat) (L : List Int) (t : T) (f a b : Nat) : Prop where
  hW : t.W = W
  hH : t.H = H
  len : L.length = (f + a) * W + b
  aH : a < H
  bW : b ≤ W
  b0 : b = 0 → L = []
  fa : f ≠ 0 → a + 1 = H
  cells : t.cells = (L.drop (f * W)).map (fun c => (c, 7)) ++ List.replicate (W * H - (a * W + b)) (32, 7)
  y : t.y = a
  x : t.x = if b = W then (W : Int) - 1 else b
  full : t.full = decide (b = W)
  colour : t.colour = 7
  bold : t.bold = false
  stage : t.stage = 0
  shown : t.shown = true

theorem set_end {α : Type} (D : List α) (m : Nat) (z v : α) (hm : 1 ≤ m) : (D ++ List.replicate m z).set D.length v = (D ++ [v]) ++ List.replicate (m - 1) z := by
  obtain ⟨k, rfl⟩ : ∃ k, m = k + 1 := ⟨m - 1, by omega⟩
  rw [List.set_append_right _ _ (Nat.le_refl _), Nat.sub_self, List.replicate_succ, List.set_cons_zero]
  simp

theorem grid_fits {W H a b : Nat} (h1 : a < H) (h2 : b ≤ W) : a * W + b ≤ W * H := by
  have := Nat.mul_le_mul_right W (show a + 1 ≤ H from h1)
  rw [Nat.add_mul, Nat.one_mul, Nat.mul_comm H W] at this
  omega

theorem Ty.dropLen {W H : Nat} {L : List Int} {t : T} {f a b : Nat} (h : Ty W H L t f a b) : f * W ≤ L.length ∧ ((L.drop (f * W)).map (fun c => ((c, 7) : Int × Int))).length = a * W + b := by
  have := h.len
  rw [Nat.add_mul] at this
  constructor
  · omega
  · simp; omega

/-- where the next letter goes: row a', b' letters in it, behind f' rows -/
theorem Ty.put {W H : Nat} {L : List Int} {t : T} {f a b : Nat} (c : Int)
    (eW : t.W = W) (eH : t.H = H) (len : L.length = (f + a) * W + b) (aH : a < H) (bW : b < W) (fa : f ≠ 0 → a + 1 = H)
    (cells : t.cells = (L.drop (f * W)).map (fun c => (c, 7)) ++ List.replicate (W * H - (a * W + b)) (32, 7)) (ey : t.y = a) (ex : t.x = b) (hf : t.full = false)
    (colour : t.colour = 7) (bold : t.bold = false) (stage : t.stage = 0) (shown : t.shown = true) : Ty W H (L ++ [c]) ((t.put c).onward) f a (b + 1) := by
  have hd : ((L.drop (f * W)).map (fun c => ((c, 7) : Int × Int))).length = a * W + b := by
    rw [Nat.add_mul] at len
    simp; omega
  have hle : f * W ≤ L.length := by rw [Nat.add_mul] at len; omega
  have hlt : a * W + b < W * H := by have := grid_fits (W := W) (H := H) aH (show b + 1 ≤ W from bW); omega
  have hidx : (t.y * t.W + t.x).toNat = a * W + b := by rw [ey, eW, ex]; norm_cast
  have hpen : t.pen = 7 := by simp [T.pen, bold, colour]
  have hcells : (t.put c).cells = ((L ++ [c]).drop (f * W)).map (fun c => ((c, 7) : Int × Int)) ++ List.replicate (W * H - (a * W + (b + 1))) (32, 7) := by
    show t.cells.set (t.y * t.W + t.x).toNat (c, t.pen) = _
    rw [hidx, hpen, cells, ← hd, set_end _ _ _ _ (by omega), List.drop_append_of_le_length hle, List.map_append]
    congr 2
    omega
  by_cases hb : b + 1 = W
  · have e : (t.put c).onward = { t.put c with full := true } := by
      unfold T.onward; rw [if_neg (by show ¬ t.x + 1 < t.W; rw [ex, eW]; omega)]
    rw [e]
    exact ⟨eW, eH, by simp [len]; omega, aH, by omega, by omega, fa, hcells, ey, by rw [if_pos hb]; show t.x = _; rw [ex]; omega, by simp [hb], colour, bold, stage, shown⟩
  · have e : (t.put c).onward = { t.put c with x := t.x + 1 } := by
      unfold T.onward; rw [if_pos (by show t.x + 1 < t.W; rw [ex, eW]; omega)]; rfl
    rw [e]
    exact ⟨eW, eH, by simp [len]; omega, aH, by omega, by omega, fa, hcells, ey, by rw [if_neg hb]; show t.x + 1 = _; rw [ex]; omega, by show t.full = _; rw [hf]; simp [hb], colour, bold, stage, shown⟩

theorem Ty.step {W H : Nat} {L : List Int} {t : T} {f a b : Nat} (h : Ty W H L t f a b) (hW : 1 ≤ W) (c : Int) (h1 : 32 ≤ c) (h2 : c ≤ 126) :
    ∃ f' a' b', 1 ≤ b' ∧ Ty W H (L ++ [c]) (t.take c) f' a' b' := by
  have e : t.take c = (t.fresh.put c).onward := by
    unfold T.take; rw [if_pos h.stage]
    unfold T.takePlain; rw [if_neg (by omega), if_neg (by omega), if_neg (by omega), if_neg (by omega), if_pos ⟨h1, h2⟩]
    rfl
  rw [e]
  by_cases hb : b = W
  · have hfull : t.full = true := by rw [h.full]; simp [hb]
    have hfr : t.fresh = { ({ t with x := 0 } : T).rowDown with full := false } := by simp [T.fresh, hfull]
    have hlen := h.len
    by_cases ha : a + 1 < H
    · have hr : ({ t with x := 0 } : T).rowDown = { t with x := 0, y := t.y + 1 } := by
        unfold T.rowDown; rw [if_pos (by show t.y + 1 < t.H; rw [h.y, h.hH]; omega)]
      rw [hfr, hr]
      refine ⟨f, a + 1, 0 + 1, by omega, Ty.put c ?_ ?_ ?_ ha (by omega) ?_ ?_ ?_ ?_ ?_ ?_ ?_ ?_ ?_⟩
      · exact h.hW
      · exact h.hH
      · rw [hlen, hb, ← Nat.add_assoc, Nat.add_mul (f + a)]; omega
      · intro hf; have := h.fa hf; omega
      · have := h.cells
        rw [hb] at this
        simp only [] at this ⊢
        rw [this, Nat.add_mul, Nat.one_mul, Nat.add_zero]
      · show t.y + 1 = _; rw [h.y]; omega
      · rfl
      · rfl
      · exact h.colour
      · exact h.bold
      · exact h.stage
      · exact h.shown
    · have haH : a + 1 = H := by have := h.aH; omega
      have hr : ({ t with x := 0 } : T).rowDown = { t with x := 0, cells := up t.W t.cells } := by
        unfold T.rowDown; rw [if_neg (by show ¬ t.y + 1 < t.H; rw [h.y, h.hH]; omega)]
      have hN : W * H - (a * W + b) = 0 := by
        rw [← haH, hb, Nat.mul_add, Nat.mul_one, Nat.mul_comm]; omega
      have hc : t.cells = (L.drop (f * W)).map (fun c => (c, 7)) := by have := h.cells; rw [hN] at this; simpa using this
      have hd := h.dropLen
      rw [hfr, hr]
      refine ⟨f + 1, a, 0 + 1, by omega, Ty.put c ?_ ?_ ?_ h.aH (by omega) ?_ ?_ ?_ ?_ ?_ ?_ ?_ ?_ ?_⟩
      · exact h.hW
      · exact h.hH
      · rw [hlen, hb, Nat.add_right_comm, Nat.add_mul (f + a)]; omega
      · exact fun _ => haH
      · show up t.W t.cells = _
        rw [hc, h.hW]
        simp only [up, Int.toNat_natCast]
        rw [← List.map_drop, List.drop_drop, Nat.add_mul, Nat.one_mul]
        congr 2
        rw [← haH, Nat.mul_add, Nat.mul_one, Nat.mul_comm]; omega
      · exact h.y
      · rfl
      · rfl
      · exact h.colour
      · exact h.bold
      · exact h.stage
      · exact h.shown
  · have hfull : t.full = false := by rw [h.full]; simp [hb]
    have hfr : t.fresh = t := by simp [T.fresh, hfull]
    rw [hfr]
    have hx := h.x
    rw [if_neg hb] at hx
    exact ⟨f, a, b + 1, by omega, Ty.put c h.hW h.hH h.len h.aH (by have := h.bW; omega) h.fa h.cells h.y hx hfull h.colour h.bold h.stage h.shown⟩

theorem Ty.new (W H : Nat) (hW : 1 ≤ W) (hH : 1 ≤ H) : Ty W H [] (T.new W H) 0 0 0 := by
  refine ⟨rfl, rfl, by simp, by omega, by omega, fun _ => rfl, by simp, ?_, rfl, by rw [if_neg (by omega)]; rfl, ?_, rfl, rfl, rfl, rfl⟩
  · simp only [T.new, List.drop_nil, List.map_nil, List.nil_append]
    rw [show ((W : Int) * (H : Int)).toNat = W * H from by rw [← Int.natCast_mul]; rfl]
    simp
  · simp only [T.new]
    have : ¬ (0 = W) := by omega
    simp [this]

theorem Ty.feed (W H : Nat) (hW : 1 ≤ W) (M : List Int) : ∀ (L : List Int) (t : T) (f a b : Nat), Ty W H L t f a b → (∀ c ∈ M, 32 ≤ c ∧ c ≤ 126) → ∃ f' a' b', Ty W H (L ++ M) (t.feed M) f' a' b' := by
  induction M with
  | nil => intro L t f a b h _; exact ⟨f, a, b, by simpa [T.feed] using h⟩
  | cons c M ih =>
    intro L t f a b h hc
    have hcc := hc c (by simp)
    obtain ⟨f1, a1, b1, _, h1⟩ := h.step hW c hcc.1 hcc.2
    obtain ⟨f2, a2, b2, h2⟩ := ih _ _ _ _ _ h1 (fun d hd => hc d (by simp [hd]))
    exact ⟨f2, a2, b2, by simpa [T.feed] using h2⟩

/-- a row of letters: the piece of them that stands there, and blanks -/
theorem Ty.row {W H : Nat} {L : List Int} {t : T} {f a b : Nat} (h : Ty W H L t f a b) (y : Nat) (hy : y < H) :
    (rowOf t.W y t.cells).map (·.1) = (L.drop ((f + y) * W)).take W ++ List.replicate (W - ((L.drop ((f + y) * W)).take W).length) 32 ∧
    (rowOf t.W y t.cells).map (·.2) = List.replicate W 7 := by
  have hd := h.dropLen
  have hg := grid_fits (W := W) (H := H) hy (Nat.le_refl W)
  have hq := grid_fits (W := W) (H := H) h.aH h.bW
  have hidx : ((y : Int) * t.W).toNat = y * W := by rw [h.hW, ← Int.natCast_mul]; rfl
  have hrow : rowOf t.W y t.cells = ((L.drop ((f + y) * W)).take W).map (fun c => ((c, 7) : Int × Int)) ++ List.replicate (W - ((L.drop ((f + y) * W)).take W).length) (32, 7) := by
    unfold rowOf
    rw [hidx, h.hW, Int.toNat_natCast, h.cells, List.drop_append, List.take_append, hd.2, List.drop_replicate, List.take_replicate]
    have e1 : ((L.drop (f * W)).map (fun c => ((c, 7) : Int × Int))).drop (y * W) = (L.drop ((f + y) * W)).map (fun c => (c, 7)) := by
      rw [← List.map_drop, List.drop_drop, Nat.add_mul]
    rw [e1, ← List.map_take]
    congr 1
    have e2 : (L.drop ((f + y) * W)).length = a * W + b - y * W := by
      have := h.len
      rw [Nat.add_mul] at this
      rw [List.length_drop, Nat.add_mul]; omega
    simp only [List.length_map, List.length_take, e2]
    congr 1
    omega
  rw [hrow]
  constructor
  · simp [List.map_append, Function.comp_def]
  · simp only [List.map_append, List.map_map, Function.comp_def, List.map_replicate, List.map_const', List.length_take]
    rw [List.replicate_append_replicate]
    congr 1
    omega

/-- how many rows there are, and how many have gone -/
theorem Ty.rows {W H : Nat} {L : List Int} {t : T} {f a b : Nat} (h : Ty W H L t f a b) (hb : 1 ≤ b) :
    (L.length + W - 1) / W = f + a + 1 ∧ (L.length - 1) % W + 1 = b ∧ (if H < f + a + 1 then f + a + 1 - H else 0) = f := by
  have hl := h.len
  have hbW := h.bW
  have e1 : L.length + W - 1 = (b - 1) + W * (f + a + 1) := by
    rw [Nat.mul_add, Nat.mul_one, Nat.mul_comm W (f + a)]; omega
  have e2 : L.length - 1 = (b - 1) + W * (f + a) := by rw [Nat.mul_comm W (f + a)]; omega
  refine ⟨?_, ?_, ?_⟩
  · rw [e1, Nat.add_mul_div_left _ _ (by omega), Nat.div_eq_of_lt (by omega)]; omega
  · rw [e2, Nat.add_mul_mod_self_left, Nat.mod_eq_of_lt (by omega)]; omega
  · have ha := h.aH
    by_cases hf : f = 0
    · subst hf; rw [if_neg (by omega)]
    · have := h.fa hf; rw [if_pos (by omega)]; omega
theorem Ty.empty {W H : Nat} {t : T} {f a b : Nat} (h : Ty W H [] t f a b) (hW : 1 ≤ W) : f = 0 ∧ a = 0 ∧ b = 0 := by
  have hl := h.len
  simp only [List.length_nil] at hl
  have h2 : (f + a) * W = 0 := by omega
  rcases Nat.mul_eq_zero.1 h2 with h3 | h3
  · exact ⟨by omega, by omega, by omega⟩
  · omega
end Go.Proofs.Ytjhccghhinlmdaa
