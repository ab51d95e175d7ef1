/- How many bytes the brush writes, and that they are bytes. Plain data alone. -/
import Derived.Test.YtjhccghhinlmdaaDoorBrushPure
namespace Go.Proofs.YtjhccghhinlmdaaDoor

theorem dig_len (n : Int) : (dig n).length ≤ 2 := by unfold dig; split <;> simp
theorem moveL_len (x y : Int) : (moveL x y).length ≤ 8 := by
  have := dig_len (x + 1); have := dig_len (y + 1); simp [moveL]; omega
theorem penL_len (s : Int) : (penL s).length ≤ 7 := by
  have := dig_len (30 + s % 8); simp [penL, penP]; omega

/-- how many of the first n cells differ -/
def others (f g : List (Int × Int)) : Nat → Nat
  | 0 => 0
  | n + 1 => others f g n + if g.getD n (32, 7) = f.getD n (32, 7) then 0 else 1
theorem others_le (f g : List (Int × Int)) (n : Nat) : others f g n ≤ n := by
  induction n with
  | zero => exact Nat.le_refl _
  | succ n ih => unfold others; split <;> omega
theorem others_same (f : List (Int × Int)) (n : Nat) : others f f n = 0 := by
  induction n with
  | zero => rfl
  | succ n ih => unfold others; rw [if_pos rfl, ih]

namespace B
theorem moveTo_len (b : B) (x y : Int) : (b.moveTo x y).bytes.length ≤ b.bytes.length + 8 := by
  have := moveL_len x y
  unfold moveTo; split
  · omega
  · simp; omega
theorem setPen_len (b : B) (s : Int) : (b.setPen s).bytes.length ≤ b.bytes.length + 7 := by
  have := penL_len s
  unfold setPen; split
  · omega
  · simp; omega
theorem cell_len (W : Int) (f g : List (Int × Int)) (b : B) (i : Nat) : (cell W f g b i).bytes.length ≤ b.bytes.length + 16 := by
  unfold cell; split
  · omega
  · have h1 := moveTo_len b ((i : Int) % W) ((i : Int) / W)
    have h2 := setPen_len (b.moveTo ((i : Int) % W) ((i : Int) / W)) (g.getD i (32, 7)).2
    simp only [write, List.length_append, List.length_cons, List.length_nil]
    omega
theorem upto_len (W : Int) (f g : List (Int × Int)) (n : Nat) : (upto W f g n).bytes.length ≤ 16 * others f g n := by
  induction n with
  | zero => simp [upto, first]
  | succ n ih =>
    rw [upto_succ]
    unfold others
    split
    · rename_i e; unfold cell; rw [if_pos e]; omega
    · have := cell_len W f g (upto W f g n) n; omega
theorem upto_none (W : Int) (f g : List (Int × Int)) (n : Nat) (h : others f g n = 0) : upto W f g n = first := by
  induction n with
  | zero => rfl
  | succ n ih =>
    unfold others at h
    split at h
    · rename_i e
      rw [upto_succ, ih (by omega)]; unfold cell; rw [if_pos e]
    · omega
theorem paint_len (W H : Int) (f g : List (Int × Int)) : (paint W H f g).bytes.length ≤ 16 * others f g (W * H).toNat + 7 := by
  have h1 := upto_len W f g (W * H).toNat
  have h2 := setPen_len (upto W f g (W * H).toNat) 7
  unfold paint; omega
theorem paint_none (W H : Int) (f g : List (Int × Int)) (h : others f g (W * H).toNat = 0) : (paint W H f g).bytes = [] := by
  unfold paint; rw [upto_none _ _ _ _ h]; rfl
theorem cursor_len (b : B) (c d : Cur) : (b.cursor c d).length ≤ b.bytes.length + 14 := by
  have h1 := moveTo_len b d.x d.y
  have h2 : (if d.shown then (b.moveTo d.x d.y).bytes else b.bytes).length ≤ b.bytes.length + 8 := by split <;> omega
  have h3 : (if d.shown && !c.shown then showL else []).length + (if c.shown && !d.shown then hideL else []).length ≤ 6 := by
    cases d.shown <;> cases c.shown <;> simp [showL, hideL]
  unfold cursor
  simp only [List.length_append]
  omega
end B
theorem change_len (W H : Int) (f g : List (Int × Int)) (c d : Cur) : (change W H f g c d).length ≤ 16 * others f g (W * H).toNat + 21 := by
  have h1 := B.paint_len W H f g
  have h2 := B.cursor_len (B.paint W H f g) c d
  unfold change; split
  · simp
  · omega
theorem change_none (W H : Int) (f g : List (Int × Int)) (c : Cur) (h : others f g (W * H).toNat = 0) : change W H f g c c = [] := by
  unfold change; rw [if_pos ⟨B.paint_none W H f g h, rfl⟩]
theorem change_same (W H : Int) (f : List (Int × Int)) (c : Cur) : change W H f f c c = [] := change_none W H f f c (others_same _ _)
theorem whole_len (W H : Int) (g : List (Int × Int)) (d : Cur) : (whole W H g d).length ≤ 16 * (W * H).toNat + 34 := by
  have h1 := change_len W H (List.replicate (W * H).toNat (32, 7)) g ⟨0, 0, false⟩ d
  have h2 := others_le (List.replicate (W * H).toNat (32, 7)) g (W * H).toNat
  unfold whole
  simp only [List.length_append, wipeL, hideL, List.length_cons, List.length_nil]
  omega

/-- all of them are bytes -/
def AreBytes (l : List Int) : Prop := ∀ c ∈ l, 0 ≤ c ∧ c ≤ 255
theorem AreBytes.append {a b : List Int} (ha : AreBytes a) (hb : AreBytes b) : AreBytes (a ++ b) := by
  intro c hc; rcases List.mem_append.1 hc with h | h
  · exact ha c h
  · exact hb c h
theorem AreBytes.nil : AreBytes [] := fun _ h => by cases h
theorem AreBytes.cons {a : Int} {l : List Int} (ha : 0 ≤ a ∧ a ≤ 255) (h : AreBytes l) : AreBytes (a :: l) := by
  intro c hc; rcases List.mem_cons.1 hc with h1 | h1
  · subst h1; exact ha
  · exact h c h1
theorem dig_bytes {n : Int} (h0 : 0 ≤ n) (h1 : n < 100) : AreBytes (dig n) := fun c hc => by have := (dig_ok h0 h1).1 c hc; omega
theorem moveL_bytes {x y : Int} (x0 : 0 ≤ x) (x1 : x < 99) (y0 : 0 ≤ y) (y1 : y < 99) : AreBytes (moveL x y) := by
  unfold moveL
  exact .append (.cons (by omega) (.cons (by omega) ((dig_bytes (by omega) (by omega)).append (.cons (by omega) (dig_bytes (by omega) (by omega)))))) (.cons (by omega) .nil)
theorem penL_bytes (s : Int) : AreBytes (penL s) := by
  unfold penL penP
  exact .append (.cons (by omega) (.cons (by omega) (.cons (by split <;> omega) (.cons (by omega) (dig_bytes (by omega) (by omega)))))) (.cons (by omega) .nil)
theorem showL_bytes : AreBytes showL := by unfold AreBytes; decide
theorem hideL_bytes : AreBytes hideL := by unfold AreBytes; decide
theorem wipeL_bytes : AreBytes wipeL := by unfold AreBytes; decide
namespace B
theorem moveTo_bytes {b : B} (h : AreBytes b.bytes) {x y : Int} (x0 : 0 ≤ x) (x1 : x < 99) (y0 : 0 ≤ y) (y1 : y < 99) : AreBytes (b.moveTo x y).bytes := by
  unfold moveTo; split
  · exact h
  · exact h.append (moveL_bytes x0 x1 y0 y1)
theorem setPen_bytes {b : B} (h : AreBytes b.bytes) (s : Int) : AreBytes (b.setPen s).bytes := by
  unfold setPen; split
  · exact h
  · exact h.append (penL_bytes s)
theorem upto_bytes {W H : Int} (w1 : 1 ≤ W) (w2 : W ≤ 40) (h2 : H ≤ 20) (f g : List (Int × Int)) (hg : Chars g) (n : Nat) (hn : (n : Int) ≤ W * H) : AreBytes (upto W f g n).bytes := by
  induction n with
  | zero => exact .nil
  | succ n ih =>
    obtain ⟨r1, r2, r3, r4, _⟩ := at_row (H := H) w1 n (by omega)
    rw [upto_succ]
    unfold cell; split
    · exact ih (by omega)
    · refine (setPen_bytes (moveTo_bytes (ih (by omega)) r1 (by omega) r3 (by omega)) _).append (.cons ?_ .nil)
      by_cases h : n < g.length
      · have hm : g.getD n (32, 7) ∈ g := by simp [List.getD_eq_getElem?_getD, h]
        have := hg _ hm
        omega
      · have : g.getD n (32, 7) = (32, 7) := by simp [List.getD_eq_getElem?_getD]; rw [List.getElem?_eq_none (by omega)]; rfl
        rw [this]; simp
end B
theorem change_bytes {W H : Int} (w1 : 1 ≤ W) (w2 : W ≤ 40) (h1 : 1 ≤ H) (h2 : H ≤ 20) (f g : List (Int × Int)) (hg : Chars g) (c d : Cur) (hd : d.shown = true → 0 ≤ d.x ∧ d.x < W ∧ 0 ≤ d.y ∧ d.y < H) : AreBytes (change W H f g c d) := by
  have hp : AreBytes (B.paint W H f g).bytes := B.setPen_bytes (B.upto_bytes w1 w2 h2 f g hg _ (by have := Int.mul_nonneg (show 0 ≤ W by omega) (show 0 ≤ H by omega); omega)) 7
  unfold change; split
  · exact .nil
  · unfold B.cursor
    refine .append (.append ?_ ?_) ?_
    · split
      · rename_i h
        have := hd h
        exact B.moveTo_bytes hp (by omega) (by omega) (by omega) (by omega)
      · exact hp
    · split
      · exact showL_bytes
      · exact .nil
    · split
      · exact hideL_bytes
      · exact .nil
theorem whole_bytes {W H : Int} (w1 : 1 ≤ W) (w2 : W ≤ 40) (h1 : 1 ≤ H) (h2 : H ≤ 20) (g : List (Int × Int)) (hg : Chars g) (d : Cur) (hd : d.shown = true → 0 ≤ d.x ∧ d.x < W ∧ 0 ≤ d.y ∧ d.y < H) : AreBytes (whole W H g d) :=
  wipeL_bytes.append (change_bytes w1 w2 h1 h2 _ g hg _ d hd)
end Go.Proofs.YtjhccghhinlmdaaDoor
