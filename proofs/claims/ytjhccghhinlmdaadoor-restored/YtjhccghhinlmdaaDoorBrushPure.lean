/- What the brush writes, as plain data, and what a terminal makes of it. Nothing of memory here. -/
import Derived.Test.YtjhccghhinlmdaaDoorPiecesPure
namespace Go.Proofs.YtjhccghhinlmdaaDoor

/-- a number below a hundred, in digits -/
def dig (n : Int) : List Int := if n < 10 then [48 + n] else [48 + n / 10, 48 + n % 10]
theorem dig_ok {n : Int} (h0 : 0 ≤ n) (h1 : n < 100) : (∀ c ∈ dig n, 48 ≤ c ∧ c ≤ 57) ∧ 1 ≤ (dig n).length ∧ (dig n).length ≤ 2 := by
  unfold dig; split
  · refine ⟨fun c hc => ?_, by simp, by simp⟩
    simp at hc; omega
  · refine ⟨fun c hc => ?_, by simp, by simp⟩
    simp at hc; omega
theorem rn_dig {n : Int} (h0 : 0 ≤ n) (h1 : n < 100) (r acc : List Int) : ∃ d, rn (dig n ++ r) acc 0 0 = rn r acc n d := by
  unfold dig; split
  · refine ⟨0 + 1, ?_⟩
    show rn ((48 + n) :: r) acc 0 0 = _
    rw [rn, if_neg (by omega), if_pos (by omega)]
    congr 1; omega
  · refine ⟨0 + 1 + 1, ?_⟩
    show rn ((48 + n / 10) :: (48 + n % 10) :: r) acc 0 0 = _
    rw [rn, if_neg (by omega), if_pos (by omega), rn, if_neg (by omega), if_pos (by omega)]
    congr 1; omega

/-- a move, a pen -/
def moveL (x y : Int) : List Int := 27 :: 91 :: (dig (y + 1) ++ 59 :: dig (x + 1)) ++ [72]
def penP (s : Int) : List Int := (if s < 8 then 48 else 49) :: 59 :: dig (30 + s % 8)
def penL (s : Int) : List Int := 27 :: 91 :: penP s ++ [109]
def showL : List Int := [27, 91, 63, 50, 53, 104]
def hideL : List Int := [27, 91, 63, 50, 53, 108]
def wipeL : List Int := [27, 91, 109, 27, 91, 50, 74] ++ hideL

theorem read_move {x y : Int} (x0 : 0 ≤ x) (x1 : x < 40) (y0 : 0 ≤ y) (y1 : y < 20) : readP (dig (y + 1) ++ 59 :: dig (x + 1)) = some (false, [y + 1, x + 1]) := by
  obtain ⟨a1, a2, a3⟩ := dig_ok (n := y + 1) (by omega) (by omega)
  obtain ⟨b1, b2, b3⟩ := dig_ok (n := x + 1) (by omega) (by omega)
  unfold readP
  rw [if_neg (by simp; omega)]
  have hd : (dig (y + 1) ++ 59 :: dig (x + 1)).head? ≠ some 63 := by
    intro h
    cases hq : dig (y + 1) with
    | nil => rw [hq] at a2; simp at a2
    | cons c l =>
      rw [hq] at h; simp at h
      have := a1 c (by rw [hq]; simp)
      omega
  rw [if_neg hd]
  unfold numbers
  obtain ⟨d, e⟩ := rn_dig (n := y + 1) (by omega) (by omega) (59 :: dig (x + 1)) []
  rw [e, rn, if_pos rfl]
  obtain ⟨d2, e2⟩ := rn_dig (n := x + 1) (by omega) (by omega) [] ([] ++ [y + 1])
  rw [List.append_nil] at e2
  rw [e2, rn]
  rfl
theorem read_pen (s : Int) : readP (penP s) = some (false, [if s < 8 then 0 else 1, 30 + s % 8]) := by
  obtain ⟨b1, b2, b3⟩ := dig_ok (n := 30 + s % 8) (by omega) (by omega)
  obtain ⟨d2, e2⟩ := rn_dig (n := 30 + s % 8) (by omega) (by omega) [] ([] ++ [if s < 8 then 0 else 1])
  rw [List.append_nil] at e2
  unfold readP penP
  rw [if_neg (by simp; omega)]
  by_cases h : s < 8
  · simp only [if_pos h] at e2 ⊢
    rw [if_neg (by simp)]
    unfold numbers
    rw [rn, if_neg (by omega), if_pos (by omega), rn, if_pos rfl]
    simp only [Int.zero_mul, Int.sub_self, Int.add_zero] at e2 ⊢
    rw [e2, rn]; rfl
  · simp only [if_neg h] at e2 ⊢
    rw [if_neg (by simp)]
    unfold numbers
    rw [rn, if_neg (by omega), if_pos (by omega), rn, if_pos rfl]
    rw [show (0 : Int) * 10 + (49 - 48) = 1 by omega, e2, rn]; rfl

namespace T
theorem feed_params (t : T) : ∀ (ps a : List Int), (∀ c ∈ ps, 32 ≤ c ∧ c ≤ 63) → a.length + ps.length ≤ 13 → ({ t with stage := 2, params := a } : T).feed ps = { t with stage := 2, params := a ++ ps } := by
  intro ps
  induction ps with
  | nil => intro a _ _; simp [feed]
  | cons c ps ih =>
    intro a h hl
    rw [feed_cons]
    have hc := h c (by simp)
    have e : ({ t with stage := 2, params := a } : T).take c = { t with stage := 2, params := a ++ [c] } := by
      show ({ t with stage := 2, params := a } : T).takeParam c = _
      unfold takeParam
      rw [if_pos hc]
      unfold keepParam
      rw [if_pos (by simp at hl ⊢; omega)]
    rw [e, ih (a ++ [c]) (fun d hd => h d (by simp [hd])) (by simp at hl ⊢; omega)]
    simp
/-- a whole sequence -/
theorem feed_seq (t : T) (ps : List Int) (c : Int) (hp : t.params = []) (h : ∀ c ∈ ps, 32 ≤ c ∧ c ≤ 63) (hl : ps.length ≤ 13) (c1 : 64 ≤ c) (c2 : c ≤ 126) :
    t.feed (27 :: 91 :: ps ++ [c]) = (({ t with stage := 2, params := ps } : T).obey c).drop c := by
  rw [show 27 :: 91 :: ps ++ [c] = 27 :: 91 :: (ps ++ [c]) by simp, feed_cons, take_27 t (fun _ => hp), feed_cons, take_91, feed_append, feed_params t ps [] h (by simpa using hl), List.nil_append, feed_cons, feed_nil]
  show ({ t with stage := 2, params := ps } : T).takeParam c = _
  unfold takeParam
  rw [if_neg (by omega), if_pos ⟨c1, c2⟩]
theorem feed_move (t : T) (x y : Int) (h0 : t.stage = 0) (hp : t.params = []) (x0 : 0 ≤ x) (x1 : x < t.W) (y0 : 0 ≤ y) (y1 : y < t.H) (hw : t.W ≤ 40) (hh : t.H ≤ 20) :
    t.feed (moveL x y) = { t with x := x, y := y, full := false } := by
  obtain ⟨a1, a2, a3⟩ := dig_ok (n := y + 1) (by omega) (by omega)
  obtain ⟨b1, b2, b3⟩ := dig_ok (n := x + 1) (by omega) (by omega)
  unfold moveL
  rw [feed_seq t _ 72 hp ?_ (by simp; omega) (by omega) (by omega)]
  · unfold obey
    simp only [read_move x0 (by omega) y0 (by omega)]
    unfold does
    rw [if_pos rfl]
    have e1 : atLeast ([y + 1, x + 1].getD 1 0) - 1 = x := by simp [atLeast]; omega
    have e2 : atLeast ([y + 1, x + 1].getD 0 0) - 1 = y := by simp [atLeast]; omega
    rw [e1, e2]
    unfold moveTo
    have w1 : within x t.W = x := by unfold within; rw [if_neg (by omega), if_neg (by omega)]
    have w2 : within y t.H = y := by unfold within; rw [if_neg (by omega), if_neg (by omega)]
    simp only [w1, w2]
    simp only [drop]
    rw [if_neg (by omega), h0.symm, hp.symm]
  · intro c hc
    simp at hc
    rcases hc with hc | rfl | hc
    · have := a1 c hc; omega
    · omega
    · have := b1 c hc; omega
theorem feed_pen (t : T) (s : Int) (h0 : t.stage = 0) (hp : t.params = []) :
    t.feed (penL s) = { t with colour := s % 8, bold := decide (8 ≤ s) } := by
  obtain ⟨b1, b2, b3⟩ := dig_ok (n := 30 + s % 8) (by omega) (by omega)
  unfold penL
  rw [feed_seq t _ 109 hp ?_ (by simp [penP]; omega) (by omega) (by omega)]
  · unfold obey
    simp only [read_pen s]
    unfold does
    rw [if_neg (by omega), if_neg (by omega), if_neg (by omega), if_neg (by omega), if_neg (by omega), if_neg (by omega), if_neg (by omega), if_neg (by omega), if_pos rfl]
    unfold setPen
    simp only [List.foldl_cons, List.foldl_nil]
    have e : ∀ u : T, u.penBy (30 + s % 8) = { u with colour := s % 8 } := by
      intro u
      unfold penBy
      rw [if_neg (by omega), if_neg (by omega), if_neg (by omega), if_pos (by omega)]
      rw [show 30 + s % 8 - 30 = s % 8 by omega]
    rw [e]
    by_cases h : s < 8
    · rw [if_pos h]
      have d : decide (8 ≤ s) = false := by simp; omega
      unfold penBy
      rw [if_pos rfl, d]
      simp only [drop]
      rw [if_neg (by omega), h0.symm, hp.symm]
    · rw [if_neg h]
      have d : decide (8 ≤ s) = true := by simp; omega
      unfold penBy
      rw [if_neg (by omega), if_pos rfl, d]
      simp only [drop]
      rw [if_neg (by omega), h0.symm, hp.symm]
  · intro c hc
    unfold penP at hc
    simp only [List.mem_cons] at hc
    rcases hc with rfl | rfl | hc
    · split <;> omega
    · omega
    · have := b1 c hc; omega
theorem read_25 : readP [63, 50, 53] = some (true, [25]) := by decide
theorem feed_show (t : T) (h0 : t.stage = 0) (hp : t.params = []) : t.feed showL = { t with shown := true } := by
  show t.feed (27 :: 91 :: [63, 50, 53] ++ [104]) = _
  rw [feed_seq t _ 104 hp (by decide) (by decide) (by omega) (by omega)]
  unfold obey
  simp only [read_25]
  simp only [query, drop]
  rw [h0.symm, hp.symm]
  rfl
theorem feed_hide (t : T) (h0 : t.stage = 0) (hp : t.params = []) : t.feed hideL = { t with shown := false } := by
  show t.feed (27 :: 91 :: [63, 50, 53] ++ [108]) = _
  rw [feed_seq t _ 108 hp (by decide) (by decide) (by omega) (by omega)]
  unfold obey
  simp only [read_25]
  simp only [query, drop]
  rw [h0.symm, hp.symm]
  rfl
theorem feed_char (t : T) (c : Int) (h0 : t.stage = 0) (hf : t.full = false) (c1 : 32 ≤ c) (c2 : c ≤ 126) : t.feed [c] = (t.put c).onward := by
  rw [feed_cons, feed_nil]
  unfold take; rw [if_pos h0]
  unfold takePlain; rw [if_neg (by omega), if_neg (by omega), if_neg (by omega), if_neg (by omega), if_pos ⟨c1, c2⟩]
  have : t.fresh = t := by simp [fresh, hf]
  unfold write; rw [this]
end T

/-- the brush as plain data -/
structure B where
  bytes : List Int
  x : Int
  y : Int
  pen : Int
namespace B
def moveTo (b : B) (x y : Int) : B := if x = b.x ∧ y = b.y then b else ⟨b.bytes ++ moveL x y, x, y, b.pen⟩
def setPen (b : B) (s : Int) : B := if s = b.pen then b else ⟨b.bytes ++ penL s, b.x, b.y, s⟩
def write (b : B) (c : Int) : B := ⟨b.bytes ++ [c], b.x + 1, b.y, b.pen⟩
/-- one cell, if it is to be another one -/
def cell (W : Int) (f g : List (Int × Int)) (b : B) (i : Nat) : B :=
  if g.getD i (32, 7) = f.getD i (32, 7) then b else ((b.moveTo ((i : Int) % W) ((i : Int) / W)).setPen (g.getD i (32, 7)).2).write (g.getD i (32, 7)).1
def first : B := ⟨[], -1, -1, 7⟩
/-- the first n cells -/
def upto (W : Int) (f g : List (Int × Int)) (n : Nat) : B := (List.range n).foldl (cell W f g) first
def paint (W H : Int) (f g : List (Int × Int)) : B := (upto W f g (W * H).toNat).setPen 7
end B
/-- a cursor as plain data -/
structure Cur where
  x : Int
  y : Int
  shown : Bool
deriving DecidableEq
def B.cursor (b : B) (c d : Cur) : List Int :=
  (if d.shown then (b.moveTo d.x d.y).bytes else b.bytes) ++ (if d.shown && !c.shown then showL else []) ++ (if c.shown && !d.shown then hideL else [])
def change (W H : Int) (f g : List (Int × Int)) (c d : Cur) : List Int :=
  if (B.paint W H f g).bytes = [] ∧ c = d then [] else (B.paint W H f g).cursor c d
def whole (W H : Int) (g : List (Int × Int)) (d : Cur) : List Int :=
  wipeL ++ change W H (List.replicate (W * H).toNat (32, 7)) g ⟨0, 0, false⟩ d

/-- what a terminal shows that the painter's bytes have gone to -/
structure Scr (t : T) (W H : Int) (f : List (Int × Int)) (c : Cur) : Prop where
  w : t.W = W
  h : t.H = H
  w1 : 1 ≤ W
  w2 : W ≤ 40
  h1 : 1 ≤ H
  h2 : H ≤ 20
  cells : t.cells = f
  len : (f.length : Int) = W * H
  stage : t.stage = 0
  params : t.params = []
  colour : t.colour = 7
  bold : t.bold = false
  shown : t.shown = c.shown
  at' : c.shown = true → t.x = c.x ∧ t.y = c.y ∧ t.full = false

/-- a grid of characters, with styles that there are -/
def Chars (g : List (Int × Int)) : Prop := ∀ c ∈ g, 32 ≤ c.1 ∧ c.1 ≤ 126 ∧ 0 ≤ c.2 ∧ c.2 ≤ 15

/-- the terminal behind the brush's bytes -/
structure Behind (t : T) (W H : Int) (l : List (Int × Int)) (sh : Bool) (b : B) : Prop where
  w : t.W = W
  h : t.H = H
  cells : t.cells = l
  stage : t.stage = 0
  params : t.params = []
  p0 : 0 ≤ b.pen
  p1 : b.pen ≤ 15
  colour : t.colour = b.pen % 8
  bold : t.bold = decide (8 ≤ b.pen)
  shown : t.shown = sh
  at' : 0 ≤ b.x → b.x < W → t.x = b.x ∧ t.y = b.y ∧ t.full = false

theorem Behind.move {t : T} {W H : Int} {l : List (Int × Int)} {sh : Bool} {b : B} (h : Behind (t.feed b.bytes) W H l sh b) (x y : Int) (x0 : 0 ≤ x) (x1 : x < W) (y0 : 0 ≤ y) (y1 : y < H) (hw : W ≤ 40) (hh : H ≤ 20) :
    Behind (t.feed (b.moveTo x y).bytes) W H l sh (b.moveTo x y) ∧ (b.moveTo x y).x = x ∧ (b.moveTo x y).y = y := by
  unfold B.moveTo
  split
  · rename_i e; exact ⟨h, e.1.symm, e.2.symm⟩
  · refine ⟨?_, rfl, rfl⟩
    simp only [T.feed_append]
    rw [T.feed_move _ x y h.stage h.params x0 (by rw [h.w]; exact x1) y0 (by rw [h.h]; exact y1) (by rw [h.w]; exact hw) (by rw [h.h]; exact hh)]
    exact ⟨h.w, h.h, h.cells, h.stage, h.params, h.p0, h.p1, h.colour, h.bold, h.shown, fun _ _ => ⟨rfl, rfl, rfl⟩⟩
theorem Behind.setPen {t : T} {W H : Int} {l : List (Int × Int)} {sh : Bool} {b : B} (h : Behind (t.feed b.bytes) W H l sh b) (s : Int) (s0 : 0 ≤ s) (s1 : s ≤ 15) :
    Behind (t.feed (b.setPen s).bytes) W H l sh (b.setPen s) ∧ (b.setPen s).pen = s ∧ (b.setPen s).x = b.x ∧ (b.setPen s).y = b.y := by
  unfold B.setPen
  split
  · rename_i e; exact ⟨h, e.symm, rfl, rfl⟩
  · refine ⟨?_, rfl, rfl, rfl⟩
    simp only [T.feed_append]
    rw [T.feed_pen _ s h.stage h.params]
    exact ⟨h.w, h.h, h.cells, h.stage, h.params, s0, s1, rfl, rfl, h.shown, h.at'⟩
theorem Behind.write {t : T} {W H : Int} {l : List (Int × Int)} {sh : Bool} {b : B} (h : Behind (t.feed b.bytes) W H l sh b) (c : Int) (c1 : 32 ≤ c) (c2 : c ≤ 126) (x0 : 0 ≤ b.x) (x1 : b.x < W) :
    Behind (t.feed (b.write c).bytes) W H (l.set (b.y * W + b.x).toNat (c, b.pen)) sh (b.write c) := by
  obtain ⟨a1, a2, a3⟩ := h.at' x0 x1
  unfold B.write
  simp only [T.feed_append]
  generalize t.feed b.bytes = u at *
  rw [T.feed_char u c h.stage a3 c1 c2]
  have hp : u.pen = b.pen := by
    unfold T.pen
    have e1 := h.colour
    have e2 := h.bold
    have := h.p0
    have := h.p1
    rw [e1, e2]
    by_cases hb : 8 ≤ b.pen
    · rw [if_pos (by simpa using hb)]; omega
    · rw [if_neg (by simpa using hb)]; omega
  have hc : (u.put c).cells = l.set (b.y * W + b.x).toNat (c, b.pen) := by
    unfold T.put
    simp only [h.cells, hp, a1, a2, h.w]
  unfold T.onward
  have e1 : (u.put c).x = b.x := a1
  have e2 : (u.put c).W = W := h.w
  rw [e1, e2]
  split
  · rename_i hx
    exact ⟨rfl, h.h, hc, h.stage, h.params, h.p0, h.p1, h.colour, h.bold, h.shown, fun _ _ => ⟨rfl, a2, a3⟩⟩
  · rename_i hx
    exact ⟨rfl, h.h, hc, h.stage, h.params, h.p0, h.p1, h.colour, h.bold, h.shown, fun _ h2 => absurd h2 hx⟩

/-- the first k cells are g's, the others f's -/
def mixed (f g : List (Int × Int)) (k : Nat) : List (Int × Int) := g.take k ++ f.drop k
theorem mixed_set (f g : List (Int × Int)) (k : Nat) (hf : k < f.length) (hg : k < g.length) : (mixed f g k).set k (g.getD k (32, 7)) = mixed f g (k + 1) := by
  unfold mixed
  have e : (g.take k).length = k := by simp; omega
  rw [List.set_append_right _ _ (by omega), e, Nat.sub_self, List.drop_eq_getElem_cons hf, List.set_cons_zero, List.take_succ_eq_append_getElem hg, List.append_assoc]
  have e1 : g.getD k (32, 7) = g[k] := by simp [List.getD_eq_getElem?_getD, hg]
  rw [e1]; rfl
theorem mixed_same (f g : List (Int × Int)) (k : Nat) (hf : k < f.length) (hg : k < g.length) (h : g.getD k (32, 7) = f.getD k (32, 7)) : mixed f g k = mixed f g (k + 1) := by
  unfold mixed
  rw [List.drop_eq_getElem_cons hf, List.take_succ_eq_append_getElem hg]
  simp [List.getD_eq_getElem?_getD, hg, hf] at h
  simp [h]
theorem B.upto_succ (W : Int) (f g : List (Int × Int)) (n : Nat) : B.upto W f g (n + 1) = B.cell W f g (B.upto W f g n) n := by
  unfold B.upto; rw [List.range_succ, List.foldl_append]; rfl
theorem at_row {W H : Int} (w1 : 1 ≤ W) (i : Nat) (hi : (i : Int) < W * H) : 0 ≤ (i : Int) % W ∧ (i : Int) % W < W ∧ 0 ≤ (i : Int) / W ∧ (i : Int) / W < H ∧ (i : Int) / W * W + (i : Int) % W = i := by
  refine ⟨Int.emod_nonneg _ (by omega), Int.emod_lt_of_pos _ (by omega), Int.ediv_nonneg (by omega) (by omega), ?_, ?_⟩
  · exact Int.ediv_lt_of_lt_mul (by omega) (by rw [Int.mul_comm]; exact hi)
  · rw [Int.mul_comm]; exact Int.mul_ediv_add_emod _ _

theorem Scr.upto {t : T} {W H : Int} {f : List (Int × Int)} {c : Cur} (h : Scr t W H f c) (g : List (Int × Int)) (hg : Chars g) (hl : (g.length : Int) = W * H) :
    ∀ n : Nat, (n : Int) ≤ W * H → Behind (t.feed (B.upto W f g n).bytes) W H (mixed f g n) c.shown (B.upto W f g n) := by
  intro n
  induction n with
  | zero =>
    intro _
    exact ⟨h.w, h.h, by simp [mixed, B.upto, B.first, T.feed, h.cells], h.stage, h.params, (by decide : (0 : Int) ≤ 7), (by decide : (7 : Int) ≤ 15), h.colour, h.bold, h.shown, fun h0 => absurd h0 (by decide : ¬ (0 : Int) ≤ -1)⟩
  | succ n ih =>
    intro hn
    have ih := ih (by omega)
    have hlen := h.len
    have hnf : n < f.length := by omega
    have hng : n < g.length := by omega
    obtain ⟨r1, r2, r3, r4, r5⟩ := at_row h.w1 n (by omega : (n : Int) < W * H)
    rw [B.upto_succ]
    unfold B.cell
    split
    · rename_i e
      rw [← mixed_same f g n hnf hng e]; exact ih
    · have hm : g.getD n (32, 7) ∈ g := by simp [List.getD_eq_getElem?_getD, hng]
      obtain ⟨k1, k2, k3, k4⟩ := hg _ hm
      obtain ⟨m1, m2, m3⟩ := ih.move _ _ r1 r2 r3 r4 h.w2 h.h2
      obtain ⟨p1, p2, p3, p4⟩ := m1.setPen _ k3 k4
      have := p1.write _ k1 k2 (by rw [p3, m2]; exact r1) (by rw [p3, m2]; exact r2)
      rw [p2, p3, p4, m2, m3, r5] at this
      rw [← mixed_set f g n hnf hng]
      exact this
theorem Scr.paint {t : T} {W H : Int} {f : List (Int × Int)} {c : Cur} (h : Scr t W H f c) (g : List (Int × Int)) (hg : Chars g) (hl : (g.length : Int) = W * H) :
    Behind (t.feed (B.paint W H f g).bytes) W H g c.shown (B.paint W H f g) ∧ (B.paint W H f g).pen = 7 := by
  have e : mixed f g (W * H).toNat = g := by
    have := h.len
    unfold mixed
    rw [List.take_of_length_le (by omega), List.drop_of_length_le (by omega), List.append_nil]
  have hb : 0 ≤ W * H := by have := h.len; omega
  have := h.upto g hg hl (W * H).toNat (by omega)
  rw [e] at this
  obtain ⟨p1, p2, _⟩ := this.setPen 7 (by omega) (by omega)
  exact ⟨p1, p2⟩
/-- the brush has begun: its bytes are not none, or nothing has been told -/
theorem Scr.change {t : T} {W H : Int} {f : List (Int × Int)} {c : Cur} (h : Scr t W H f c) (g : List (Int × Int)) (hg : Chars g) (hl : (g.length : Int) = W * H) (d : Cur) (hd : d.shown = true → 0 ≤ d.x ∧ d.x < W ∧ 0 ≤ d.y ∧ d.y < H) :
    Scr (t.feed (change W H f g c d)) W H g d := by
  obtain ⟨p1, p2⟩ := h.paint g hg hl
  unfold Go.Proofs.YtjhccghhinlmdaaDoor.change
  split
  · rename_i e
    obtain ⟨e1, e2⟩ := e
    subst e2
    have hc := p1.cells
    rw [e1] at hc
    exact ⟨h.w, h.h, h.w1, h.w2, h.h1, h.h2, hc, hl, h.stage, h.params, h.colour, h.bold, h.shown, h.at'⟩
  · generalize B.paint W H f g = b at *
    unfold B.cursor
    have c7 : (7 : Int) % 8 = 7 := by decide
    have b7 : decide ((8 : Int) ≤ 7) = false := by decide
    by_cases hs : d.shown = true
    · obtain ⟨d1, d2, d3, d4⟩ := hd hs
      obtain ⟨m1, m2, m3⟩ := p1.move d.x d.y d1 d2 d3 d4 h.w2 h.h2
      have pen2 : (b.moveTo d.x d.y).pen = 7 := by unfold B.moveTo; split <;> exact p2
      have at2 := m1.at' (by rw [m2]; exact d1) (by rw [m2]; exact d2)
      rw [m2, m3] at at2
      rw [if_pos hs, hs]
      simp only [Bool.not_true, Bool.and_false, Bool.false_eq_true, if_false, List.append_nil, Bool.true_and]
      rw [T.feed_append]
      generalize t.feed (b.moveTo d.x d.y).bytes = u at *
      have hcol := m1.colour
      have hbold := m1.bold
      rw [pen2] at hcol hbold
      have hsh := m1.shown
      by_cases hc : c.shown = true
      · rw [hc]
        rw [hc] at hsh
        simp only [Bool.not_true, Bool.false_eq_true, if_false, T.feed_nil]
        exact ⟨m1.w, m1.h, h.w1, h.w2, h.h1, h.h2, m1.cells, hl, m1.stage, m1.params, by rw [hcol, c7], by rw [hbold, b7], by rw [hsh, hs], fun _ => at2⟩
      · have hc' : c.shown = false := by simpa using hc
        rw [hc']
        simp only [Bool.not_false, if_true]
        rw [T.feed_show u m1.stage m1.params]
        exact ⟨m1.w, m1.h, h.w1, h.w2, h.h1, h.h2, m1.cells, hl, m1.stage, m1.params, by rw [← c7]; exact hcol, by rw [← b7]; exact hbold, hs.symm, fun _ => at2⟩
    · have hs' : d.shown = false := by simpa using hs
      rw [hs']
      simp only [Bool.false_eq_true, if_false, Bool.false_and, List.append_nil, Bool.not_false, Bool.and_true]
      rw [T.feed_append]
      generalize t.feed b.bytes = u at *
      have hcol := p1.colour
      have hbold := p1.bold
      rw [p2] at hcol hbold
      have hsh := p1.shown
      by_cases hc : c.shown = true
      · rw [if_pos hc, T.feed_hide u p1.stage p1.params]
        exact ⟨p1.w, p1.h, h.w1, h.w2, h.h1, h.h2, p1.cells, hl, p1.stage, p1.params, by rw [← c7]; exact hcol, by rw [← b7]; exact hbold, hs'.symm, fun hx => absurd hx hs⟩
      · rw [if_neg hc, T.feed_nil]
        have hc' : c.shown = false := by simpa using hc
        exact ⟨p1.w, p1.h, h.w1, h.w2, h.h1, h.h2, p1.cells, hl, p1.stage, p1.params, by rw [← c7]; exact hcol, by rw [← b7]; exact hbold, by rw [hsh, hc', hs'], fun hx => absurd hx hs⟩

/-- any terminal is brought to a screen -/
theorem scr_whole (t : T) (W H : Int) (h : t.Cln) (hW : t.W = W) (hH : t.H = H) (w1 : 1 ≤ W) (w2 : W ≤ 40) (h1 : 1 ≤ H) (h2 : H ≤ 20) (hlen : (t.cells.length : Int) = W * H) (g : List (Int × Int)) (hg : Chars g) (hl : (g.length : Int) = W * H) (d : Cur) (hd : d.shown = true → 0 ≤ d.x ∧ d.x < W ∧ 0 ≤ d.y ∧ d.y < H) :
    Scr (t.feed (whole W H g d)) W H g d := by
  unfold whole
  rw [T.feed_append]
  refine Scr.change ?_ g hg hl d hd
  unfold wipeL
  rw [T.feed_append]
  rw [T.feed_cons, T.take_27 t h, T.feed_cons, T.take_91, T.feed_cons, T.take_m, T.feed_cons, T.take_27 _ (fun _ => rfl), T.feed_cons, T.take_91, T.feed_cons, T.feed_cons, T.take_2J, T.feed_nil, T.feed_hide _ rfl rfl]
  have e : clr t.cells 0 (t.W * t.H) = List.replicate (W * H).toNat (32, 7) := by
    rw [hW, hH, T.clr_all _ _ hlen]; congr 1; omega
  exact ⟨hW, hH, w1, w2, h1, h2, e, by simp; omega, rfl, rfl, rfl, rfl, rfl, fun hx => by cases hx⟩
end Go.Proofs.YtjhccghhinlmdaaDoor
