/- A view as plain data: windows with their offsets, their lines, what is to be seen of them. Nothing of memory. -/
import Derived.Test.YtjhccghhinlmdaaDoorStr
namespace Go.Proofs.YtjhccghhinlmdaaDoor
open Go.RowKit

structure Win where
  key : Int
  x : Int
  y : Int
  w : Int
  h : Int
  layer : Int
  style : Int
  text : ByteArray

/-- a window that may be -/
structure Win.Ok (o : Win) : Prop where
  k1 : 1 ≤ o.key
  k2 : o.key ≤ 999
  x1 : -99 ≤ o.x
  x2 : o.x ≤ 99
  y1 : -99 ≤ o.y
  y2 : o.y ≤ 99
  w1 : 1 ≤ o.w
  w2 : o.w ≤ 99
  h1 : 1 ≤ o.h
  h2 : o.h ≤ 99
  l1 : -9 ≤ o.layer
  l2 : o.layer ≤ 9
  s1 : 0 ≤ o.style
  s2 : o.style ≤ 15
  t : o.text.size ≤ 400

def byteAt (s : ByteArray) (k : Nat) : Int := (nums s).getD k 0
theorem byteAt_eq (s : ByteArray) (k : Nat) (h : k < s.size) : byteAt s k = (s[k].toNat : Int) := nums_get s k h

/-- of the first k bytes: where the line begins that has not ended; the lines that have -/
def cutS (s : ByteArray) (w : Int) : Nat → Nat × List ByteArray
  | 0 => (0, [])
  | k + 1 =>
    if byteAt s k = 10 then (k + 1, (cutS s w k).2 ++ [s.extract (cutS s w k).1 k])
    else if (k : Int) - (cutS s w k).1 = w then (k, (cutS s w k).2 ++ [s.extract (cutS s w k).1 k])
    else cutS s w k
/-- a text's lines, cut to a width -/
def cutF (s : ByteArray) (w : Int) : List ByteArray := (cutS s w s.size).2 ++ [s.extract (cutS s w s.size).1 s.size]
theorem cutS_first (s : ByteArray) (w : Int) (k : Nat) : (cutS s w k).1 ≤ k := by
  induction k with
  | zero => simp [cutS]
  | succ k ih =>
    simp only [cutS]
    split
    · exact Nat.le_refl _
    · split
      · exact Nat.le_succ _
      · omega
theorem cutS_length (s : ByteArray) (w : Int) (k : Nat) : (cutS s w k).2.length ≤ k := by
  induction k with
  | zero => simp [cutS]
  | succ k ih =>
    simp only [cutS]
    split
    · simp; omega
    · split
      · simp; omega
      · omega
theorem cutF_length (s : ByteArray) (w : Int) : 1 ≤ (cutF s w).length ∧ (cutF s w).length ≤ s.size + 1 := by
  have := cutS_length s w s.size
  simp [cutF]; omega

/-- how a byte is shown -/
def shownC (c : Int) : Int := if c < 32 ∨ 126 < c then 63 else c
def lineAt (ls : List ByteArray) (n : Int) : ByteArray := ls.getD n.toNat ByteArray.empty
/-- what stands in a column of a line -/
def charF (ls : List ByteArray) (col num : Int) : Int := if num < 0 ∨ (ls.length : Int) ≤ num ∨ col < 0 ∨ ((lineAt ls num).size : Int) ≤ col then 32 else shownC (byteAt (lineAt ls num) col.toNat)

/-- does the cell lie in the window? -/
def Win.has (o : Win) (x y : Int) : Bool := decide (o.x ≤ x) && decide (x < o.x + o.w) && decide (o.y ≤ y) && decide (y < o.y + o.h)
/-- an offset brought to where it may be -/
def Win.fits (o : Win) (n : Int) : Int :=
  if n > ((cutF o.text o.w).length : Int) - o.h then (if ((cutF o.text o.w).length : Int) - o.h < 0 then 0 else ((cutF o.text o.w).length : Int) - o.h) else if n < 0 then 0 else n
theorem Win.fits_bd (o : Win) (h : o.Ok) (n : Int) : 0 ≤ o.fits n ∧ o.fits n ≤ 401 := by
  have := (cutF_length o.text o.w).2
  have := h.t
  have := h.h1
  unfold Win.fits
  repeat' split
  all_goals omega

/-- windows with their offsets -/
abbrev V := List (Win × Int)
def V.at (v : V) (i : Nat) : Win × Int := v.getD i (⟨0, 0, 0, 0, 0, 0, 0, ByteArray.empty⟩, 0)
/-- of the first k windows, the number of the one in front -/
def V.best (v : V) (x y : Int) : Nat → Option Nat
  | 0 => none
  | k + 1 =>
    match V.best v x y k with
    | none => if (v.at k).1.has x y then some k else none
    | some j => if (v.at k).1.has x y && decide ((v.at j).1.layer ≤ (v.at k).1.layer) then some k else some j
theorem V.best_lt (v : V) (x y : Int) (k j : Nat) (h : v.best x y k = some j) : j < k := by
  induction k generalizing j with
  | zero => simp [V.best] at h
  | succ k ih =>
    simp only [V.best] at h
    split at h
    · split at h
      · simp at h; omega
      · simp at h
    · rename_i q hq
      have := ih q hq
      split at h <;> simp at h <;> omega
theorem V.best_has (v : V) (x y : Int) (k j : Nat) (h : v.best x y k = some j) : (v.at j).1.has x y = true := by
  induction k generalizing j with
  | zero => simp [V.best] at h
  | succ k ih =>
    simp only [V.best] at h
    split at h
    · split at h
      · simp at h; subst h; assumption
      · simp at h
    · rename_i q hq
      have := ih q hq
      split at h
      · simp at h; subst h; simp_all
      · simp at h; subst h; assumption
/-- a cell as a window tells it -/
def Win.cell (o : Win) (off x y : Int) : Int × Int := (charF (cutF o.text o.w) (x - o.x) (y - o.y + off), o.style)
/-- how a cell is to be -/
def V.cell (v : V) (x y : Int) : Int × Int :=
  match v.best x y v.length with
  | none => (32, 7)
  | some j => (v.at j).1.cell (v.at j).2 x y
/-- how all cells are to be, the first k of them -/
def V.gridTo (v : V) (W : Int) (k : Nat) : List (Int × Int) := (List.range k).map fun (i : Nat) => v.cell ((i : Int) % W) ((i : Int) / W)
def V.grid (v : V) (W H : Int) : List (Int × Int) := v.gridTo W (W * H).toNat
theorem V.gridTo_length (v : V) (W : Int) (k : Nat) : (v.gridTo W k).length = k := by simp [V.gridTo]
theorem V.grid_length (v : V) (W H : Int) : (v.grid W H).length = (W * H).toNat := v.gridTo_length W _
theorem V.gridTo_succ (v : V) (W : Int) (k : Nat) : v.gridTo W (k + 1) = v.gridTo W k ++ [v.cell ((k : Int) % W) ((k : Int) / W)] := by simp [V.gridTo, List.range_succ]

/-- why a window may not be where it is in the view -/
def errAt (ws : List Win) (i : Nat) (o : Win) : Int :=
  if o.key < 1 ∨ 999 < o.key ∨ (ws.take i).any (fun q => q.key == o.key) = true then 4
  else if o.x < -99 ∨ 99 < o.x ∨ o.y < -99 ∨ 99 < o.y ∨ o.w < 1 ∨ 99 < o.w ∨ o.h < 1 ∨ 99 < o.h then 5
  else if o.layer < -9 ∨ 9 < o.layer ∨ o.style < 0 ∨ 15 < o.style then 6
  else if 400 < o.text.size then 7
  else 0
theorem errAt_ok {ws : List Win} {i : Nat} {o : Win} (h : errAt ws i o = 0) : o.Ok ∧ (ws.take i).any (fun q => q.key == o.key) = false := by
  unfold errAt at h
  split at h
  · cases h
  · rename_i h1
    split at h
    · cases h
    · rename_i h2
      split at h
      · cases h
      · rename_i h3
        split at h
        · cases h
        · rename_i h4
          have h5 : ¬ ((ws.take i).any (fun q => q.key == o.key) = true) := fun e => h1 (.inr (.inr e))
          refine ⟨⟨?_, ?_, ?_, ?_, ?_, ?_, ?_, ?_, ?_, ?_, ?_, ?_, ?_, ?_, ?_⟩, by simpa using h5⟩ <;> omega
/-- the error of the first of these windows that has one, from the i-th on -/
def errFrom (ws : List Win) (i : Nat) : List Win → Int
  | [] => 0
  | o :: r => if errAt ws i o = 0 then errFrom ws (i + 1) r else errAt ws i o
def errV (ws : List Win) : Int := if 12 < ws.length then 3 else errFrom ws 0 ws
theorem errFrom_drop (ws : List Win) : ∀ (r : List Win) (i : Nat), ws.drop i = r → errFrom ws i r = 0 → ∀ (j : Nat) (o : Win), i ≤ j → ws[j]? = some o → errAt ws j o = 0 := by
  intro r
  induction r with
  | nil =>
    intro i h _ j o hj ho
    have := List.drop_eq_nil_iff.1 h
    rw [List.getElem?_eq_none (by omega)] at ho; cases ho
  | cons p r ih =>
    intro i h he j o hj ho
    have hi : i < ws.length := by
      rcases Nat.lt_or_ge i ws.length with e | e
      · exact e
      · rw [List.drop_eq_nil_of_le e] at h; cases h
    rw [List.drop_eq_getElem_cons hi] at h
    injection h with h1 h2
    unfold errFrom at he
    split at he
    · rename_i h0
      rcases Nat.lt_or_ge i j with e | e
      · exact ih (i + 1) h2 he j o (by omega) ho
      · have : j = i := by omega
        subst this
        rw [List.getElem?_eq_getElem hi] at ho
        simp at ho; subst ho; rw [h1]; exact h0
    · rename_i h0; exact absurd he h0
theorem errV_ok {ws : List Win} (h : errV ws = 0) : ws.length ≤ 12 ∧ ∀ (j : Nat) (o : Win), ws[j]? = some o → errAt ws j o = 0 := by
  unfold errV at h
  split at h
  · cases h
  · exact ⟨by omega, fun j o ho => errFrom_drop ws ws 0 rfl h j o (by omega) ho⟩

/-- the offset that the view has for a key -/
def V.offOf : V → Int → Int
  | [], _ => 0
  | (o, n) :: v, key => if o.key = key then n else V.offOf v key
/-- the view that comes behind -/
def V.next (v : V) (ws : List Win) : V := ws.map fun o => (o, o.fits (v.offOf o.key))
/-- a view of windows that may be, no two of one key -/
structure V.Ok (v : V) : Prop where
  n : v.length ≤ 12
  ok : ∀ p ∈ v, p.1.Ok ∧ 0 ≤ p.2 ∧ p.2 ≤ 401
  keys : ∀ (i j : Nat) p q, v[i]? = some p → v[j]? = some q → i < j → p.1.key ≠ q.1.key
theorem V.ok_nil : V.Ok [] := ⟨by simp, by simp, by simp⟩
theorem V.ok_next (v : V) {ws : List Win} (h : errV ws = 0) : (v.next ws).Ok := by
  obtain ⟨h1, h2⟩ := errV_ok h
  refine ⟨by simpa [V.next] using h1, ?_, ?_⟩
  · intro p hp
    obtain ⟨o, ho, rfl⟩ := List.mem_map.1 hp
    obtain ⟨j, hj⟩ := List.getElem?_of_mem ho
    have := (errAt_ok (h2 j o hj)).1
    exact ⟨this, o.fits_bd this _⟩
  · intro i j p q hp hq hij
    simp only [V.next, List.getElem?_map, Option.map_eq_some_iff] at hp hq
    obtain ⟨a, ha, rfl⟩ := hp
    obtain ⟨b, hb, rfl⟩ := hq
    have := (errAt_ok (h2 j b hb)).2
    intro he
    simp only at he
    have hm : a ∈ ws.take j := by
      rw [List.mem_iff_getElem?]
      exact ⟨i, by rw [List.getElem?_take_of_lt hij]; exact ha⟩
    have := List.any_eq_false.1 this a hm
    simp [he] at this
/-- the place of the window with this key -/
def V.idx : V → Int → Option Nat
  | [], _ => none
  | (o, _) :: v, key => if o.key = key then some 0 else (V.idx v key).map (· + 1)
theorem V.idx_lt {v : V} {key : Int} {i : Nat} (h : v.idx key = some i) : i < v.length := by
  induction v generalizing i with
  | nil => simp [V.idx] at h
  | cons p v ih =>
    obtain ⟨o, n⟩ := p
    simp only [V.idx] at h
    split at h
    · simp at h; subst h; simp
    · simp only [Option.map_eq_some_iff] at h
      obtain ⟨j, hj, rfl⟩ := h
      have := ih hj
      simp; omega
def V.put (v : V) (i : Nat) (n : Int) : V := v.set i ((v.at i).1, n)
/-- the view when a window has been scrolled -/
def V.scroll (v : V) (i : Nat) (by' : Int) : V := v.put i ((v.at i).1.fits ((v.at i).2 + by'))
theorem V.at_eq {v : V} {i : Nat} {p : Win × Int} (h : v[i]? = some p) : v.at i = p := by simp [V.at, List.getD_eq_getElem?_getD, h]
theorem V.at_some {v : V} {i : Nat} (h : i < v.length) : v[i]? = some (v.at i) := by simp [V.at, List.getD_eq_getElem?_getD, h]
theorem V.Ok.at {v : V} (h : v.Ok) {i : Nat} (hi : i < v.length) : (v.at i).1.Ok ∧ 0 ≤ (v.at i).2 ∧ (v.at i).2 ≤ 401 := h.ok _ (List.mem_of_getElem? (V.at_some hi))
theorem V.ok_scroll {v : V} (h : v.Ok) (i : Nat) (hi : i < v.length) (n : Int) : (v.scroll i n).Ok := by
  have ha := h.at hi
  have get : ∀ (j : Nat) p, (v.scroll i n)[j]? = some p → ∃ q, v[j]? = some q ∧ q.1 = p.1 ∧ 0 ≤ p.2 ∧ p.2 ≤ 401 := by
    intro j p hp
    unfold V.scroll V.put at hp
    by_cases e : j = i
    · subst e
      rw [List.getElem?_set_self hi] at hp
      simp at hp; subst hp
      exact ⟨_, V.at_some hi, rfl, Win.fits_bd _ ha.1 _⟩
    · rw [List.getElem?_set_ne (fun q => e q.symm)] at hp
      exact ⟨p, hp, rfl, (h.ok p (List.mem_of_getElem? hp)).2⟩
  refine ⟨by simpa [V.scroll, V.put] using h.n, ?_, ?_⟩
  · intro p hp
    obtain ⟨j, hj⟩ := List.getElem?_of_mem hp
    obtain ⟨q, h1, h2, h3⟩ := get j p hj
    exact ⟨h2 ▸ (h.ok q (List.mem_of_getElem? h1)).1, h3⟩
  · intro a b p q hp hq hab
    obtain ⟨p', h1, h2, _⟩ := get a p hp
    obtain ⟨q', h3, h4, _⟩ := get b q hq
    rw [← h2, ← h4]
    exact h.keys a b p' q' h1 h3 hab
end Go.Proofs.YtjhccghhinlmdaaDoor
