import Derived.Test.YtjhccghhinlmdabGreatDoorStr
import Derived.Deep.RegionHeldLaw
import Derived.ProofKit
import Derived.OpenShut
import Derived.ShutString
import Derived.SizedLaws
import Derived.Deep.Slices
/- A view as plain data: windows with their offsets, their lines, what is to be seen of them. Nothing of memory. -/
namespace Go.Proofs.YtjhccghhinlmdabGreatDoor
open Go.RowKit

structure Win where
  key : Int
  x : Int
  y : Int
  w : Int
  h : Int
  layer : Int
  style : Int
  text : ByteArray

/-- a window that may be -/
structure Win.Ok (o : Win) : Prop where
  k1 : 1 ≤ o.key
  k2 : o.key ≤ 999
  x1 : -99 ≤ o.x
  x2 : o.x ≤ 99
  y1 : -99 ≤ o.y
  y2 : o.y ≤ 99
  w1 : 1 ≤ o.w
  w2 : o.w ≤ 99
  h1 : 1 ≤ o.h
  h2 : o.h ≤ 99
  l1 : -9 ≤ o.layer
  l2 : o.layer ≤ 9
  s1 : 0 ≤ o.style
  s2 : o.style ≤ 15
  t : o.text.size ≤ 400

def byteAt (s : ByteArray) (k : Nat) : Int := (nums s).getD k 0
theorem byteAt_eq (s : ByteArray) (k : Nat) (h : k < s.size) : byteAt s k = (s[k].toNat : Int) := nums_get s k h

/-- of the first k bytes: where the line begins that has not ended; the lines that have -/
def cutS (s : ByteArray) (w : Int) : Nat → Nat × List ByteArray
  | 0 => (0, [])
  | k + 1 =>
    if byteAt s k = 10 then (k + 1, (cutS s w k).2 ++ [s.extract (cutS s w k).1 k])
    else if (k : Int) - (cutS s w k).1 = w then (k, (cutS s w k).2 ++ [s.extract (cutS s w k).1 k])
    else cutS s w k
/-- a text's lines, cut to a width -/
def cutF (s : ByteArray) (w : Int) : List ByteArray := (cutS s w s.size).2 ++ [s.extract (cutS s w s.size).1 s.size]
theorem cutS_first (s : ByteArray) (w : Int) (k : Nat) : (cutS s w k).1 ≤ k := by
  induction k with
  | zero => simp [cutS]
  | succ k ih =>
    simp only [cutS]
    split
    · exact Nat.le_refl _
    · split
      · exact Nat.le_succ _
      · omega
theorem cutS_length (s : ByteArray) (w : Int) (k : Nat) : (cutS s w k).2.length ≤ k := by
  induction k with
  | zero => simp [cutS]
  | succ k ih =>
    simp only [cutS]
    split
    · simp; omega
    · split
      · simp; omega
      · omega
theorem cutF_length (s : ByteArray) (w : Int) : 1 ≤ (cutF s w).length ∧ (cutF s w).length ≤ s.size + 1 := by
  have := cutS_length s w s.size
  simp [cutF]; omega

/-- how a byte is shown -/
def shownC (c : Int) : Int := if c < 32 ∨ 126 < c then 63 else c
def lineAt (ls : List ByteArray) (n : Int) : ByteArray := ls.getD n.toNat ByteArray.empty
/-- what stands in a column of a line -/
def charF (ls : List ByteArray) (col num : Int) : Int := if num < 0 ∨ (ls.length : Int) ≤ num ∨ col < 0 ∨ ((lineAt ls num).size : Int) ≤ col then 32 else shownC (byteAt (lineAt ls num) col.toNat)

/-- does the cell lie in the window? -/
def Win.has (o : Win) (x y : Int) : Bool := decide (o.x ≤ x) && decide (x < o.x + o.w) && decide (o.y ≤ y) && decide (y < o.y + o.h)
/-- an offset brought to where it may be -/
def Win.fits (o : Win) (n : Int) : Int :=
  if n > ((cutF o.text o.w).length : Int) - o.h then (if ((cutF o.text o.w).length : Int) - o.h < 0 then 0 else ((cutF o.text o.w).length : Int) - o.h) else if n < 0 then 0 else n
theorem Win.fits_bd (o : Win) (h : o.Ok) (n : Int) : 0 ≤ o.fits n ∧ o.fits n ≤ 401 := by
  have := (cutF_length o.text o.w).2
  have := h.t
  have := h.h1
  unfold Win.fits
  repeat' split
  all_goals omega

/-- windows with their offsets -/
abbrev V := List (Win × Int)
def V.at (v : V) (i : Nat) : Win × Int := v.getD i (⟨0, 0, 0, 0, 0, 0, 0, ByteArray.empty⟩, 0)
/-- of the first k windows, the number of the one in front -/
def V.best (v : V) (x y : Int) : Nat → Option Nat
  | 0 => none
  | k + 1 =>
    match V.best v x y k with
    | none => if (v.at k).1.has x y then some k else none
    | some j => if (v.at k).1.has x y && decide ((v.at j).1.layer ≤ (v.at k).1.layer) then some k else some j
theorem V.best_lt (v : V) (x y : Int) (k j : Nat) (h : v.best x y k = some j) : j < k := by
  induction k generalizing j with
  | zero => simp [V.best] at h
  | succ k ih =>
    simp only [V.best] at h
    split at h
    · split at h
      · simp at h; omega
      · simp at h
    · rename_i q hq
      have := ih q hq
      split at h <;> simp at h <;> omega
theorem V.best_has (v : V) (x y : Int) (k j : Nat) (h : v.best x y k = some j) : (v.at j).1.has x y = true := by
  induction k generalizing j with
  | zero => simp [V.best] at h
  | succ k ih =>
    simp only [V.best] at h
    split at h
    · split at h
      · simp at h; subst h; assumption
      · simp at h
    · rename_i q hq
      have := ih q hq
      split at h
      · simp at h; subst h; simp_all
      · simp at h; subst h; assumption
/-- a cell as a window tells it -/
def Win.cell (o : Win) (off x y : Int) : Int × Int := (charF (cutF o.text o.w) (x - o.x) (y - o.y + off), o.style)
/-- how a cell is to be -/
def V.cell (v : V) (x y : Int) : Int × Int :=
  match v.best x y v.length with
  | none => (32, 7)
  | some j => (v.at j).1.cell (v.at j).2 x y
/-- how all cells are to be, the first k of them -/
def V.gridTo (v : V) (W : Int) (k : Nat) : List (Int × Int) := (List.range k).map fun (i : Nat) => v.cell ((i : Int) % W) ((i : Int) / W)
def V.grid (v : V) (W H : Int) : List (Int × Int) := v.gridTo W (W * H).toNat
theorem V.gridTo_length (v : V) (W : Int) (k : Nat) : (v.gridTo W k).length = k := by simp [V.gridTo]
theorem V.grid_length (v : V) (W H : Int) : (v.grid W H).length = (W * H).toNat := v.gridTo_length W _
theorem V.gridTo_succ (v : V) (W : Int) (k : Nat) : v.gridTo W (k + 1) = v.gridTo W k ++ [v.cell ((k : Int) % W) ((k : Int) / W)] := by simp [V.gridTo, List.range_succ]

/-- why a window may not be where it is in the view -/
def errAt (ws : List Win) (i : Nat) (o : Win) : Int :=
  if o.key < 1 ∨ 999 < o.key ∨ (ws.take i).any (fun q => q.key == o.key) = true then 4
  else if o.x < -99 ∨ 99 < o.x ∨ o.y < -99 ∨ 99 < o.y ∨ o.w < 1 ∨ 99 < o.w ∨ o.h < 1 ∨ 99 < o.h then 5
  else if o.layer < -9 ∨ 9 < o.layer ∨ o.style < 0 ∨ 15 < o.style then 6
  else if 400 < o.text.size then 7
  else 0
theorem errAt_ok {ws : List Win} {i : Nat} {o : Win} (h : errAt ws i o = 0) : o.Ok ∧ (ws.take i).any (fun q => q.key == o.key) = false := by
  unfold errAt at h
  split at h
  · cases h
  · rename_i h1
    split at h
    · cases h
    · rename_i h2
      split at h
      · cases h
      · rename_i h3
        split at h
        · cases h
        · rename_i h4
          have h5 : ¬ ((ws.take i).any (fun q => q.key == o.key) = true) := fun e => h1 (.inr (.inr e))
          refine ⟨⟨?_, ?_, ?_, ?_, ?_, ?_, ?_, ?_, ?_, ?_, ?_, ?_, ?_, ?_, ?_⟩, by simpa using h5⟩ <;> omega
/-- the error of the first of these windows that has one, from the i-th on -/
def errFrom (ws : List Win) (i : Nat) : List Win → Int
  | [] => 0
  | o :: r => if errAt ws i o = 0 then errFrom ws (i + 1) r else errAt ws i o
def errV (ws : List Win) : Int := if 12 < ws.length then 3 else errFrom ws 0 ws
theorem errFrom_drop (ws : List Win) : ∀ (r : List Win) (i : Nat), ws.drop i = r → errFrom ws i r = 0 → ∀ (j : Nat) (o : Win), i ≤ j → ws[j]? = some o → errAt ws j o = 0 := by
  intro r
  induction r with
  | nil =>
    intro i h _ j o hj ho
    have := List.drop_eq_nil_iff.1 h
    rw [List.getElem?_eq_none (by omega)] at ho; cases ho
  | cons p r ih =>
    intro i h he j o hj ho
    have hi : i < ws.length := by
      rcases Nat.lt_or_ge i ws.length with e | e
      · exact e
      · rw [List.drop_eq_nil_of_le e] at h; cases h
    rw [List.drop_eq_getElem_cons hi] at h
    injection h with h1 h2
    unfold errFrom at he
    split at he
    · rename_i h0
      rcases Nat.lt_or_ge i j with e | e
      · exact ih (i + 1) h2 he j o (by omega) ho
      · have : j = i := by omega
        subst this
        rw [List.getElem?_eq_getElem hi] at ho
        simp at ho; subst ho; rw [h1]; exact h0
    · rename_i h0; exact absurd he h0
theorem errV_ok {ws : List Win} (h : errV ws = 0) : ws.length ≤ 12 ∧ ∀ (j : Nat) (o : Win), ws[j]? = some o → errAt ws j o = 0 := by
  unfold errV at h
  split at h
  · cases h
  · exact ⟨by omega, fun j o ho => errFrom_drop ws ws 0 rfl h j o (by omega) ho⟩

/-- the offset that the view has for a key -/
def V.offOf : V → Int → Int
  | [], _ => 0
  | (o, n) :: v, key => if o.key = key then n else V.offOf v key
/-- the view that comes behind -/
def V.next (v : V) (ws : List Win) : V := ws.map fun o => (o, o.fits (v.offOf o.key))
/-- a view of windows that may be, no two of one key -/
structure V.Ok (v : V) : Prop where
  n : v.length ≤ 12
  ok : ∀ p ∈ v, p.1.Ok ∧ 0 ≤ p.2 ∧ p.2 ≤ 401
  keys : ∀ (i j : Nat) p q, v[i]? = some p → v[j]? = some q → i < j → p.1.key ≠ q.1.key
theorem V.ok_nil : V.Ok [] := ⟨by simp, by simp, by simp⟩
theorem V.ok_next (v : V) {ws : List Win} (h : errV ws = 0) : (v.next ws).Ok := by
  obtain ⟨h1, h2⟩ := errV_ok h
  refine ⟨by simpa [V.next] using h1, ?_, ?_⟩
  · intro p hp
    obtain ⟨o, ho, rfl⟩ := List.mem_map.1 hp
    obtain ⟨j, hj⟩ := List.getElem?_of_mem ho
    have := (errAt_ok (h2 j o hj)).1
    exact ⟨this, o.fits_bd this _⟩
  · intro i j p q hp hq hij
    simp only [V.next, List.getElem?_map, Option.map_eq_some_iff] at hp hq
    obtain ⟨a, ha, rfl⟩ := hp
    obtain ⟨b, hb, rfl⟩ := hq
    have := (errAt_ok (h2 j b hb)).2
    intro he
    simp only at he
    have hm : a ∈ ws.take j := by
      rw [List.mem_iff_getElem?]
      exact ⟨i, by rw [List.getElem?_take_of_lt hij]; exact ha⟩
    have := List.any_eq_false.1 this a hm
    simp [he] at this
/-- the place of the window with this key -/
def V.idx : V → Int → Option Nat
  | [], _ => none
  | (o, _) :: v, key => if o.key = key then some 0 else (V.idx v key).map (· + 1)
theorem V.idx_lt {v : V} {key : Int} {i : Nat} (h : v.idx key = some i) : i < v.length := by
  induction v generalizing i with
  | nil => simp [V.idx] at h
  | cons p v ih =>
    obtain ⟨o, n⟩ := p
    simp only [V.idx] at h
    split at h
    · simp at h; subst h; simp
    · simp only [Option.map_eq_some_iff] at h
      obtain ⟨j, hj, rfl⟩ := h
      have := ih hj
      simp; omega
def V.put (v : V) (i : Nat) (n : Int) : V := v.set i ((v.at i).1, n)
/-- the view when a window has been scrolled -/
def V.scroll (v : V) (i : Nat) (by' : Int) : V := v.put i ((v.at i).1.fits ((v.at i).2 + by'))
theorem V.at_eq {v : V} {i : Nat} {p : Win × Int} (h : v[i]? = some p) : v.at i = p := by simp [V.at, List.getD_eq_getElem?_getD, h]
theorem V.at_some {v : V} {i : Nat} (h : i < v.length) : v[i]? = some (v.at i) := by simp [V.at, List.getD_eq_getElem?_getD, h]
theorem V.Ok.at {v : V} (h : v.Ok) {i : Nat} (hi : i < v.length) : (v.at i).1.Ok ∧ 0 ≤ (v.at i).2 ∧ (v.at i).2 ≤ 401 := h.ok _ (List.mem_of_getElem? (V.at_some hi))
theorem V.ok_scroll {v : V} (h : v.Ok) (i : Nat) (hi : i < v.length) (n : Int) : (v.scroll i n).Ok := by
  have ha := h.at hi
  have get : ∀ (j : Nat) p, (v.scroll i n)[j]? = some p → ∃ q, v[j]? = some q ∧ q.1 = p.1 ∧ 0 ≤ p.2 ∧ p.2 ≤ 401 := by
    intro j p hp
    unfold V.scroll V.put at hp
    by_cases e : j = i
    · subst e
      rw [List.getElem?_set_self hi] at hp
      simp at hp; subst hp
      exact ⟨_, V.at_some hi, rfl, Win.fits_bd _ ha.1 _⟩
    · rw [List.getElem?_set_ne (fun q => e q.symm)] at hp
      exact ⟨p, hp, rfl, (h.ok p (List.mem_of_getElem? hp)).2⟩
  refine ⟨by simpa [V.scroll, V.put] using h.n, ?_, ?_⟩
  · intro p hp
    obtain ⟨j, hj⟩ := List.getElem?_of_mem hp
    obtain ⟨q, h1, h2, h3⟩ := get j p hj
    exact ⟨h2 ▸ (h.ok q (List.mem_of_getElem? h1)).1, h3⟩
  · intro a b p q hp hq hab
    obtain ⟨p', h1, h2, _⟩ := get a p hp
    obtain ⟨q', h3, h4, _⟩ := get b q hq
    rw [← h2, ← h4]
    exact h.keys a b p' q' h1 h3 hab
end Go.Proofs.YtjhccghhinlmdabGreatDoor
/- Package views' check: why a list of windows is no view. -/
namespace Go.Proofs.YtjhccghhinlmdabGreatDoor
open Go.RowKit

/-- windows lie one behind the other -/
structure WCells (w : World) (b c : Nat) (o : Win) : Prop where
  c0 : w.cell? ⟨b, c, none⟩ = some (.int .i64 o.key)
  c1 : w.cell? ⟨b, c + 1, none⟩ = some (.int .i64 o.x)
  c2 : w.cell? ⟨b, c + 2, none⟩ = some (.int .i64 o.y)
  c3 : w.cell? ⟨b, c + 3, none⟩ = some (.int .i64 o.w)
  c4 : w.cell? ⟨b, c + 4, none⟩ = some (.int .i64 o.h)
  c5 : w.cell? ⟨b, c + 5, none⟩ = some (.int .i64 o.layer)
  c6 : w.cell? ⟨b, c + 6, none⟩ = some (.int .i64 o.style)
  c7 : w.cell? ⟨b, c + 7, none⟩ = some (.string o.text)
def WinsAt (w : World) (av : Option Addr) (ws : List Win) : Prop := ∀ (i : Nat) o, ws[i]? = some o → ∃ b off, av = some ⟨b, off, none⟩ ∧ WCells w b (off + i * 8) o
theorem WCells.fr {w w' : World} {S : List Nat} {b c : Nat} {o : Win} (h : WCells w b c o) (f : Fr S w w') (hn : b ∉ S) : WCells w' b c o := by
  have k : ∀ {off : Nat} {v : Value}, w.cell? ⟨b, off, none⟩ = some v → w'.cell? ⟨b, off, none⟩ = some v := by
    intro off v hq
    rw [← hq]; exact World.cell?_of_block (w := w) (f.block b (World.block_lt_of_cell? w _ hq) hn)
  exact ⟨k h.c0, k h.c1, k h.c2, k h.c3, k h.c4, k h.c5, k h.c6, k h.c7⟩
theorem WinsAt.fr {w w' : World} {S : List Nat} {av : Option Addr} {ws : List Win} (h : WinsAt w av ws) (f : Fr S w w') (hn : ∀ a, av = some a → a.block ∉ S) : WinsAt w' av ws := by
  intro i o ho
  obtain ⟨b, off, rfl, c⟩ := h i o ho
  exact ⟨b, off, rfl, c.fr f (hn _ rfl)⟩
theorem WinsAt.take {w : World} {av : Option Addr} {ws : List Win} (h : WinsAt w av ws) (n : Nat) : WinsAt w av (ws.take n) := by
  intro i o ho
  refine h i o ?_
  rw [List.getElem?_take] at ho
  split at ho
  · exact ho
  · cases ho

set_option maxHeartbeats 1000000 in
set_option maxRecDepth 100000 in
theorem taken_any (key : Int) (av : Option Addr) (ws : List Win) (cap n : Nat) (w : World) (h : WinsAt w av ws) (hl : ws.length ≤ 1000) (hn : ws.length = n) :
    Calls Tryz.prog 112 #[.int .i64 key, .slice av n cap] w fun e w' => e = .returned (.bool (ws.any fun q => q.key == key)) ∧ w = w' := by
  subst hn
  have H := hide h
  clear h
  go_enter Tryz.func112, Tryz.ntmps112
  go_wp2
  go_loopw [5] (fun i wr => ∃ k : Nat, i = .int .i64 k ∧ k ≤ ws.length ∧ w = wr ∧ (ws.take k).any (fun q => q.key == key) = false) (fun i _ => (3000 - intOf i).toNat)
  case atStart => exact ⟨0, rfl, by omega, rfl, by simp⟩
  case round =>
    obtain ⟨k, rfl, hk, rfl, hno⟩ := hrel
    by_cases hend : k < ws.length
    · obtain ⟨o, ho⟩ : ∃ o, ws[k]? = some o := ⟨_, List.getElem?_eq_getElem hend⟩
      obtain ⟨b, off, rfl, C⟩ := H.out k o ho
      have c0 := C.c0
      have ht : ws.take (k + 1) = ws.take k ++ [o] := by rw [List.take_add_one, ho]; rfl
      by_cases hq : o.key = key
      · have E : Hid (ws.any (fun q => q.key == key) = true) := by
          refine List.any_eq_true.2 ⟨o, List.mem_of_getElem? ho, by simp [hq]⟩
        have bq : (o.key == key) = true := by simpa using hq
        clear ht C H hq hno
        go_wp2
        go_ret
        exact ⟨ret_bool E.out.symm, rfl⟩
      · have E : Hid ((ws.take (k + 1)).any (fun q => q.key == key) = false) := by
          show _ = _; rw [ht, List.any_append, hno]; simpa using hq
        have bq : (o.key == key) = false := by simpa using hq
        clear ht C H hq hno
        go_wp2
        go_roundw
        case rel => exact ⟨k + 1, by go_num, by omega, by trivial, E.out⟩
        case measure => simp [intOf]; omega
    · have E : Hid (ws.any (fun q => q.key == key) = false) := by
        rw [List.take_of_length_le (by omega)] at hno; exact hno
      clear hno
      go_wp2
      go_ret
      exact ⟨ret_bool E.out.symm, rfl⟩

/-- is it where it may be? -/
def Win.placed (o : Win) : Bool := !decide (o.x < -99 ∨ 99 < o.x ∨ o.y < -99 ∨ 99 < o.y ∨ o.w < 1 ∨ 99 < o.w ∨ o.h < 1 ∨ 99 < o.h)
def Win.styled (o : Win) : Bool := !decide (o.layer < -9 ∨ 9 < o.layer ∨ o.style < 0 ∨ 15 < o.style)

set_option maxHeartbeats 1000000 in
set_option maxRecDepth 100000 in
theorem placed_any (o : Win) (w : World) :
    Calls Tryz.prog 113 #[.agg #[.int .i64 o.key, .int .i64 o.x, .int .i64 o.y, .int .i64 o.w, .int .i64 o.h, .int .i64 o.layer, .int .i64 o.style, .string o.text]] w fun e w' => e = .returned (.bool o.placed) ∧ Fr [] w w' := by
  have HP : Hid (o.placed = !decide (o.x < -99 ∨ 99 < o.x ∨ o.y < -99 ∨ 99 < o.y ∨ o.w < 1 ∨ 99 < o.w ∨ o.h < 1 ∨ 99 < o.h)) := rfl
  go_enter Tryz.func113, Tryz.ntmps113
  go_wp2
  all_goals go_ret
  all_goals exact ⟨ret_bool (by rw [HP.out, Bool.eq_iff_iff]; simp; try omega), (Fr.refl _ _).alloc _⟩
set_option maxHeartbeats 1000000 in
set_option maxRecDepth 100000 in
theorem styled_any (o : Win) (w : World) :
    Calls Tryz.prog 114 #[.agg #[.int .i64 o.key, .int .i64 o.x, .int .i64 o.y, .int .i64 o.w, .int .i64 o.h, .int .i64 o.layer, .int .i64 o.style, .string o.text]] w fun e w' => e = .returned (.bool o.styled) ∧ Fr [] w w' := by
  have HP : Hid (o.styled = !decide (o.layer < -9 ∨ 9 < o.layer ∨ o.style < 0 ∨ 15 < o.style)) := rfl
  go_enter Tryz.func114, Tryz.ntmps114
  go_wp2
  all_goals go_ret
  all_goals exact ⟨ret_bool (by rw [HP.out, Bool.eq_iff_iff]; simp; try omega), (Fr.refl _ _).alloc _⟩

def Win.vals (o : Win) : List Value := [.int .i64 o.key, .int .i64 o.x, .int .i64 o.y, .int .i64 o.w, .int .i64 o.h, .int .i64 o.layer, .int .i64 o.style, .string o.text]
theorem errAt_eq (ws : List Win) (i : Nat) (o : Win) : errAt ws i o = if o.key < 1 ∨ 999 < o.key ∨ (ws.take i).any (fun q => q.key == o.key) = true then 4 else if o.placed = false then 5 else if o.styled = false then 6 else if 400 < o.text.size then 7 else 0 := by
  unfold errAt Win.placed Win.styled
  simp only [Bool.not_eq_false', decide_eq_true_eq]

set_option maxHeartbeats 2000000 in
set_option maxRecDepth 100000 in
theorem checkWindow_any (ws : List Win) (i : Nat) (o : Win) (av : Option Addr) (n cap : Nat) (w : World) (h : WinsAt w av (ws.take i)) (hn : (ws.take i).length = n) (hl : n ≤ 1000) (hsz : o.text.size ≤ 9223372036854775807) :
    Calls Tryz.prog 103 #[.agg #[.int .i64 o.key, .int .i64 o.x, .int .i64 o.y, .int .i64 o.w, .int .i64 o.h, .int .i64 o.layer, .int .i64 o.style, .string o.text], .slice av n cap] w fun e w' => e = .returned (.int .i64 (errAt ws i o)) ∧ Fr [] w w' := by
  have HE := hide (errAt_eq ws i o)
  have FA : Hid (Fr [] w (w.alloc (.cells #[.int .i64 o.key, .int .i64 o.x, .int .i64 o.y, .int .i64 o.w, .int .i64 o.h, .int .i64 o.layer, .int .i64 o.style, .string o.text] 104))) := (Fr.refl _ _).alloc _
  have BA : Hid (Blk (w.alloc (.cells #[.int .i64 o.key, .int .i64 o.x, .int .i64 o.y, .int .i64 o.w, .int .i64 o.h, .int .i64 o.layer, .int .i64 o.style, .string o.text] 104)) w.heap.size o.vals 104) := Blk.new _ _ _
  have HT := hide (taken_any o.key av (ws.take i) cap n _ (h.fr FA.out (by simp)) (by omega) hn)
  clear h hn
  by_cases h1 : o.key < 1
  · have E : Hid (errAt ws i o = 4) := by show _ = _; rw [HE.out, if_pos (.inl h1)]
    go_enter Tryz.func103, Tryz.ntmps103
    go_wp2
    go_ret
    exact ⟨ret_int E.out.symm, FA.out⟩
  by_cases h2 : 999 < o.key
  · have E : Hid (errAt ws i o = 4) := by show _ = _; rw [HE.out, if_pos (.inr (.inl h2))]
    go_enter Tryz.func103, Tryz.ntmps103
    go_wp2
    go_ret
    exact ⟨ret_int E.out.symm, FA.out⟩
  by_cases h3 : (ws.take i).any (fun q => q.key == o.key) = true
  · have E : Hid (errAt ws i o = 4) := by show _ = _; rw [HE.out, if_pos (.inr (.inr h3))]
    rw [h3] at HT
    clear h3
    go_enter Tryz.func103, Tryz.ntmps103
    go_wp2_with (go_at_call 112; refine HT.out.mono ?_; rintro e w' ⟨rfl, rfl⟩)
    go_ret
    exact ⟨ret_int E.out.symm, FA.out⟩
  have h3' : (ws.take i).any (fun q => q.key == o.key) = false := by simpa using h3
  have E1 : Hid (errAt ws i o = if o.placed = false then 5 else if o.styled = false then 6 else if 400 < o.text.size then 7 else 0) := by
    show _ = _; rw [HE.out, if_neg (fun h => h.elim h1 (fun h => h.elim h2 h3))]
  rw [h3'] at HT
  clear h3 h3' HE
  have HP := hide (placed_any o (w.alloc (.cells #[.int .i64 o.key, .int .i64 o.x, .int .i64 o.y, .int .i64 o.w, .int .i64 o.h, .int .i64 o.layer, .int .i64 o.style, .string o.text] 104)))
  by_cases h4 : o.placed = false
  · have E : Hid (errAt ws i o = 5) := by show _ = _; rw [E1.out, if_pos h4]
    rw [h4] at HP
    clear E1 h4
    go_enter Tryz.func103, Tryz.ntmps103
    go_wp2_with (first | (go_at_call 112; refine HT.out.mono ?_; rintro e w' ⟨rfl, rfl⟩) | (go_at_call 113; refine HP.out.mono ?_; rintro e w1 ⟨rfl, f1⟩))
    go_ret
    exact ⟨ret_int E.out.symm, FA.out.then f1⟩
  have h4' : o.placed = true := by simpa using h4
  have E2 : Hid (errAt ws i o = if o.styled = false then 6 else if 400 < o.text.size then 7 else 0) := by show _ = _; rw [E1.out, if_neg h4]
  rw [h4'] at HP
  clear h4 h4' E1
  go_enter Tryz.func103, Tryz.ntmps103
  go_upto_region 3 with (go_at_call 112; refine HT.out.mono ?_; rintro e w' ⟨rfl, rfl⟩)
  go_wp2_with fail
  refine HP.out.mono ?_
  rintro e w1 ⟨rfl, f1⟩
  have B1 := hide (BA.out.fr0 f1)
  have F1 := hide (FA.out.then f1)
  have c0 : w1.cell? ⟨w.heap.size, 0, none⟩ = some (.int .i64 o.key) := B1.out.cell 0
  have c1 : w1.cell? ⟨w.heap.size, 1, none⟩ = some (.int .i64 o.x) := B1.out.cell 1
  have c2 : w1.cell? ⟨w.heap.size, 2, none⟩ = some (.int .i64 o.y) := B1.out.cell 2
  have c3 : w1.cell? ⟨w.heap.size, 3, none⟩ = some (.int .i64 o.w) := B1.out.cell 3
  have c4 : w1.cell? ⟨w.heap.size, 4, none⟩ = some (.int .i64 o.h) := B1.out.cell 4
  have c5 : w1.cell? ⟨w.heap.size, 5, none⟩ = some (.int .i64 o.layer) := B1.out.cell 5
  have c6 : w1.cell? ⟨w.heap.size, 6, none⟩ = some (.int .i64 o.style) := B1.out.cell 6
  have c7 : w1.cell? ⟨w.heap.size, 7, none⟩ = some (.string o.text) := B1.out.cell 7
  clear f1 HP HT FA BA
  go_wp2_with fail
  refine (styled_any o w1).mono ?_
  rintro e w2 ⟨rfl, f2⟩
  have d7 : w2.cell? ⟨w.heap.size, 7, none⟩ = some (.string o.text) := (B1.out.fr0 f2).cell 7
  have F2 := hide (F1.out.then f2)
  clear f2 c0 c1 c2 c3 c4 c5 c6 c7 B1
  by_cases h5 : o.styled = false
  · have E : Hid (errAt ws i o = 6) := by show _ = _; rw [E2.out, if_pos h5]
    rw [h5]
    clear h5 E2
    go_wp2
    go_ret
    exact ⟨ret_int E.out.symm, F2.out⟩
  have h5' : o.styled = true := by simpa using h5
  rw [h5']
  have E3 : Hid (errAt ws i o = if 400 < o.text.size then 7 else 0) := by show _ = _; rw [E2.out, if_neg h5]
  clear h5 h5' E2
  by_cases h6 : 400 < o.text.size
  · have E : Hid (errAt ws i o = 7) := by show _ = _; rw [E3.out, if_pos h6]
    go_wp2
    go_ret
    exact ⟨ret_int E.out.symm, F2.out⟩
  · have E : Hid (errAt ws i o = 0) := by show _ = _; rw [E3.out, if_neg h6]
    go_wp2
    go_ret
    exact ⟨ret_int E.out.symm, F2.out⟩

theorem errFrom_step (ws : List Win) (k : Nat) (o : Win) (h : ws[k]? = some o) : errFrom ws k (ws.drop k) = if errAt ws k o = 0 then errFrom ws (k + 1) (ws.drop (k + 1)) else errAt ws k o := by
  have hk : k < ws.length := (List.getElem?_eq_some_iff.1 h).1
  rw [List.drop_eq_getElem_cons hk]
  rw [List.getElem?_eq_getElem hk] at h
  simp at h
  rw [h]
  rfl

set_option maxHeartbeats 2000000 in
set_option maxRecDepth 100000 in
theorem check_any (ws : List Win) (av : Option Addr) (n cap : Nat) (w : World) (h : WinsAt w av ws) (hn : ws.length = n) (hcap : n ≤ cap) (hl : n ≤ 9223372036854775807) (hsz : ∀ o ∈ ws, o.text.size ≤ 9223372036854775807) :
    Calls Tryz.prog 87 #[.slice av n cap] w fun e w' => e = .returned (.int .i64 (errV ws)) ∧ Fr [] w w' := by
  subst hn
  by_cases h12 : 12 < ws.length
  · have E : Hid (errV ws = 3) := by show _ = _; unfold errV; rw [if_pos h12]
    clear h
    go_enter Tryz.func87, Tryz.ntmps87
    go_wp2
    go_ret
    exact ⟨ret_int E.out.symm, Fr.refl _ _⟩
  have E : Hid (errV ws = errFrom ws 0 ws) := by show _ = _; unfold errV; rw [if_neg h12]
  have H := hide h
  have HS := hide hsz
  clear h hsz
  go_enter Tryz.func87, Tryz.ntmps87
  go_wp2
  go_loopw [3] (fun i wr => ∃ k : Nat, i = .int .i64 k ∧ k ≤ ws.length ∧ Fr [] w wr ∧ errV ws = errFrom ws k (ws.drop k)) (fun i _ => (3000 - intOf i).toNat)
  case atStart => exact ⟨0, rfl, by omega, Fr.refl _ _, E.out⟩
  case round =>
    obtain ⟨k, rfl, hk, f, he⟩ := hrel
    by_cases hend : k < ws.length
    · obtain ⟨o, ho⟩ : ∃ o, ws[k]? = some o := ⟨_, List.getElem?_eq_getElem hend⟩
      have hw := H.out.fr f (by simp)
      obtain ⟨b, off, rfl, C⟩ := hw k o ho
      obtain ⟨c0, c1, c2, c3, c4, c5, c6, c7⟩ := C
      have ST := hide (errFrom_step ws k o ho)
      rw [← he] at ST
      have CW : Hid (∀ w', Fr [] wr w' → Calls Tryz.prog 103 #[.agg #[.int .i64 o.key, .int .i64 o.x, .int .i64 o.y, .int .i64 o.w, .int .i64 o.h, .int .i64 o.layer, .int .i64 o.style, .string o.text], .slice (some ⟨b, off, none⟩) k cap] w' fun e w'' => e = .returned (.int .i64 (errAt ws k o)) ∧ Fr [] w' w'') := by
        intro w' f'
        exact checkWindow_any ws k o _ k cap w' ((hw.take k).fr f' (by simp)) (by simp; omega) (by omega) (HS.out o (List.mem_of_getElem? ho))
      have blt : b < wr.heap.size := World.block_lt_of_cell? wr _ c0
      have b1 : (k : Int) < ws.length := by omega
      have b2 : (k : Int) ≤ cap := by omega
      clear hw H HS he ho
      by_cases hz : errAt ws k o = 0
      · rw [hz] at CW
        rw [if_pos hz] at ST
        clear hz
        go_wp2
        go_region_with ((go_at_call 103; refine (CW.out _ ?hf).mono ?_; (case hf => (repeat first | exact Fr.refl _ _ | apply Fr.drew | apply Fr.drewN)); rintro e w1 ⟨rfl, f1⟩; have F1 : Hid (Fr [] w w1) := (f.drew).then f1; clear f1))
        all_goals go_wp2
        all_goals
          go_roundw
          case rel => exact ⟨k + 1, by go_num, by omega, F1.out, ST.out⟩
          case measure => simp [intOf]; omega
      · rw [if_neg hz] at ST
        have bz : (errAt ws k o == 0) = false := by simpa using hz
        clear hz
        generalize errAt ws k o = er at *
        go_wp2
        go_region_with ((go_at_call 103; refine (CW.out _ ?hf).mono ?_; (case hf => (repeat first | exact Fr.refl _ _ | apply Fr.drew | apply Fr.drewN)); rintro e w1 ⟨rfl, f1⟩; have F1 : Hid (Fr [] w w1) := (f.drew).then f1; clear f1))
        all_goals go_wp2
        all_goals
          go_ret
          exact ⟨ret_int ST.out.symm, F1.out⟩
    · have E2 : Hid (errV ws = 0) := by
        rw [List.drop_eq_nil_of_le (by omega)] at he; exact he
      go_wp2
      go_ret
      exact ⟨ret_int E2.out.symm, f⟩
end Go.Proofs.YtjhccghhinlmdabGreatDoor
/- A window as it comes in: its eight cells. -/
namespace Go.Proofs.YtjhccghhinlmdabGreatDoor
open Go.ChangeShapes Go.WideShapes Go.ChangeAt Go.RowKit Go.Deep

theorem laidOut' : laidOutB Tryz.prog = true := by kernel_rfl
theorem cells_window : Tryz.prog.cellsOf 104 = 8 := by kernel_rfl
theorem cells_int' : Tryz.prog.cellsOf 3 = 1 := by kernel_rfl
theorem cells_str' : Tryz.prog.cellsOf 9 = 1 := by kernel_rfl
theorem eight {α : Type} (l : List α) (h : l.length = 8) : ∃ a b c d e f g i, l = [a, b, c, d, e, f, g, i] := by
  match l, h with
  | [a, b, c, d, e, f, g, i], _ => exact ⟨a, b, c, d, e, f, g, i, rfl⟩
theorem int_bd {n : Int} (h : (Lit.int .i64 n).wf = true) : -9223372036854775808 ≤ n ∧ n ≤ 9223372036854775807 := by
  simpa [Lit.wf, IntKind.min, IntKind.max, IntKind.signed, IntKind.bits] using h

/-- a window whose numbers lie in the machine's range -/
structure Win.Wf (o : Win) : Prop where
  k : -9223372036854775808 ≤ o.key ∧ o.key ≤ 9223372036854775807
  x : -9223372036854775808 ≤ o.x ∧ o.x ≤ 9223372036854775807
  y : -9223372036854775808 ≤ o.y ∧ o.y ≤ 9223372036854775807
  w : -9223372036854775808 ≤ o.w ∧ o.w ≤ 9223372036854775807
  h : -9223372036854775808 ≤ o.h ∧ o.h ≤ 9223372036854775807
  l : -9223372036854775808 ≤ o.layer ∧ o.layer ≤ 9223372036854775807
  s : -9223372036854775808 ≤ o.style ∧ o.style ≤ 9223372036854775807

theorem win_cells {H : Type} {enc : TypeId × Value → H} {w : World} {spare : Nat → Bool} {held : Bool} {fuel : Nat} {cs : List Value} {y : DataW H × List MemPlace} (h : DataW.trod enc Tryz.prog w 0 spare held fuel 104 cs = some y) :
    ∃ o : Win, cs = o.vals ∧ o.Wf ∧ y.1 = .agg [.lit (.int .i64 o.key), .lit (.int .i64 o.x), .lit (.int .i64 o.y), .lit (.int .i64 o.w), .lit (.int .i64 o.h), .lit (.int .i64 o.layer), .lit (.int .i64 o.style), .lit (.string o.text.data.toList)] := by
  obtain ⟨xs, m, rfl, hy, hl, hxl, hf⟩ := DataW.trod_struct Tryz.underlying104 h
  rw [cells_window] at hl
  obtain ⟨c0, c1, c2, c3, c4, c5, c6, c7, rfl⟩ := eight cs hl
  obtain ⟨y0, y1, y2, y3, y4, y5, y6, y7, rfl⟩ := eight xs hxl
  have g0 := hf 0 _ rfl
  have g1 := hf 1 _ rfl
  have g2 := hf 2 _ rfl
  have g3 := hf 3 _ rfl
  have g4 := hf 4 _ rfl
  have g5 := hf 5 _ rfl
  have g6 := hf 6 _ rfl
  have g7 := hf 7 _ rfl
  simp [cells_int', cells_str'] at g0 g1 g2 g3 g4 g5 g6 g7
  obtain ⟨a0, e0, z0, w0⟩ := DataW.trod_int Tryz.underlying3 g0
  obtain ⟨a1, e1, z1, w1⟩ := DataW.trod_int Tryz.underlying3 g1
  obtain ⟨a2, e2, z2, w2⟩ := DataW.trod_int Tryz.underlying3 g2
  obtain ⟨a3, e3, z3, w3⟩ := DataW.trod_int Tryz.underlying3 g3
  obtain ⟨a4, e4, z4, w4⟩ := DataW.trod_int Tryz.underlying3 g4
  obtain ⟨a5, e5, z5, w5⟩ := DataW.trod_int Tryz.underlying3 g5
  obtain ⟨a6, e6, z6, w6⟩ := DataW.trod_int Tryz.underlying3 g6
  obtain ⟨s, e7, z7, _⟩ := DataW.trod_string Tryz.underlying9 g7
  simp only [List.cons.injEq, and_true] at e0 e1 e2 e3 e4 e5 e6 e7
  subst e0 e1 e2 e3 e4 e5 e6 e7
  refine ⟨⟨a0, a1, a2, a3, a4, a5, a6, s⟩, rfl, ⟨int_bd w0, int_bd w1, int_bd w2, int_bd w3, int_bd w4, int_bd w5, int_bd w6⟩, ?_⟩
  rw [hy, z0, z1, z2, z3, z4, z5, z6, z7]
  rfl
/-- the text of a window that comes in by value -/
theorem sized_win {H : Type} {ts : List TypeId} {ds : List (DataW H)} (h : (DataW.weightsEach Tryz.prog ts ds).all (· ≤ reachBytes) = true) {j : Nat} {o : Win} (ht : ts[j]? = some 104)
    (hd : ds[j]? = some (.agg [.lit (.int .i64 o.key), .lit (.int .i64 o.x), .lit (.int .i64 o.y), .lit (.int .i64 o.w), .lit (.int .i64 o.h), .lit (.int .i64 o.layer), .lit (.int .i64 o.style), .lit (.string o.text.data.toList)])) : o.text.size ≤ 140737488351232 := by
  have := List.all_eq_true.1 h _ (DataW.weights_mem_each ht hd o.text.data.toList.length (by simp [DataW.weights, Tryz.underlying104, DataW.weightsEach]))
  have h2 : o.text.data.toList.length ≤ reachBytes := by simpa using this
  rw [Array.length_toList] at h2
  exact h2
set_option maxRecDepth 100000 in
/-- a window by value -/
theorem win_arg {H : Type} {enc : TypeId × Value → H} {w : World} {base : Nat} {r : Reach} {v : Value} {d : DataW H} {p : List MemPlace} (hok : Value.okWide Tryz.prog w r base 104 v) (h : DataW.Trod enc Tryz.prog w 0 (fun _ => true) true 104 v d p) :
    ∃ o : Win, v = .agg #[.int .i64 o.key, .int .i64 o.x, .int .i64 o.y, .int .i64 o.w, .int .i64 o.h, .int .i64 o.layer, .int .i64 o.style, .string o.text] ∧ o.Wf ∧ d = .agg [.lit (.int .i64 o.key), .lit (.int .i64 o.x), .lit (.int .i64 o.y), .lit (.int .i64 o.w), .lit (.int .i64 o.h), .lit (.int .i64 o.layer), .lit (.int .i64 o.style), .lit (.string o.text.data.toList)] := by
  obtain ⟨cs, rfl, _⟩ := okWide_struct Tryz.underlying104 hok
  obtain ⟨fuel, hf⟩ := h
  obtain ⟨o, h1, h2, h3⟩ := win_cells hf
  refine ⟨o, ?_, h2, h3⟩
  have : cs.toList = o.vals := by simpa [Value.cells] using h1
  congr 1
  rw [← Array.toArray_toList (xs := cs), this]
  rfl
end Go.Proofs.YtjhccghhinlmdabGreatDoor
/- A list of windows as it comes in. -/
namespace Go.Proofs.YtjhccghhinlmdabGreatDoor
open Go.ChangeShapes Go.WideShapes Go.ChangeAt Go.RowKit Go.Deep

def Win.datum {H : Type} (o : Win) : DataW H := .agg [.lit (.int .i64 o.key), .lit (.int .i64 o.x), .lit (.int .i64 o.y), .lit (.int .i64 o.w), .lit (.int .i64 o.h), .lit (.int .i64 o.layer), .lit (.int .i64 o.style), .lit (.string o.text.data.toList)]
theorem list_of {α : Type} (P : Nat → α → Prop) : ∀ n : Nat, (∀ i, i < n → ∃ x, P i x) → ∃ l : List α, l.length = n ∧ ∀ i x, l[i]? = some x → P i x
  | 0, _ => ⟨[], rfl, by simp⟩
  | n + 1, h => by
    obtain ⟨l, h1, h2⟩ := list_of P n (fun i hi => h i (by omega))
    obtain ⟨x, hx⟩ := h n (by omega)
    refine ⟨l ++ [x], by simp [h1], ?_⟩
    intro i y hy
    rcases Nat.lt_or_ge i n with e | e
    · rw [List.getElem?_append_left (by omega)] at hy; exact h2 i y hy
    · rw [List.getElem?_append_right (by omega)] at hy
      have : i - l.length = 0 := by
        rcases Nat.eq_zero_or_pos (i - l.length) with q | q
        · exact q
        · rw [List.getElem?_eq_none (by simp; omega)] at hy; cases hy
      rw [this] at hy; simp at hy; subst hy
      have : i = n := by omega
      subst this; exact hx

/-- a list of windows lies there as windows -/
theorem wins_open {H : Type} {enc : TypeId × Value → H} {w : World} {fuel : Nat} {a0 : Option Addr} {len cap : Nat} {y : DataW H × List MemPlace} (h : DataW.trod enc Tryz.prog w 0 (fun _ => true) true fuel 30 [.slice a0 len cap] = some y) :
    ∃ ws : List Win, ws.length = len ∧ WinsAt w a0 ws ∧ (∀ o ∈ ws, o.Wf) ∧ len ≤ cap ∧ ((y.1 = .nil ∧ ws = []) ∨ ∃ spare, y.1 = .slice (ws.map Win.datum) spare) := by
  rcases open_slice Tryz.underlying30 h with ⟨hcs, hx⟩ | ⟨a, len', cap', m, n, D, Pl, hcs, _, hl, hm, hmm, hx, hcell⟩
  · simp at hcs
    obtain ⟨rfl, rfl, rfl⟩ := hcs
    exact ⟨[], rfl, fun i o ho => by simp at ho, by simp, Nat.le_refl _, .inl ⟨by rw [hx], rfl⟩⟩
  · simp at hcs
    obtain ⟨rfl, rfl, rfl⟩ := hcs
    simp only [if_true] at hmm
    rw [cells_window] at hcell
    have each : ∀ i, i < len → ∃ o : Win, w.cells? 0 (a.add (i * 8)) 8 = some o.vals ∧ o.Wf ∧ D i = o.datum := by
      intro i hi
      obtain ⟨cs', h1, h2⟩ := hcell i (by omega)
      obtain ⟨o, rfl, h3, h4⟩ := win_cells h2
      exact ⟨o, h1, h3, h4⟩
    obtain ⟨ws, hw1, hw2⟩ := list_of _ len each
    obtain ⟨gb, off, spot⟩ := a
    refine ⟨ws, hw1, ?_, ?_, by omega, .inr ⟨(List.range (m - len)).map (fun j => D (len + j)), ?_⟩⟩
    · intro i o ho
      obtain ⟨h1, _, _⟩ := hw2 i o ho
      obtain ⟨_, _, hc⟩ := World.cells?_some h1
      have hspot : spot = none := by
        have hi : i < ws.length := (List.getElem?_eq_some_iff.1 ho).1
        obtain ⟨o0, ho0⟩ : ∃ o, ws[0]? = some o := ⟨_, List.getElem?_eq_getElem (by omega)⟩
        obtain ⟨_, _, hc0⟩ := World.cells?_some (hw2 0 o0 ho0).1
        have := hc0 0 (by show (0 : Nat) < 8; decide)
        simpa [Addr.add] using World.cell?_spot this
      subst hspot
      have hadd : ∀ x, (⟨gb, off, none⟩ : Addr).add x = ⟨gb, off + x, none⟩ := fun x => by unfold Addr.add; split <;> simp_all
      have hadd2 : ∀ x y, (⟨gb, off + x, none⟩ : Addr).add y = ⟨gb, off + x + y, none⟩ := fun x y => by unfold Addr.add; split <;> simp_all
      have c0 := hc 0 (by show (0 : Nat) < 8; decide)
      have c1 := hc 1 (by show (1 : Nat) < 8; decide)
      have c2 := hc 2 (by show (2 : Nat) < 8; decide)
      have c3 := hc 3 (by show (3 : Nat) < 8; decide)
      have c4 := hc 4 (by show (4 : Nat) < 8; decide)
      have c5 := hc 5 (by show (5 : Nat) < 8; decide)
      have c6 := hc 6 (by show (6 : Nat) < 8; decide)
      have c7 := hc 7 (by show (7 : Nat) < 8; decide)
      rw [hadd, hadd2] at c0 c1 c2 c3 c4 c5 c6 c7
      exact ⟨gb, off, rfl, c0, c1, c2, c3, c4, c5, c6, c7⟩
    · intro o ho
      obtain ⟨i, hi⟩ := List.getElem?_of_mem ho
      exact (hw2 i o hi).2.1
    · rw [hx]
      simp only
      congr 1
      apply List.ext_getElem?
      intro i
      rcases Nat.lt_or_ge i len with e | e
      · obtain ⟨o, ho⟩ : ∃ o, ws[i]? = some o := ⟨_, List.getElem?_eq_getElem (by omega)⟩
        rw [List.getElem?_map, List.getElem?_map, ho, List.getElem?_range e]
        simp [(hw2 i o ho).2.2]
      · rw [List.getElem?_eq_none (by simp; omega), List.getElem?_eq_none (by simp; omega)]

theorem weights_all {H : Type} {P : Program} {e : TypeId} : ∀ {l : List (DataW H)} {d : DataW H} {n : Nat}, d ∈ l → n ∈ d.weights P e → n ∈ DataW.weightsAll P e l
  | [], _, _, h, _ => by cases h
  | x :: l, d, n, h, hn => by
    simp only [DataW.weightsAll, List.mem_append]
    rcases List.mem_cons.1 h with rfl | h
    · exact .inl hn
    · exact .inr (weights_all h hn)
theorem bytes_window : Tryz.prog.bytesOf 104 = 72 := by kernel_rfl
/-- how great such a list and its texts are -/
theorem sized_wins {H : Type} {ts : List TypeId} {ds : List (DataW H)} (h : (DataW.weightsEach Tryz.prog ts ds).all (· ≤ reachBytes) = true) {j : Nat} {ws : List Win} {spare : List (DataW H)} (ht : ts[j]? = some 30)
    (hd : ds[j]? = some (.slice (ws.map Win.datum) spare)) : ws.length * 72 ≤ 140737488351232 ∧ ∀ o ∈ ws, o.text.size ≤ 140737488351232 := by
  constructor
  · have := sized_slice h ht hd Tryz.underlying30
    rw [bytes_window, List.length_map] at this
    have e : reachBytes = 140737488351232 := rfl
    rw [e, Nat.add_mul] at this
    omega
  · intro o ho
    have := List.all_eq_true.1 h _ (DataW.weights_mem_each ht hd o.text.data.toList.length (by
      simp only [DataW.weights, Tryz.underlying30, List.mem_cons, List.mem_append]
      refine .inr (.inl (weights_all (List.mem_map.2 ⟨o, ho, rfl⟩) ?_))
      simp [Win.datum, DataW.weights, Tryz.underlying104, DataW.weightsEach]))
    have h2 : o.text.data.toList.length ≤ reachBytes := by simpa using this
    rw [Array.length_toList] at h2
    exact h2
end Go.Proofs.YtjhccghhinlmdabGreatDoor
/- Package views' panes: a text cut in lines, what a pane has in a place. -/
namespace Go.Proofs.YtjhccghhinlmdabGreatDoor
open Go.RowKit

theorem info_string : (Tryz.prog.info? 9).map (fun i => (i.zero, i.size, i.bytes)) = some (some (.string ByteArray.empty), 1, 16) := by kernel_rfl

/-- lines lie one behind the other in block b -/
def LinesAt (w : World) (b : Nat) (ls : List ByteArray) : Prop := ∃ vs, Blk w b vs 9 ∧ ∀ (i : Nat) l, ls[i]? = some l → vs[i]? = some (.string l)
theorem LinesAt.fr {w w' : World} {S : List Nat} {b : Nat} {ls : List ByteArray} (h : LinesAt w b ls) (f : Fr S w w') (hn : b ∉ S) : LinesAt w' b ls := by
  obtain ⟨vs, h1, h2⟩ := h
  exact ⟨vs, h1.fr f hn, h2⟩
theorem LinesAt.cell {w : World} {b : Nat} {ls : List ByteArray} (h : LinesAt w b ls) {i : Nat} {l : ByteArray} (hi : ls[i]? = some l) : w.cell? ⟨b, i, none⟩ = some (.string l) := by
  obtain ⟨vs, h1, h2⟩ := h
  rw [h1.cell]; exact h2 i l hi
theorem LinesAt.lt {w : World} {b : Nat} {ls : List ByteArray} (h : LinesAt w b ls) : b < w.heap.size := h.elim fun _ h => h.1.lt
theorem LinesAt.own {w : World} {base g n cap : Nat} {ls : List ByteArray} (hn : n = ls.length) (h : w.ownsRow base 9 1 (.slice (some ⟨g, 0, none⟩) n cap) n (ls.map Value.string)) : LinesAt w g ls ∧ base ≤ g := by
  rcases h.2 with ⟨hv, _⟩ | ⟨g', cap', cur, hv, hb, hg, hc1, hc2, hc3, hc4⟩
  · simp at hv
  · simp only [Value.slice.injEq, Option.some.injEq, Addr.mk.injEq] at hv
    obtain ⟨⟨rfl, _⟩, _, rfl⟩ := hv
    refine ⟨⟨cur.toList, by unfold Blk; rw [hg], ?_⟩, hb⟩
    intro i l hi
    have hlt : i < ls.length := (List.getElem?_eq_some_iff.1 hi).1
    have e : (cur.toList.take (n * 1))[i]? = (ls.map Value.string)[i]? := by rw [hc4]
    rw [List.getElem?_take_of_lt (by omega)] at e
    rw [e, List.getElem?_map, hi]; rfl

/-- the text has been cut -/
def CutPost (w : World) (s : ByteArray) (n : Int) (e : Ending) (w' : World) : Prop :=
  ∃ g cap, e = .returned (.slice (some ⟨g, 0, none⟩) (cutF s n).length cap) ∧ w.heap.size ≤ g ∧ LinesAt w' g (cutF s n) ∧ Fr [] w w'

/-- a slice of the call's own has got a value more -/
theorem own_more {w wr w1 : World} {base : Nat} {e : TypeId} {v : Value} {n : Nat} {xs : List Value} {o : Obj} (hB : w.heap.size ≤ base) (f : Fr [] w wr) (h : wr.ownsRow base e 1 v n xs) (hg : (wr.alloc o).grownBy w1 v.ownBlock) : Fr [] w w1 :=
  Fr.grown (f.alloc o) hg (fun j hj => .inr (Nat.le_trans hB (h.lt j hj).1))

set_option maxHeartbeats 2000000 in
set_option maxRecDepth 100000 in
theorem cut_any (s : ByteArray) (n : Int) (w : World) (hs : s.size ≤ 400) :
    Calls Tryz.prog 104 #[.string s, .int .i64 n] w (CutPost w s n) := by
  obtain ⟨i0, hi, hz0, hz1, hz2⟩ := info_parts info_string
  go_enter Tryz.func104, Tryz.ntmps104
  go_wp2
  go_loopw [5, 6, 7] (fun u i j wr => ∃ k : Nat, j = .int .i64 k ∧ k ≤ s.size ∧ i = .int .i64 ((cutS s n k).1 : Nat) ∧ wr.ownsRow w.heap.size 9 1 u (cutS s n k).2.length ((cutS s n k).2.map Value.string) ∧ Fr [] w wr) (fun _ _ j _ => (3000 - intOf j).toNat)
  case atStart => exact ⟨0, rfl, by omega, rfl, World.ownsRow_nil _ _ _ _, Fr.refl _ _⟩
  case round =>
    obtain ⟨k, rfl, hk, rfl, hown, f⟩ := hrel
    have q1 := cutS_first s n k
    have q2 := cutS_length s n k
    have hsz := f.size
    by_cases hend : k < s.size
    · have E := hide (byteAt_eq s k hend)
      have hby := (s[k]).toNat_lt
      have S1 : Hid (cutS s n (k + 1) = if byteAt s k = 10 then (k + 1, (cutS s n k).2 ++ [s.extract (cutS s n k).1 k]) else if (k : Int) - (cutS s n k).1 = n then (k, (cutS s n k).2 ++ [s.extract (cutS s n k).1 k]) else cutS s n k) := rfl
      generalize cutS s n k = ck at *
      obtain ⟨a, l⟩ := ck
      simp only at q1 q2 hown
      have HO := hide hown
      clear hown
      by_cases h10 : (s[k].toNat : Int) = 10
      · have HN : Hid (cutS s n (k + 1) = (k + 1, l ++ [s.extract a k])) := by
          show _ = _; rw [S1.out, E.out, if_pos h10]
        clear S1
        go_wp2_with (at_builtin; refine wpList_append_lies _ rfl (.tmp 18) (.tmp 23) 122 rfl w.heap.size 9 i0 (.string ByteArray.empty) 1 16 Tryz.underlying122 hi hz0 hz1 hz2 rfl (by decide) u5 l.length (l.map Value.string) rfl (own_fr0 HO.out ((Fr.refl _ _).alloc _)) ⟨wr.heap.size, 0, none⟩ 1 1 [.string (s.extract a k)] rfl rfl (World.news_of_block (cs := #[.string (s.extract a k)]) (t := 9) (fr := (0, 0)) (by exact heap_alloc_new wr _)) (one_one _ rfl) (by omega) (by unfold maxLen; omega) (by omega) (by simp; omega) (wr.heap.size + 1) (by simp) ?_; intro g1 cap1 w1 hown1 hgrow hat hlt1; have F1 : Hid (Fr [] w w1) := own_more (Nat.le_refl _) f HO.out hgrow; have HO1 := hide hown1; clear hown1 hgrow hat)
        go_roundw
        case rel =>
          refine ⟨k + 1, by go_num, by omega, ?_, ?_, F1.out⟩
          · rw [HN.out]; go_num
          · rw [HN.out]; simpa using HO1.out
        case measure => simp [intOf]; omega
      · have b10 : ((s[k].toNat : Int) == 10) = false := by simpa using h10
        by_cases hw : (k : Int) - a = n
        · have HN : Hid (cutS s n (k + 1) = (k, l ++ [s.extract a k])) := by
            show _ = _; rw [S1.out, E.out, if_neg h10, if_pos hw]
          have bw : ((k : Int) - a == n) = true := by simpa using hw
          clear S1 h10 hw
          go_wp2_with (at_builtin; refine wpList_append_lies _ rfl (.tmp 32) (.tmp 37) 122 rfl w.heap.size 9 i0 (.string ByteArray.empty) 1 16 Tryz.underlying122 hi hz0 hz1 hz2 rfl (by decide) u5 l.length (l.map Value.string) rfl (own_fr0 HO.out ((Fr.refl _ _).alloc _)) ⟨wr.heap.size, 0, none⟩ 1 1 [.string (s.extract a k)] rfl rfl (World.news_of_block (cs := #[.string (s.extract a k)]) (t := 9) (fr := (0, 0)) (by exact heap_alloc_new wr _)) (one_one _ rfl) (by omega) (by unfold maxLen; omega) (by omega) (by simp; omega) (wr.heap.size + 1) (by simp) ?_; intro g1 cap1 w1 hown1 hgrow hat hlt1; have F1 : Hid (Fr [] w w1) := own_more (Nat.le_refl _) f HO.out hgrow; have HO1 := hide hown1; clear hown1 hgrow hat)
          go_roundw
          case rel =>
            refine ⟨k + 1, by go_num, by omega, ?_, ?_, F1.out⟩
            · rw [HN.out]
            · rw [HN.out]; simpa using HO1.out
          case measure => simp [intOf]; omega
        · have HN : Hid (cutS s n (k + 1) = (a, l)) := by
            show _ = _; rw [S1.out, E.out, if_neg h10, if_neg hw]
          have bw : ((k : Int) - a == n) = false := by simpa using hw
          clear S1 h10 hw
          go_wp2
          go_roundw
          case rel =>
            refine ⟨k + 1, by go_num, by omega, ?_, ?_, f⟩
            · rw [HN.out]
            · rw [HN.out]; exact HO.out
          case measure => simp [intOf]; omega
    · have hk' : k = s.size := by omega
      subst hk'
      have HN : Hid (cutF s n = (cutS s n s.size).2 ++ [s.extract (cutS s n s.size).1 s.size]) := rfl
      generalize cutS s n s.size = ck at *
      obtain ⟨a, l⟩ := ck
      simp only at q1 q2 hown
      have HO := hide hown
      clear hown hend
      go_wp2_with (at_builtin; refine wpList_append_lies _ rfl (.tmp 40) (.tmp 44) 122 rfl w.heap.size 9 i0 (.string ByteArray.empty) 1 16 Tryz.underlying122 hi hz0 hz1 hz2 rfl (by decide) u5 l.length (l.map Value.string) rfl (own_fr0 HO.out ((Fr.refl _ _).alloc _)) ⟨wr.heap.size, 0, none⟩ 1 1 [.string (s.extract a s.size)] rfl rfl (World.news_of_block (cs := #[.string (s.extract a s.size)]) (t := 9) (fr := (0, 0)) (by exact heap_alloc_new wr _)) (one_one _ rfl) (by omega) (by unfold maxLen; omega) (by omega) (by simp; omega) (wr.heap.size + 1) (by simp) ?_; intro g1 cap1 w1 hown1 hgrow hat hlt1; have F1 : Hid (Fr [] w w1) := own_more (Nat.le_refl _) f HO.out hgrow; have HO1 := hide hown1; clear hown1 hgrow hat)
      go_ret
      have hl : (cutF s n).length = l.length + 1 := by rw [HN.out]; simp
      obtain ⟨L1, L2⟩ := LinesAt.own (ls := cutF s n) (n := l.length + 1) (g := g1) (cap := cap1) (w := w1) (base := w.heap.size) hl.symm (by have := HO1.out; rw [HN.out]; simpa using this)
      exact ⟨g1, cap1, by rw [hl]; rfl, L2, L1, F1.out⟩
end Go.Proofs.YtjhccghhinlmdabGreatDoor
/- Package views' panes: where one lies, what it has in a place. -/
namespace Go.Proofs.YtjhccghhinlmdabGreatDoor
open Go.RowKit

/-- a pane: its window, its offset, where its lines lie -/
structure Pane where
  o : Win
  off : Int
  lb : Nat
  lc : Nat
def Pane.ls (p : Pane) : List ByteArray := cutF p.o.text p.o.w
def Pane.vals (p : Pane) : List Value := [.int .i64 p.o.key, .int .i64 p.o.x, .int .i64 p.o.y, .int .i64 p.o.w, .int .i64 p.o.h, .int .i64 p.o.layer, .int .u8 p.o.style, .slice (some ⟨p.lb, 0, none⟩) p.ls.length p.lc, .int .i64 p.off]
/-- it is as it may be, and its lines lie there -/
structure PaneOk (w : World) (p : Pane) : Prop where
  ok : p.o.Ok
  o1 : 0 ≤ p.off
  o2 : p.off ≤ 401
  ls : LinesAt w p.lb p.ls
theorem PaneOk.fr {w w' : World} {S : List Nat} {p : Pane} (h : PaneOk w p) (f : Fr S w w') (hn : p.lb ∉ S) : PaneOk w' p := ⟨h.ok, h.o1, h.o2, h.ls.fr f hn⟩
theorem PaneOk.lsBd {w : World} {p : Pane} (h : PaneOk w p) : 1 ≤ p.ls.length ∧ p.ls.length ≤ 401 := by
  have := cutF_length p.o.text p.o.w; have := h.ok.t; unfold Pane.ls; omega

/-- a pane's cells lie from here on -/
structure PCells (w : World) (b c : Nat) (p : Pane) : Prop where
  c0 : w.cell? ⟨b, c, none⟩ = some (.int .i64 p.o.key)
  c1 : w.cell? ⟨b, c + 1, none⟩ = some (.int .i64 p.o.x)
  c2 : w.cell? ⟨b, c + 2, none⟩ = some (.int .i64 p.o.y)
  c3 : w.cell? ⟨b, c + 3, none⟩ = some (.int .i64 p.o.w)
  c4 : w.cell? ⟨b, c + 4, none⟩ = some (.int .i64 p.o.h)
  c5 : w.cell? ⟨b, c + 5, none⟩ = some (.int .i64 p.o.layer)
  c6 : w.cell? ⟨b, c + 6, none⟩ = some (.int .u8 p.o.style)
  c7 : w.cell? ⟨b, c + 7, none⟩ = some (.slice (some ⟨p.lb, 0, none⟩) p.ls.length p.lc)
  c8 : w.cell? ⟨b, c + 8, none⟩ = some (.int .i64 p.off)

set_option maxHeartbeats 1000000 in
set_option maxRecDepth 100000 in
theorem covers_any (b c : Nat) (p : Pane) (x y : Int) (w : World) (h : PCells w b c p) (ok : p.o.Ok) (x1 : 0 ≤ x) (x2 : x ≤ 40) (y1 : 0 ≤ y) (y2 : y ≤ 20) :
    Calls Tryz.prog 119 #[.pointer (some ⟨b, c, none⟩), .int .i64 x, .int .i64 y] w fun e w' => e = .returned (.bool (p.o.has x y)) ∧ ∃ n, w' = w.drewN n := by
  obtain ⟨_, c1, c2, c3, c4, _, _, _, _⟩ := h
  obtain ⟨_, _, a1, a2, a3, a4, a5, a6, a7, a8, _, _, _, _, _⟩ := ok
  have HH : Hid (p.o.has x y = (decide (p.o.x ≤ x) && decide (x < p.o.x + p.o.w) && decide (p.o.y ≤ y) && decide (y < p.o.y + p.o.h))) := rfl
  by_cases h1 : p.o.x ≤ x
  · by_cases h2 : x < p.o.x + p.o.w
    · by_cases h3 : p.o.y ≤ y
      · by_cases h4 : y < p.o.y + p.o.h
        · have E : Hid (p.o.has x y = true) := by show _ = _; rw [HH.out]; simp [h1, h2, h3, h4]
          have d1 : decide (x ≥ p.o.x) = true := by simpa using h1
          have d2 : decide (x < p.o.x + p.o.w) = true := by simpa using h2
          have d3 : decide (y ≥ p.o.y) = true := by simpa using h3
          have d4 : decide (y < p.o.y + p.o.h) = true := by simpa using h4
          go_enter Tryz.func119, Tryz.ntmps119
          go_wp2
          go_quiet (fail)
          go_wp2
          go_ret
          exact ⟨ret_bool E.out.symm, _, rfl⟩
        · have E : Hid (p.o.has x y = false) := by show _ = _; rw [HH.out]; simp [h4]
          have d1 : decide (x ≥ p.o.x) = true := by simpa using h1
          have d2 : decide (x < p.o.x + p.o.w) = true := by simpa using h2
          have d3 : decide (y ≥ p.o.y) = true := by simpa using h3
          have d4 : decide (y < p.o.y + p.o.h) = false := by simpa using h4
          go_enter Tryz.func119, Tryz.ntmps119
          go_wp2
          go_quiet (fail)
          go_wp2
          go_ret
          exact ⟨ret_bool E.out.symm, _, rfl⟩
      · have E : Hid (p.o.has x y = false) := by show _ = _; rw [HH.out]; simp [h3]
        have d1 : decide (x ≥ p.o.x) = true := by simpa using h1
        have d2 : decide (x < p.o.x + p.o.w) = true := by simpa using h2
        have d3 : decide (y ≥ p.o.y) = false := by simpa using h3
        go_enter Tryz.func119, Tryz.ntmps119
        go_wp2
        go_quiet (fail)
        go_wp2
        go_ret
        exact ⟨ret_bool E.out.symm, _, rfl⟩
    · have E : Hid (p.o.has x y = false) := by show _ = _; rw [HH.out]; simp [h2]
      have d1 : decide (x ≥ p.o.x) = true := by simpa using h1
      have d2 : decide (x < p.o.x + p.o.w) = false := by simpa using h2
      go_enter Tryz.func119, Tryz.ntmps119
      go_wp2
      go_quiet (fail)
      go_wp2
      go_ret
      exact ⟨ret_bool E.out.symm, _, rfl⟩
  · have E : Hid (p.o.has x y = false) := by show _ = _; rw [HH.out]; simp [h1]
    have d1 : decide (x ≥ p.o.x) = false := by simpa using h1
    go_enter Tryz.func119, Tryz.ntmps119
    go_wp2
    go_quiet (fail)
    go_wp2
    go_ret
    exact ⟨ret_bool E.out.symm, _, rfl⟩

theorem lineAt_some {ls : List ByteArray} {n : Int} (h1 : 0 ≤ n) (h2 : n < ls.length) : ls[n.toNat]? = some (lineAt ls n) := by
  simp [lineAt, List.getD_eq_getElem?_getD, show n.toNat < ls.length by omega]

set_option maxHeartbeats 1000000 in
set_option maxRecDepth 100000 in
theorem pchar_any (b c : Nat) (p : Pane) (x y : Int) (w : World) (h : PCells w b c p) (ok : PaneOk w p) (y2 : y ≤ 1000) (x2 : x ≤ 1000) :
    Calls Tryz.prog 120 #[.pointer (some ⟨b, c, none⟩), .int .i64 x, .int .i64 y] w fun e w' => e = .returned (.int .u8 (charF p.ls x y)) ∧ w = w' := by
  obtain ⟨_, _, _, _, _, _, _, c7, _⟩ := h
  have lb := ok.lsBd
  have L := hide ok.ls
  have blt : p.lb < w.heap.size := ok.ls.lt
  have HC : Hid (charF p.ls x y = if y < 0 ∨ (p.ls.length : Int) ≤ y ∨ x < 0 ∨ ((lineAt p.ls y).size : Int) ≤ x then 32 else shownC (byteAt (lineAt p.ls y) x.toNat)) := rfl
  clear ok
  by_cases h1 : y < 0
  · have E : Hid (charF p.ls x y = 32) := by show _ = _; rw [HC.out, if_pos (.inl h1)]
    go_enter Tryz.func120, Tryz.ntmps120
    go_wp2
    go_ret
    exact ⟨ret_int E.out.symm, rfl⟩
  · by_cases h2 : (p.ls.length : Int) ≤ y
    · have E : Hid (charF p.ls x y = 32) := by show _ = _; rw [HC.out, if_pos (.inr (.inl h2))]
      go_enter Tryz.func120, Tryz.ntmps120
      go_wp2
      go_ret
      exact ⟨ret_int E.out.symm, rfl⟩
    · obtain ⟨k, rfl⟩ := Int.eq_ofNat_of_zero_le (show 0 ≤ y by omega)
      have cl : w.cell? ⟨p.lb, k, none⟩ = some (.string (lineAt p.ls k)) := L.out.cell (by simpa using lineAt_some (ls := p.ls) (n := (k : Int)) (by omega) (by omega))
      have h3 : k < p.ls.length := by omega
      generalize lineAt p.ls k = ln at *
      by_cases h4 : x < 0
      · have E : Hid (charF p.ls x k = 32) := by show _ = _; rw [HC.out, if_pos (.inr (.inr (.inl h4)))]
        go_enter Tryz.func120, Tryz.ntmps120
        go_wp2
        go_ret
        exact ⟨ret_int E.out.symm, rfl⟩
      · by_cases h5 : (ln.size : Int) ≤ x
        · have E : Hid (charF p.ls x k = 32) := by show _ = _; rw [HC.out, if_pos (.inr (.inr (.inr h5)))]
          go_enter Tryz.func120, Tryz.ntmps120
          go_wp2
          go_ret
          exact ⟨ret_int E.out.symm, rfl⟩
        · obtain ⟨j, rfl⟩ := Int.eq_ofNat_of_zero_le (show 0 ≤ x by omega)
          have h6 : j < ln.size := by omega
          have E : Hid (charF p.ls j k = shownC (ln[j].toNat : Int)) := by
            show _ = _; rw [HC.out, if_neg (by omega)]
            simp only [Int.toNat_natCast]
            rw [byteAt_eq ln j h6]
          have hby := (ln[j]).toNat_lt
          by_cases h7 : (ln[j].toNat : Int) < 32
          · have E2 : Hid (charF p.ls j k = 63) := by show _ = _; rw [E.out]; unfold shownC; rw [if_pos (.inl h7)]
            go_enter Tryz.func120, Tryz.ntmps120
            go_wp2
            go_ret
            exact ⟨ret_int E2.out.symm, rfl⟩
          · by_cases h8 : 126 < (ln[j].toNat : Int)
            · have E2 : Hid (charF p.ls j k = 63) := by show _ = _; rw [E.out]; unfold shownC; rw [if_pos (.inr h8)]
              go_enter Tryz.func120, Tryz.ntmps120
              go_wp2
              go_ret
              exact ⟨ret_int E2.out.symm, rfl⟩
            · have E2 : Hid (charF p.ls j k = (ln[j].toNat : Int)) := by show _ = _; rw [E.out]; unfold shownC; rw [if_neg (by omega)]
              go_enter Tryz.func120, Tryz.ntmps120
              go_wp2
              go_ret
              exact ⟨ret_int E2.out.symm, rfl⟩

theorem charF_bd (ls : List ByteArray) (x y : Int) : 32 ≤ charF ls x y ∧ charF ls x y ≤ 126 := by
  unfold charF shownC
  split
  · omega
  · split <;> omega

set_option maxHeartbeats 1000000 in
set_option maxRecDepth 100000 in
theorem pcell_any (b c : Nat) (p : Pane) (x y : Int) (w : World) (h : PCells w b c p) (ok : PaneOk w p) (x1 : 0 ≤ x) (x2 : x ≤ 40) (y1 : 0 ≤ y) (y2 : y ≤ 20) :
    Calls Tryz.prog 108 #[.pointer (some ⟨b, c, none⟩), .int .i64 x, .int .i64 y] w
      fun e w' => e = .returned (.agg #[.int .u8 (p.o.cell p.off x y).1, .int .u8 (p.o.cell p.off x y).2]) ∧ Fr [] w w' := by
  have H := hide h
  obtain ⟨_, c1, c2, _, _, _, c6, _, c8⟩ := h
  have blt : b < w.heap.size := World.block_lt_of_cell? w _ c1
  obtain ⟨_, _, a1, a2, a3, a4, _, _, _, _, _, _, a5, a6, _⟩ := ok.ok
  have o1 := ok.o1
  have o2 := ok.o2
  have OK := hide ok
  clear ok
  have E : Hid (p.o.cell p.off x y = (charF p.ls (x - p.o.x) (y - p.o.y + p.off), p.o.style)) := rfl
  have bd := charF_bd p.ls (x - p.o.x) (y - p.o.y + p.off)
  have CH : Hid (∀ w', (∃ n, w' = (w.alloc (.cells #[.int .u8 0, .int .u8 0] 117)).drewN n) → Calls Tryz.prog 120 #[.pointer (some ⟨b, c, none⟩), .int .i64 (x - p.o.x), .int .i64 (y - p.o.y + p.off)] w' fun e w'' => e = .returned (.int .u8 (charF p.ls (x - p.o.x) (y - p.o.y + p.off))) ∧ w' = w'') := by
    rintro w' ⟨n, rfl⟩
    have f : Fr [] w ((w.alloc (.cells #[.int .u8 0, .int .u8 0] 117)).drewN n) := ((Fr.refl _ _).alloc _).drewN _
    have k : ∀ {q : Addr} {v : Value}, w.cell? q = some v → ((w.alloc (.cells #[.int .u8 0, .int .u8 0] 117)).drewN n).cell? q = some v := by
      intro q v hq
      rw [← hq]; exact World.cell?_of_block (w := w) (f.block q.block (World.block_lt_of_cell? w _ hq) (by simp))
    exact pchar_any b c p _ _ _ ⟨k H.out.c0, k H.out.c1, k H.out.c2, k H.out.c3, k H.out.c4, k H.out.c5, k H.out.c6, k H.out.c7, k H.out.c8⟩ (OK.out.fr f (by simp)) (by omega) (by omega)
  generalize charF p.ls (x - p.o.x) (y - p.o.y + p.off) = ch at *
  go_enter Tryz.func108, Tryz.ntmps108
  go_wp2
  go_quiet ((go_at_call 120; exact Calls.quiet_of_same ((CH.out _ ⟨_, rfl⟩).mono fun e w' ⟨h1, h2⟩ => ⟨h1, h2.symm⟩)))
  go_wp2
  rw [E.out]
  exact bodyPost_ret (v := .agg #[.int .u8 ch, .int .u8 p.o.style]) (by simp [results, Tryz.results108, go_sem]) rfl ⟨rfl, by repeat first | exact Fr.refl _ _ | apply Fr.drew | apply Fr.drewN | apply Fr.alloc | (apply Fr.setCell _ (.inr (by simp)))⟩
end Go.Proofs.YtjhccghhinlmdabGreatDoor
/- Package views' panes: a new one, and its offset. -/
namespace Go.Proofs.YtjhccghhinlmdabGreatDoor
open Go.RowKit

/-- a new pane of this window is handed back -/
def PanePost (w : World) (o : Win) (e : Ending) (w' : World) : Prop :=
  ∃ p : Pane, p.o = o ∧ p.off = 0 ∧ e = .returned (.agg #[.int .i64 p.o.key, .int .i64 p.o.x, .int .i64 p.o.y, .int .i64 p.o.w, .int .i64 p.o.h, .int .i64 p.o.layer, .int .u8 p.o.style, .slice (some ⟨p.lb, 0, none⟩) p.ls.length p.lc, .int .i64 0]) ∧ w.heap.size ≤ p.lb ∧ PaneOk w' p ∧ Fr [] w w'

set_option maxHeartbeats 1000000 in
set_option maxRecDepth 100000 in
theorem newPane_any (o : Win) (w : World) (ok : o.Ok) :
    Calls Tryz.prog 88 #[.agg #[.int .i64 o.key, .int .i64 o.x, .int .i64 o.y, .int .i64 o.w, .int .i64 o.h, .int .i64 o.layer, .int .i64 o.style, .string o.text]] w (PanePost w o) := by
  have s1 := ok.s1
  have s2 := ok.s2
  have ht := ok.t
  have OK := hide ok
  clear ok
  go_enter Tryz.func88, Tryz.ntmps88
  go_wp2_with fail
  refine (cut_any o.text o.w _ ht).mono ?_
  rintro e w1 ⟨g, cap, rfl, h1, h2, f1⟩
  have F : Hid (Fr [] w w1) := (((Fr.refl _ _).alloc _).alloc _).then f1
  have B : Blk w1 w.heap.size [.int .i64 o.key, .int .i64 o.x, .int .i64 o.y, .int .i64 o.w, .int .i64 o.h, .int .i64 o.layer, .int .i64 o.style, .string o.text] 104 := ((Blk.new _ _ _).alloc _).fr0 f1
  have B2 : Blk w1 (w.heap.size + 1) [.int .i64 0, .int .i64 0, .int .i64 0, .int .i64 0, .int .i64 0, .int .i64 0, .int .u8 0, .slice none 0 0, .int .i64 0] 140 := by
    have := (Blk.new (w.alloc (.cells #[.int .i64 o.key, .int .i64 o.x, .int .i64 o.y, .int .i64 o.w, .int .i64 o.h, .int .i64 o.layer, .int .i64 o.style, .string o.text] 104)) [.int .i64 0, .int .i64 0, .int .i64 0, .int .i64 0, .int .i64 0, .int .i64 0, .int .u8 0, .slice none 0 0, .int .i64 0] 140).fr0 f1
    simpa using this
  have c0 : w1.cell? ⟨w.heap.size, 0, none⟩ = some (.int .i64 o.key) := B.cell 0
  have c1 : w1.cell? ⟨w.heap.size, 1, none⟩ = some (.int .i64 o.x) := B.cell 1
  have c2 : w1.cell? ⟨w.heap.size, 2, none⟩ = some (.int .i64 o.y) := B.cell 2
  have c3 : w1.cell? ⟨w.heap.size, 3, none⟩ = some (.int .i64 o.w) := B.cell 3
  have c4 : w1.cell? ⟨w.heap.size, 4, none⟩ = some (.int .i64 o.h) := B.cell 4
  have c5 : w1.cell? ⟨w.heap.size, 5, none⟩ = some (.int .i64 o.layer) := B.cell 5
  have c6 : w1.cell? ⟨w.heap.size, 6, none⟩ = some (.int .i64 o.style) := B.cell 6
  have d0 : w1.cell? ⟨w.heap.size + 1, 0, none⟩ = some (.int .i64 0) := B2.cell 0
  have d1 : w1.cell? ⟨w.heap.size + 1, 1, none⟩ = some (.int .i64 0) := B2.cell 1
  have d2 : w1.cell? ⟨w.heap.size + 1, 2, none⟩ = some (.int .i64 0) := B2.cell 2
  have d3 : w1.cell? ⟨w.heap.size + 1, 3, none⟩ = some (.int .i64 0) := B2.cell 3
  have d4 : w1.cell? ⟨w.heap.size + 1, 4, none⟩ = some (.int .i64 0) := B2.cell 4
  have d5 : w1.cell? ⟨w.heap.size + 1, 5, none⟩ = some (.int .i64 0) := B2.cell 5
  have d6 : w1.cell? ⟨w.heap.size + 1, 6, none⟩ = some (.int .u8 0) := B2.cell 6
  have d7 : w1.cell? ⟨w.heap.size + 1, 7, none⟩ = some (.slice none 0 0) := B2.cell 7
  have d8 : w1.cell? ⟨w.heap.size + 1, 8, none⟩ = some (.int .i64 0) := B2.cell 8
  have z0 := B2.frozen 0
  have z1 := B2.frozen 1
  have z2 := B2.frozen 2
  have z3 := B2.frozen 3
  have z4 := B2.frozen 4
  have z5 := B2.frozen 5
  have z6 := B2.frozen 6
  have z7 := B2.frozen 7
  have z8 := B2.frozen 8
  have PO : Hid (PaneOk w1 ⟨o, 0, g, cap⟩) := ⟨OK.out, Int.le_refl _, (show (0 : Int) ≤ 401 by decide), h2⟩
  have hg : Hid (w.heap.size ≤ g) := by show _ ≤ _; simp at h1; omega
  have HT : Hid ((w.heap.size + 1) ≠ g) := by
    obtain ⟨us, hu, _⟩ := h2
    exact fun e => (B2.ne (e ▸ hu) (by decide)) rfl
  clear B B2 f1 h1 h2
  go_wp2
  refine bodyPost_ret (v := .agg #[.int .i64 o.key, .int .i64 o.x, .int .i64 o.y, .int .i64 o.w, .int .i64 o.h, .int .i64 o.layer, .int .u8 o.style, .slice (some ⟨g, 0, none⟩) (cutF o.text o.w).length cap, .int .i64 0]) (by simp [results, Tryz.results88, go_sem, d0, d1, d2, d3, d4, d5, d6, d7, d8]) rfl ?_
  refine ⟨⟨o, 0, g, cap⟩, rfl, rfl, rfl, hg.out, ?_, ?_⟩
  · refine PO.out.fr (S := [w.heap.size + 1]) ?_ (by have := HT.out; simp; omega)
    exact (((((((((Fr.refl _ _).setCell (.inl (by simp)) _).setCell (.inl (by simp)) _).setCell (.inl (by simp)) _).setCell (.inl (by simp)) _).setCell (.inl (by simp)) _).setCell (.inl (by simp)) _).setCell (.inl (by simp)) _).setCell (.inl (by simp)) _).setCell (.inl (by simp)) _
  · exact (((((((((F.out).setCell (.inr (by simp)) _).setCell (.inr (by simp)) _).setCell (.inr (by simp)) _).setCell (.inr (by simp)) _).setCell (.inr (by simp)) _).setCell (.inr (by simp)) _).setCell (.inr (by simp)) _).setCell (.inr (by simp)) _).setCell (.inr (by simp)) _

set_option maxHeartbeats 1000000 in
set_option maxRecDepth 100000 in
theorem scrollTo_any (b c lb lc : Nat) (o : Win) (n : Int) (w : World) (vs : List Value) (ty : TypeId) (hb : Blk w b vs ty) (x : Int)
    (v4 : vs[c + 4]? = some (.int .i64 o.h)) (v7 : vs[c + 7]? = some (.slice (some ⟨lb, 0, none⟩) (cutF o.text o.w).length lc)) (v8 : vs[c + 8]? = some (.int .i64 x)) (ok : o.Ok) :
    Calls Tryz.prog 90 #[.pointer (some ⟨b, c, none⟩), .int .i64 n] w fun e w' => e = .returned (.tuple #[]) ∧ Fr [b] w w' ∧ Blk w' b (vs.set (c + 8) (.int .i64 (o.fits n))) ty := by
  have c4 : w.cell? ⟨b, c + 4, none⟩ = some (.int .i64 o.h) := (hb.cell _).trans v4
  have c7 : w.cell? ⟨b, c + 7, none⟩ = some (.slice (some ⟨lb, 0, none⟩) (cutF o.text o.w).length lc) := (hb.cell _).trans v7
  have c8 : w.cell? ⟨b, c + 8, none⟩ = some (.int .i64 x) := (hb.cell _).trans v8
  have z8 := hb.frozen (c + 8)
  have blt := hb.lt
  have l1 := cutF_length o.text o.w
  have l2 := ok.t
  have l3 := ok.h1
  have l4 := ok.h2
  have HB := hide hb
  have HF : Hid (o.fits n = if n > ((cutF o.text o.w).length : Int) - o.h then (if ((cutF o.text o.w).length : Int) - o.h < 0 then 0 else ((cutF o.text o.w).length : Int) - o.h) else if n < 0 then 0 else n) := rfl
  clear hb v4 v7 v8 ok
  generalize (cutF o.text o.w).length = L at *
  have fin : Hid (∀ v : Int, o.fits n = v → ∀ k : Nat, Fr [b] w ((w.drewN k).setCell ⟨b, c + 8, none⟩ (.int .i64 v)) ∧ Blk ((w.drewN k).setCell ⟨b, c + 8, none⟩ (.int .i64 v)) b (vs.set (c + 8) (.int .i64 (o.fits n))) ty) := by
    intro v hv k
    exact ⟨((Fr.refl _ _).drewN k).setCell (.inl (by simp)) _, by rw [hv]; exact (HB.out.drewN k).set _ _⟩
  by_cases h1 : n > (L : Int) - o.h
  · by_cases h2 : (L : Int) - o.h < 0
    · have E : Hid (o.fits n = 0) := by show _ = _; rw [HF.out, if_pos h1, if_pos h2]
      clear HF
      go_enter Tryz.func90, Tryz.ntmps90
      go_wp2
      go_quiet (fail)
      go_wp2
      go_end0
      exact ⟨rfl, fin.out _ E.out _⟩
    · have E : Hid (o.fits n = (L : Int) - o.h) := by show _ = _; rw [HF.out, if_pos h1, if_neg h2]
      clear HF
      go_enter Tryz.func90, Tryz.ntmps90
      go_wp2
      go_quiet (fail)
      go_wp2
      go_end0
      exact ⟨rfl, fin.out _ E.out _⟩
  · by_cases h2 : n < 0
    · have E : Hid (o.fits n = 0) := by show _ = _; rw [HF.out, if_neg h1, if_pos h2]
      clear HF
      go_enter Tryz.func90, Tryz.ntmps90
      go_wp2
      go_quiet (fail)
      go_wp2
      go_end0
      exact ⟨rfl, fin.out _ E.out _⟩
    · have E : Hid (o.fits n = n) := by show _ = _; rw [HF.out, if_neg h1, if_neg h2]
      clear HF
      go_enter Tryz.func90, Tryz.ntmps90
      go_wp2
      go_quiet (fail)
      go_wp2
      go_end0
      exact ⟨rfl, fin.out _ E.out _⟩
end Go.Proofs.YtjhccghhinlmdabGreatDoor
/- Package views' View: the pane in front, and what is to be seen of a view. -/
namespace Go.Proofs.YtjhccghhinlmdabGreatDoor
open Go.RowKit

/-- nine cells of a block are written -/
theorem Blk.set9 {w : World} {b : Nat} {ty : TypeId} {a0 a1 a2 a3 a4 a5 a6 a7 a8 : Value} (v0 v1 v2 v3 v4 v5 v6 v7 v8 : Value) (h : Blk w b [a0, a1, a2, a3, a4, a5, a6, a7, a8] ty) :
    Blk ((((((((((w).setCell ⟨b, 0, none⟩ v0).setCell ⟨b, 1, none⟩ v1).setCell ⟨b, 2, none⟩ v2).setCell ⟨b, 3, none⟩ v3).setCell ⟨b, 4, none⟩ v4).setCell ⟨b, 5, none⟩ v5).setCell ⟨b, 6, none⟩ v6).setCell ⟨b, 7, none⟩ v7).setCell ⟨b, 8, none⟩ v8) b [v0, v1, v2, v3, v4, v5, v6, v7, v8] ty :=
  ((((((((h.set 0 v0).set 1 v1).set 2 v2).set 3 v3).set 4 v4).set 5 v5).set 6 v6).set 7 v7).set 8 v8
theorem Fr.set9 {S : List Nat} {a w : World} {b : Nat} (h : Fr S a w) (hp : b ∈ S ∨ a.heap.size ≤ b) (v0 v1 v2 v3 v4 v5 v6 v7 v8 : Value) : Fr S a ((((((((((w).setCell ⟨b, 0, none⟩ v0).setCell ⟨b, 1, none⟩ v1).setCell ⟨b, 2, none⟩ v2).setCell ⟨b, 3, none⟩ v3).setCell ⟨b, 4, none⟩ v4).setCell ⟨b, 5, none⟩ v5).setCell ⟨b, 6, none⟩ v6).setCell ⟨b, 7, none⟩ v7).setCell ⟨b, 8, none⟩ v8) :=
  ((((((((h.setCell (p := ⟨b, 0, none⟩) hp v0).setCell (p := ⟨b, 1, none⟩) hp v1).setCell (p := ⟨b, 2, none⟩) hp v2).setCell (p := ⟨b, 3, none⟩) hp v3).setCell (p := ⟨b, 4, none⟩) hp v4).setCell (p := ⟨b, 5, none⟩) hp v5).setCell (p := ⟨b, 6, none⟩) hp v6).setCell (p := ⟨b, 7, none⟩) hp v7).setCell (p := ⟨b, 8, none⟩) hp v8

def Pane.wo (p : Pane) : Win × Int := (p.o, p.off)
def view (ps : List Pane) : V := ps.map Pane.wo
theorem view_at {ps : List Pane} {i : Nat} {p : Pane} (h : ps[i]? = some p) : (view ps).at i = (p.o, p.off) := V.at_eq (by simp [view, h, Pane.wo])

theorem PCells.fr {w w' : World} {S : List Nat} {b c : Nat} {p : Pane} (h : PCells w b c p) (f : Fr S w w') (hn : b ∉ S) : PCells w' b c p := by
  have k : ∀ {off : Nat} {v : Value}, w.cell? ⟨b, off, none⟩ = some v → w'.cell? ⟨b, off, none⟩ = some v := by
    intro off v hq
    rw [← hq]; exact World.cell?_of_block (w := w) (f.block b (World.block_lt_of_cell? w _ hq) hn)
  exact ⟨k h.c0, k h.c1, k h.c2, k h.c3, k h.c4, k h.c5, k h.c6, k h.c7, k h.c8⟩
theorem PCells.of {w : World} {b : Nat} {ty : TypeId} {p : Pane} (h : Blk w b p.vals ty) : PCells w b 0 p :=
  ⟨h.cell 0, h.cell 1, h.cell 2, h.cell 3, h.cell 4, h.cell 5, h.cell 6, h.cell 7, h.cell 8⟩

/-- panes lie one behind the other -/
def PanesAt (w : World) (av : Option Addr) (ps : List Pane) : Prop := ∀ (i : Nat) p, ps[i]? = some p → ∃ g, av = some ⟨g, 0, none⟩ ∧ PCells w g (i * 9) p ∧ PaneOk w p
theorem PanesAt.fr {w w' : World} {S : List Nat} {av : Option Addr} {ps : List Pane} (h : PanesAt w av ps) (f : Fr S w w') (h1 : ∀ a, av = some a → a.block ∉ S) (h2 : ∀ p ∈ ps, p.lb ∉ S) : PanesAt w' av ps := by
  intro i p hp
  obtain ⟨g, rfl, c, k⟩ := h i p hp
  exact ⟨g, rfl, c.fr f (h1 _ rfl), k.fr f (h2 p (List.mem_of_getElem? hp))⟩
theorem PanesAt.fr0 {w w' : World} {av : Option Addr} {ps : List Pane} (h : PanesAt w av ps) (f : Fr [] w w') : PanesAt w' av ps := h.fr f (by simp) (by simp)

def zeroP : List Value := [.int .i64 0, .int .i64 0, .int .i64 0, .int .i64 0, .int .i64 0, .int .i64 0, .int .u8 0, .slice none 0 0, .int .i64 0]
/-- what front tells -/
def FrontPost (w : World) (ps : List Pane) (x y : Int) (e : Ending) (w' : World) : Prop :=
  Fr [] w w' ∧ (((view ps).best x y ps.length = none ∧ e = .returned (.tuple #[.agg #[.int .i64 0, .int .i64 0, .int .i64 0, .int .i64 0, .int .i64 0, .int .i64 0, .int .u8 0, .slice none 0 0, .int .i64 0], .bool false])) ∨
    ∃ j p, (view ps).best x y ps.length = some j ∧ ps[j]? = some p ∧ e = .returned (.tuple #[.agg #[.int .i64 p.o.key, .int .i64 p.o.x, .int .i64 p.o.y, .int .i64 p.o.w, .int .i64 p.o.h, .int .i64 p.o.layer, .int .u8 p.o.style, .slice (some ⟨p.lb, 0, none⟩) p.ls.length p.lc, .int .i64 p.off], .bool true]))

/-- the pane in front of the first k, as its block tells -/
def FrontAt (w : World) (F : Nat) (ps : List Pane) (x y : Int) (k : Nat) (found : Value) : Prop :=
  ((view ps).best x y k = none ∧ found = .bool false ∧ Blk w F zeroP 140) ∨ ∃ j p, (view ps).best x y k = some j ∧ ps[j]? = some p ∧ found = .bool true ∧ Blk w F p.vals 140
theorem FrontAt.fr {w w' : World} {F : Nat} {ps : List Pane} {x y : Int} {k : Nat} {v : Value} (h : FrontAt w F ps x y k v) (f : Fr [] w w') : FrontAt w' F ps x y k v := by
  rcases h with ⟨h1, h2, h3⟩ | ⟨j, p, h1, h2, h3, h4⟩
  · exact .inl ⟨h1, h2, h3.fr0 f⟩
  · exact .inr ⟨j, p, h1, h2, h3, h4.fr0 f⟩

set_option maxHeartbeats 4000000 in
set_option maxRecDepth 100000 in
theorem front_any (b c : Nat) (av : Option Addr) (cap : Nat) (ps : List Pane) (x y : Int) (w : World) (h0 : w.cell? ⟨b, c, none⟩ = some (.slice av ps.length cap)) (h : PanesAt w av ps) (hn : ps.length ≤ 12) (x1 : 0 ≤ x) (x2 : x ≤ 40) (y1 : 0 ≤ y) (y2 : y ≤ 20) :
    Calls Tryz.prog 107 #[.pointer (some ⟨b, c, none⟩), .int .i64 x, .int .i64 y] w (FrontPost w ps x y) := by
  have H := hide h
  clear h
  go_enter Tryz.func107, Tryz.ntmps107
  go_wp2
  go_loopw [9, 10] (fun fnd i wr => ∃ k : Nat, i = .int .i64 k ∧ k ≤ ps.length ∧ Fr [] w wr ∧ Blk wr w.heap.size zeroP 140 ∧ FrontAt wr (w.heap.size + 1) ps x y k fnd) (fun _ i _ => (3000 - intOf i).toNat)
  case atStart =>
    refine ⟨0, rfl, by omega, ((Fr.refl _ _).alloc _).alloc _, (Blk.new _ zeroP _).alloc _, .inl ⟨rfl, rfl, ?_⟩⟩
    have := Blk.new (w.alloc (.cells zeroP.toArray 140)) zeroP 140
    rw [World.size_alloc] at this
    exact this
  case round =>
    obtain ⟨k, rfl, hk, f, hres, hfr⟩ := hrel
    have d0 : wr.cell? ⟨b, c, none⟩ = some (.slice av ps.length cap) := by
      rw [← h0]; exact World.cell?_of_block (w := w) (f.block b (World.block_lt_of_cell? w _ h0) (by simp))
    have hsz := f.size
    have hF : w.heap.size + 1 < wr.heap.size := by
      rcases hfr with ⟨_, _, q⟩ | ⟨_, _, _, _, _, q⟩ <;> exact q.lt
    by_cases hend : k < ps.length
    · obtain ⟨p, hp⟩ : ∃ p, ps[k]? = some p := ⟨_, List.getElem?_eq_getElem hend⟩
      obtain ⟨g, rfl, C, OK⟩ := H.out.fr0 f k p hp
      have blt : g < wr.heap.size := World.block_lt_of_cell? wr _ C.c0
      obtain ⟨c0, c1, c2, c3, c4, c5, c6, c7, c8⟩ := C
      have AT := hide (view_at hp)
      have CV : Hid (Calls Tryz.prog 119 #[.pointer (some ⟨wr.heap.size, 0, none⟩), .int .i64 x, .int .i64 y] (wr.alloc (.cells #[.int .i64 p.o.key, .int .i64 p.o.x, .int .i64 p.o.y, .int .i64 p.o.w, .int .i64 p.o.h, .int .i64 p.o.layer, .int .u8 p.o.style, .slice (some ⟨p.lb, 0, none⟩) p.ls.length p.lc, .int .i64 p.off] 140)) fun e w' => e = .returned (.bool (p.o.has x y)) ∧ ∃ n, w' = (wr.alloc (.cells #[.int .i64 p.o.key, .int .i64 p.o.x, .int .i64 p.o.y, .int .i64 p.o.w, .int .i64 p.o.h, .int .i64 p.o.layer, .int .u8 p.o.style, .slice (some ⟨p.lb, 0, none⟩) p.ls.length p.lc, .int .i64 p.off] 140)).drewN n) :=
        covers_any wr.heap.size 0 p x y _ (PCells.of (Blk.new wr p.vals 140)) OK.ok x1 x2 y1 y2
      have F2 : Hid (∀ n, Fr [] wr ((wr.alloc (.cells #[.int .i64 p.o.key, .int .i64 p.o.x, .int .i64 p.o.y, .int .i64 p.o.w, .int .i64 p.o.h, .int .i64 p.o.layer, .int .u8 p.o.style, .slice (some ⟨p.lb, 0, none⟩) p.ls.length p.lc, .int .i64 p.off] 140)).drewN n)) := fun n => ((Fr.refl _ _).alloc _).drewN n
      have b1 : (k : Int) < ps.length := by omega
      have HR := hide hres
      have HP := hide hp
      clear hres hp H OK
      have BS : Hid ((view ps).best x y (k + 1) = match (view ps).best x y k with
        | none => if ((view ps).at k).1.has x y then some k else none
        | some j => if ((view ps).at k).1.has x y && decide (((view ps).at j).1.layer ≤ ((view ps).at k).1.layer) then some k else some j) := rfl
      rw [AT.out] at BS
      rcases hfr with ⟨q1, rfl, q3⟩ | ⟨j, q, q1, q2, rfl, q3⟩
      · rw [q1] at BS
        have Q3 := hide q3
        have z0 := q3.frozen 0
        have z1 := q3.frozen 1
        have z2 := q3.frozen 2
        have z3 := q3.frozen 3
        have z4 := q3.frozen 4
        have z5 := q3.frozen 5
        have z6 := q3.frozen 6
        have z7 := q3.frozen 7
        have z8 := q3.frozen 8
        have a0 : wr.cell? ⟨w.heap.size + 1, 0, none⟩ = some (.int .i64 0) := q3.cell 0
        have a1 : wr.cell? ⟨w.heap.size + 1, 1, none⟩ = some (.int .i64 0) := q3.cell 1
        have a2 : wr.cell? ⟨w.heap.size + 1, 2, none⟩ = some (.int .i64 0) := q3.cell 2
        have a3 : wr.cell? ⟨w.heap.size + 1, 3, none⟩ = some (.int .i64 0) := q3.cell 3
        have a4 : wr.cell? ⟨w.heap.size + 1, 4, none⟩ = some (.int .i64 0) := q3.cell 4
        have a5 : wr.cell? ⟨w.heap.size + 1, 5, none⟩ = some (.int .i64 0) := q3.cell 5
        have a6 : wr.cell? ⟨w.heap.size + 1, 6, none⟩ = some (.int .u8 0) := q3.cell 6
        have a7 : wr.cell? ⟨w.heap.size + 1, 7, none⟩ = some (.slice none 0 0) := q3.cell 7
        have a8 : wr.cell? ⟨w.heap.size + 1, 8, none⟩ = some (.int .i64 0) := q3.cell 8
        clear q3 q1
        by_cases hh : p.o.has x y = true
        · have B1 : Hid ((view ps).best x y (k + 1) = some k) := by
            have := BS.out; simp only [hh, if_true] at this; exact this
          rw [hh] at CV
          clear BS hh
          go_wp2_with (go_at_call 119; refine CV.out.mono ?_; rintro e w2 ⟨rfl, nq, rfl⟩)
          go_roundw
          case rel =>
            refine ⟨k + 1, by go_num, by omega, (f.then (F2.out nq)).set9 (.inr (by omega)) _ _ _ _ _ _ _ _ _, ?_, .inr ⟨k, p, B1.out, HP.out, rfl, ?_⟩⟩
            · exact (HR.out.fr0 (F2.out nq)).fr (S := [w.heap.size + 1]) ((Fr.refl _ _).set9 (.inl (by simp)) _ _ _ _ _ _ _ _ _) (by simp)
            · exact Blk.set9 _ _ _ _ _ _ _ _ _ (Q3.out.fr0 (F2.out nq))
          case measure => simp [intOf]; omega
        · have hh' : p.o.has x y = false := by simpa using hh
          have B1 : Hid ((view ps).best x y (k + 1) = none) := by
            have := BS.out; simp [hh'] at this; exact this
          rw [hh'] at CV
          clear BS hh hh'
          go_wp2_with (go_at_call 119; refine CV.out.mono ?_; rintro e w2 ⟨rfl, nq, rfl⟩)
          go_roundw
          case rel => exact ⟨k + 1, by go_num, by omega, f.then (F2.out nq), HR.out.fr0 (F2.out nq), .inl ⟨B1.out, rfl, Q3.out.fr0 (F2.out nq)⟩⟩
          case measure => simp [intOf]; omega
      · rw [q1] at BS
        simp only [view_at q2] at BS
        have Q2 := hide q2
        have Q3 := hide q3
        have z0 := q3.frozen 0
        have z1 := q3.frozen 1
        have z2 := q3.frozen 2
        have z3 := q3.frozen 3
        have z4 := q3.frozen 4
        have z5 := q3.frozen 5
        have z6 := q3.frozen 6
        have z7 := q3.frozen 7
        have z8 := q3.frozen 8
        have a0 : wr.cell? ⟨w.heap.size + 1, 0, none⟩ = some (.int .i64 q.o.key) := q3.cell 0
        have a1 : wr.cell? ⟨w.heap.size + 1, 1, none⟩ = some (.int .i64 q.o.x) := q3.cell 1
        have a2 : wr.cell? ⟨w.heap.size + 1, 2, none⟩ = some (.int .i64 q.o.y) := q3.cell 2
        have a3 : wr.cell? ⟨w.heap.size + 1, 3, none⟩ = some (.int .i64 q.o.w) := q3.cell 3
        have a4 : wr.cell? ⟨w.heap.size + 1, 4, none⟩ = some (.int .i64 q.o.h) := q3.cell 4
        have a5 : wr.cell? ⟨w.heap.size + 1, 5, none⟩ = some (.int .i64 q.o.layer) := q3.cell 5
        have a6 : wr.cell? ⟨w.heap.size + 1, 6, none⟩ = some (.int .u8 q.o.style) := q3.cell 6
        have a7 : wr.cell? ⟨w.heap.size + 1, 7, none⟩ = some (.slice (some ⟨q.lb, 0, none⟩) q.ls.length q.lc) := q3.cell 7
        have a8 : wr.cell? ⟨w.heap.size + 1, 8, none⟩ = some (.int .i64 q.off) := q3.cell 8
        clear q3 q2
        by_cases hh : p.o.has x y = true
        · rw [hh] at CV
          by_cases hl : q.o.layer ≤ p.o.layer
          · have B1 : Hid ((view ps).best x y (k + 1) = some k) := by
              have := BS.out; simp [hh, hl] at this; exact this
            clear BS hh q1
            go_wp2_with (go_at_call 119; refine CV.out.mono ?_; rintro e w2 ⟨rfl, nq, rfl⟩)
            go_roundw
            case rel =>
              refine ⟨k + 1, by go_num, by omega, (f.then (F2.out nq)).set9 (.inr (by omega)) _ _ _ _ _ _ _ _ _, ?_, .inr ⟨k, p, B1.out, HP.out, rfl, ?_⟩⟩
              · exact (HR.out.fr0 (F2.out nq)).fr (S := [w.heap.size + 1]) ((Fr.refl _ _).set9 (.inl (by simp)) _ _ _ _ _ _ _ _ _) (by simp)
              · exact Blk.set9 _ _ _ _ _ _ _ _ _ (Q3.out.fr0 (F2.out nq))
            case measure => simp [intOf]; omega
          · have B1 : Hid ((view ps).best x y (k + 1) = some j) := by
              have := BS.out; simp [hl] at this; exact this
            clear BS hh q1
            go_wp2_with (go_at_call 119; refine CV.out.mono ?_; rintro e w2 ⟨rfl, nq, rfl⟩)
            go_roundw
            case rel => exact ⟨k + 1, by go_num, by omega, f.then (F2.out nq), HR.out.fr0 (F2.out nq), .inr ⟨j, q, B1.out, Q2.out, rfl, Q3.out.fr0 (F2.out nq)⟩⟩
            case measure => simp [intOf]; omega
        · have hh' : p.o.has x y = false := by simpa using hh
          have B1 : Hid ((view ps).best x y (k + 1) = some j) := by
            have := BS.out; simp [hh'] at this; exact this
          rw [hh'] at CV
          clear BS hh hh' q1
          go_wp2_with (go_at_call 119; refine CV.out.mono ?_; rintro e w2 ⟨rfl, nq, rfl⟩)
          go_roundw
          case rel => exact ⟨k + 1, by go_num, by omega, f.then (F2.out nq), HR.out.fr0 (F2.out nq), .inr ⟨j, q, B1.out, Q2.out, rfl, Q3.out.fr0 (F2.out nq)⟩⟩
          case measure => simp [intOf]; omega
    · have hk' : k = ps.length := by omega
      subst hk'
      have z0 := hres.frozen 0
      have z1 := hres.frozen 1
      have z2 := hres.frozen 2
      have z3 := hres.frozen 3
      have z4 := hres.frozen 4
      have z5 := hres.frozen 5
      have z6 := hres.frozen 6
      have z7 := hres.frozen 7
      have z8 := hres.frozen 8
      have e0 : wr.cell? ⟨w.heap.size, 0, none⟩ = some (.int .i64 0) := hres.cell 0
      have e1 : wr.cell? ⟨w.heap.size, 1, none⟩ = some (.int .i64 0) := hres.cell 1
      have e2 : wr.cell? ⟨w.heap.size, 2, none⟩ = some (.int .i64 0) := hres.cell 2
      have e3 : wr.cell? ⟨w.heap.size, 3, none⟩ = some (.int .i64 0) := hres.cell 3
      have e4 : wr.cell? ⟨w.heap.size, 4, none⟩ = some (.int .i64 0) := hres.cell 4
      have e5 : wr.cell? ⟨w.heap.size, 5, none⟩ = some (.int .i64 0) := hres.cell 5
      have e6 : wr.cell? ⟨w.heap.size, 6, none⟩ = some (.int .u8 0) := hres.cell 6
      have e7 : wr.cell? ⟨w.heap.size, 7, none⟩ = some (.slice none 0 0) := hres.cell 7
      have e8 : wr.cell? ⟨w.heap.size, 8, none⟩ = some (.int .i64 0) := hres.cell 8
      clear hres hend H
      rcases hfr with ⟨q1, rfl, q3⟩ | ⟨j, q, q1, q2, rfl, q3⟩
      · have Q1 := hide q1
        have a0 : wr.cell? ⟨w.heap.size + 1, 0, none⟩ = some (.int .i64 0) := q3.cell 0
        have a1 : wr.cell? ⟨w.heap.size + 1, 1, none⟩ = some (.int .i64 0) := q3.cell 1
        have a2 : wr.cell? ⟨w.heap.size + 1, 2, none⟩ = some (.int .i64 0) := q3.cell 2
        have a3 : wr.cell? ⟨w.heap.size + 1, 3, none⟩ = some (.int .i64 0) := q3.cell 3
        have a4 : wr.cell? ⟨w.heap.size + 1, 4, none⟩ = some (.int .i64 0) := q3.cell 4
        have a5 : wr.cell? ⟨w.heap.size + 1, 5, none⟩ = some (.int .i64 0) := q3.cell 5
        have a6 : wr.cell? ⟨w.heap.size + 1, 6, none⟩ = some (.int .u8 0) := q3.cell 6
        have a7 : wr.cell? ⟨w.heap.size + 1, 7, none⟩ = some (.slice none 0 0) := q3.cell 7
        have a8 : wr.cell? ⟨w.heap.size + 1, 8, none⟩ = some (.int .i64 0) := q3.cell 8
        clear q3 q1
        go_wp2
        refine bodyPost_ret (v := .tuple #[.agg #[.int .i64 0, .int .i64 0, .int .i64 0, .int .i64 0, .int .i64 0, .int .i64 0, .int .u8 0, .slice none 0 0, .int .i64 0], .bool false]) (by simp [results, Tryz.results107, go_sem, e0, e1, e2, e3, e4, e5, e6, e7, e8]) rfl ?_
        exact ⟨f.set9 (.inr (by omega)) _ _ _ _ _ _ _ _ _, .inl ⟨Q1.out, rfl⟩⟩
      · have Q1 := hide q1
        have Q2 := hide q2
        have a0 : wr.cell? ⟨w.heap.size + 1, 0, none⟩ = some (.int .i64 q.o.key) := q3.cell 0
        have a1 : wr.cell? ⟨w.heap.size + 1, 1, none⟩ = some (.int .i64 q.o.x) := q3.cell 1
        have a2 : wr.cell? ⟨w.heap.size + 1, 2, none⟩ = some (.int .i64 q.o.y) := q3.cell 2
        have a3 : wr.cell? ⟨w.heap.size + 1, 3, none⟩ = some (.int .i64 q.o.w) := q3.cell 3
        have a4 : wr.cell? ⟨w.heap.size + 1, 4, none⟩ = some (.int .i64 q.o.h) := q3.cell 4
        have a5 : wr.cell? ⟨w.heap.size + 1, 5, none⟩ = some (.int .i64 q.o.layer) := q3.cell 5
        have a6 : wr.cell? ⟨w.heap.size + 1, 6, none⟩ = some (.int .u8 q.o.style) := q3.cell 6
        have a7 : wr.cell? ⟨w.heap.size + 1, 7, none⟩ = some (.slice (some ⟨q.lb, 0, none⟩) q.ls.length q.lc) := q3.cell 7
        have a8 : wr.cell? ⟨w.heap.size + 1, 8, none⟩ = some (.int .i64 q.off) := q3.cell 8
        clear q3 q1 q2
        go_wp2
        refine bodyPost_ret (v := .tuple #[.agg #[.int .i64 q.o.key, .int .i64 q.o.x, .int .i64 q.o.y, .int .i64 q.o.w, .int .i64 q.o.h, .int .i64 q.o.layer, .int .u8 q.o.style, .slice (some ⟨q.lb, 0, none⟩) q.ls.length q.lc, .int .i64 q.off], .bool true]) (by simp [results, Tryz.results107, go_sem, e0, e1, e2, e3, e4, e5, e6, e7, e8]) rfl ?_
        exact ⟨f.set9 (.inr (by omega)) _ _ _ _ _ _ _ _ _, .inr ⟨j, q, Q1.out, Q2.out, rfl⟩⟩
end Go.Proofs.YtjhccghhinlmdabGreatDoor
/- Package views' View: what is to be seen of it is laid on a grid. -/
namespace Go.Proofs.YtjhccghhinlmdabGreatDoor
open Go.RowKit

/-- a grid of n cells, the first k as the view tells, the others blank -/
def gridK (v : V) (W : Int) (n k : Nat) : List (Int × Int) := v.gridTo W k ++ List.replicate (n - k) (32, 7)
theorem gridK_length (v : V) (W : Int) (n k : Nat) (h : k ≤ n) : (gridK v W n k).length = n := by simp [gridK, V.gridTo]; omega
theorem gridK_put (v : V) (W : Int) (n k : Nat) (h : k < n) : (gridK v W n k).set k (v.cell ((k : Int) % W) ((k : Int) / W)) = gridK v W n (k + 1) := by
  unfold gridK
  have e : (v.gridTo W k).length = k := v.gridTo_length W k
  rw [List.set_append_right _ _ (by omega), e, Nat.sub_self, V.gridTo_succ]
  obtain ⟨m, hm⟩ : ∃ m, n - k = m + 1 := ⟨n - k - 1, by omega⟩
  rw [hm, List.replicate_succ, List.set_cons_zero, show n - (k + 1) = m by omega]
  simp
theorem gridK_skip (v : V) (W : Int) (n k : Nat) (h : k < n) (hc : v.cell ((k : Int) % W) ((k : Int) / W) = (32, 7)) : gridK v W n k = gridK v W n (k + 1) := by
  unfold gridK
  rw [V.gridTo_succ, hc]
  obtain ⟨m, hm⟩ : ∃ m, n - k = m + 1 := ⟨n - k - 1, by omega⟩
  rw [hm, List.replicate_succ, show n - (k + 1) = m by omega]
  simp
theorem gridK_all (v : V) (W H : Int) : gridK v W (W * H).toNat (W * H).toNat = v.grid W H := by simp [gridK, V.grid]
theorem gridK_none (v : V) (W : Int) (n : Nat) : gridK v W n 0 = List.replicate n (32, 7) := by simp [gridK, V.gridTo]
theorem at_div {W x y : Int} (hx : 0 ≤ x) (hx2 : x < W) : (y * W + x) % W = x ∧ (y * W + x) / W = y := by
  constructor
  · rw [Int.add_comm, Int.add_mul_emod_self_right, Int.emod_eq_of_lt hx hx2]
  · rw [Int.add_comm, Int.add_mul_ediv_right _ _ (by omega), Int.ediv_eq_zero_of_lt hx hx2]; omega

/-- the parts of a view, where a grid's cells lie apart from it -/
structure Apart (bc b : Nat) (av : Option Addr) (ps : List Pane) : Prop where
  b : b ≠ bc
  a : ∀ x, av = some x → x.block ∉ [bc]
  l : ∀ p ∈ ps, p.lb ∉ [bc]

set_option maxHeartbeats 4000000 in
set_option maxRecDepth 100000 in
theorem vpaint_any (b c : Nat) (av : Option Addr) (cap : Nat) (ps : List Pane) (W H : Int) (bg bc gcap : Nat) (sp : List Value) (w : World) (h0 : w.cell? ⟨b, c, none⟩ = some (.slice av ps.length cap)) (h : PanesAt w av ps) (hn : ps.length ≤ 12)
    (G : Grid w bg bc gcap sp W H (List.replicate (W * H).toNat (32, 7))) (A : Apart bc b av ps) :
    Calls Tryz.prog 93 #[.pointer (some ⟨b, c, none⟩), .pointer (some ⟨bg, 0, none⟩)] w
      fun e w' => e = .returned (.tuple #[]) ∧ Fr [bc] w w' ∧ Grid w' bg bc gcap sp W H ((view ps).grid W H) := by
  have w1 := G.w1
  have w2 := G.w2
  have h1 := G.h1
  have h2 := G.h2
  have HB := hide (mul_bd w1 w2 h1 h2)
  have HG := hide G
  have HP := hide h
  have HA := hide A
  clear G h A
  go_enter Tryz.func93, Tryz.ntmps93
  go_wp2
  go_loopw [4] (fun i wr => ∃ y : Int, i = .int .i64 y ∧ 0 ≤ y ∧ y ≤ H ∧ Fr [bc] w wr ∧ Grid wr bg bc gcap sp W H (gridK (view ps) W (W * H).toNat (y * W).toNat)) (fun i _ => (3000 - intOf i).toNat)
  case atStart => exact ⟨0, rfl, by omega, by omega, Fr.refl _ _, by rw [show ((0 : Int) * W).toNat = 0 by simp, gridK_none]; exact HG.out⟩
  case round =>
    obtain ⟨y, rfl, y1, y2, f, g⟩ := hrel
    have q1 : wr.cell? ⟨bg, 1, none⟩ = some (.int .i64 H) := g.hd.cell 1
    have blt := g.hd.lt
    by_cases hend : y < H
    · have HGY := hide g
      clear g
      go_wp2
      go_loopw [5] (fun i wq => ∃ x : Int, i = .int .i64 x ∧ 0 ≤ x ∧ x ≤ W ∧ Fr [bc] w wq ∧ Grid wq bg bc gcap sp W H (gridK (view ps) W (W * H).toNat (y * W + x).toNat)) (fun i _ => (3000 - intOf i).toNat)
      case atStart => exact ⟨0, rfl, by omega, by omega, f, by rw [Int.add_zero]; exact HGY.out⟩
      case round =>
        rename_i wy
        obtain ⟨x, rfl, x1, x2, f2, g2⟩ := hrel
        have r0 : wr.cell? ⟨bg, 0, none⟩ = some (.int .i64 W) := g2.hd.cell 0
        have blt2 := g2.hd.lt
        have idx := idx_bd (W := W) (H := H) (x := W - 1) (y := y) w2 h2 (by omega) (by omega) y1 hend
        by_cases hx : x < W
        · have idx2 := idx_bd (W := W) (H := H) (x := x) (y := y) w2 h2 x1 hx y1 hend
          have hkn : (y * W + x).toNat < (W * H).toNat := by omega
          obtain ⟨e1, e2⟩ := at_div (W := W) (x := x) (y := y) x1 hx
          have ek : (((y * W + x).toNat : Nat) : Int) = y * W + x := by omega
          have s0 : wr.cell? ⟨b, c, none⟩ = some (.slice av ps.length cap) := by
            rw [← h0]; exact World.cell?_of_block (w := w) (f2.block b (World.block_lt_of_cell? w _ h0) (by simpa using HA.out.b))
          have FR := hide (front_any b c av cap ps x y wr s0 (HP.out.fr f2 HA.out.a HA.out.l) hn x1 (by omega) y1 (by omega))
          have HG2 := hide g2
          have SK : Hid ((view ps).best x y ps.length = none → gridK (view ps) W (W * H).toNat (y * W + x).toNat = gridK (view ps) W (W * H).toNat (y * W + (x + 1)).toNat) := by
            intro hb
            rw [gridK_skip (view ps) W _ _ hkn (by rw [ek, e1, e2]; unfold V.cell; simp only [view, List.length_map]; simp only [view] at hb; rw [hb])]
            congr 1; omega
          have PT : Hid (∀ j p, (view ps).best x y ps.length = some j → ps[j]? = some p → (gridK (view ps) W (W * H).toNat (y * W + x).toNat).set (y * W + x).toNat (p.o.cell p.off x y) = gridK (view ps) W (W * H).toNat (y * W + (x + 1)).toNat) := by
            intro j p hb hp
            have := gridK_put (view ps) W _ _ hkn
            rw [ek, e1, e2] at this
            have ec : (view ps).cell x y = p.o.cell p.off x y := by
              unfold V.cell
              have : (view ps).length = ps.length := by simp [view]
              rw [this, hb]
              simp only [view_at hp]
            rw [ec] at this
            rw [this]
            congr 1; omega
          clear g2 e1 e2 ek idx idx2 hkn
          go_wp2_with fail
          refine FR.out.mono ?_
          rintro e w3 ⟨f3, h3⟩
          have F3 := hide (f2.then f3.of_nil)
          have G3 := hide (HG2.out.fr0 f3)
          have P3 := hide ((HP.out.fr f2 HA.out.a HA.out.l).fr0 f3)
          clear HG2 FR f3 s0
          rcases h3 with ⟨hb, rfl⟩ | ⟨j, p, hb, hp, rfl⟩
          · have SK2 := hide (SK.out hb)
            clear hb SK PT
            go_wp2
            go_roundw
            case rel =>
              refine ⟨x + 1, by go_num, by omega, by omega, F3.out.alloc _, ?_⟩
              rw [← SK2.out]; exact G3.out.fr0 ((Fr.refl _ _).alloc _)
            case measure => simp [intOf]; omega
          · have PT2 := hide (PT.out j p hb hp)
            have OK3 : Hid (PaneOk w3 p) := by obtain ⟨_, _, _, k⟩ := P3.out j p hp; exact k
            clear hb hp SK PT P3
            go_wp2_with fail
            refine (pcell_any w3.heap.size 0 p x y _ (PCells.of (Blk.new w3 p.vals 140)) (OK3.out.fr ((Fr.refl [] _).alloc _) (by simp)) x1 (by omega) y1 (by omega)).mono ?_
            rintro e w4 ⟨rfl, f4⟩
            have F4 := hide (F3.out.alloc _ |>.then f4.of_nil)
            have G4 := hide (G3.out.fr0 (((Fr.refl [] _).alloc _).then f4))
            clear F3 G3 f4 OK3
            generalize p.o.cell p.off x y = cc at *
            obtain ⟨cc1, cc2⟩ := cc
            go_wp2_with fail
            refine (put_in x y cc1 cc2 W H _ bg bc gcap sp _ (G4.out.fr0 ((Fr.refl _ _).alloc _)) x1 hx y1 hend).mono ?_
            rintro e w5 ⟨rfl, f5, g5⟩
            rw [PT2.out] at g5
            have F5 := hide ((F4.out.alloc _).then f5)
            have G5 := hide g5
            clear f5 g5 F4 G4
            go_wp2
            go_roundw
            case rel => exact ⟨x + 1, by go_num, by omega, by omega, F5.out, G5.out⟩
            case measure => simp [intOf]; omega
        · have hx' : x = W := by omega
          subst hx'
          have ey : y * x + x = (y + 1) * x := by rw [Int.add_mul]; omega
          rw [ey] at g2
          have HG2 := hide g2
          clear g2 ey hx
          go_wp2
          go_roundw
          case rel => exact ⟨y + 1, by go_num, by omega, by omega, f2, HG2.out⟩
          case measure => simp [intOf]; omega
    · have hy : y = H := by omega
      subst hy
      rw [Int.mul_comm y W, gridK_all] at g
      have HG2 := hide g
      clear g
      go_wp2
      go_end0
      exact ⟨rfl, f, HG2.out⟩
end Go.Proofs.YtjhccghhinlmdabGreatDoor
/- Package views' View: the view that comes behind. -/
namespace Go.Proofs.YtjhccghhinlmdabGreatDoor
open Go.RowKit

theorem view_drop {ps : List Pane} {k : Nat} {p : Pane} (h : ps[k]? = some p) : (view ps).drop k = (p.o, p.off) :: (view ps).drop (k + 1) := by
  have hk : k < ps.length := (List.getElem?_eq_some_iff.1 h).1
  have hk2 : k < (view ps).length := by simpa [view] using hk
  rw [List.drop_eq_getElem_cons hk2]
  rw [List.getElem?_eq_getElem hk] at h
  simp at h
  simp [view, h, Pane.wo]

set_option maxHeartbeats 1000000 in
set_option maxRecDepth 100000 in
theorem offset_any (b c : Nat) (av : Option Addr) (cap : Nat) (ps : List Pane) (key : Int) (w : World) (h0 : w.cell? ⟨b, c, none⟩ = some (.slice av ps.length cap)) (h : PanesAt w av ps) (hn : ps.length ≤ 12) :
    Calls Tryz.prog 89 #[.pointer (some ⟨b, c, none⟩), .int .i64 key] w fun e w' => e = .returned (.int .i64 ((view ps).offOf key)) ∧ w = w' := by
  have H := hide h
  clear h
  go_enter Tryz.func89, Tryz.ntmps89
  go_wp2
  go_loopw [5] (fun i wr => ∃ k : Nat, i = .int .i64 k ∧ k ≤ ps.length ∧ w = wr ∧ (view ps).offOf key = V.offOf ((view ps).drop k) key) (fun i _ => (3000 - intOf i).toNat)
  case atStart => exact ⟨0, rfl, by omega, rfl, by simp⟩
  case round =>
    obtain ⟨k, rfl, hk, rfl, he⟩ := hrel
    by_cases hend : k < ps.length
    · obtain ⟨p, hp⟩ : ∃ p, ps[k]? = some p := ⟨_, List.getElem?_eq_getElem hend⟩
      obtain ⟨g, rfl, C, OK⟩ := H.out k p hp
      have c0 := C.c0
      have c8 := C.c8
      have b1 : (k : Int) < ps.length := by omega
      rw [view_drop hp, show V.offOf ((p.o, p.off) :: (view ps).drop (k + 1)) key = if p.o.key = key then p.off else V.offOf ((view ps).drop (k + 1)) key from rfl] at he
      by_cases hq : p.o.key = key
      · rw [if_pos hq] at he
        have E := hide he
        have bq : (p.o.key == key) = true := by simpa using hq
        clear he C OK H hq hp
        go_wp2
        go_ret
        exact ⟨ret_int E.out.symm, rfl⟩
      · rw [if_neg hq] at he
        have E := hide he
        have bq : (p.o.key == key) = false := by simpa using hq
        clear he C OK H hq hp
        go_wp2
        go_roundw
        case rel => exact ⟨k + 1, by go_num, by omega, by trivial, E.out⟩
        case measure => simp [intOf]; omega
    · have E : Hid ((view ps).offOf key = 0) := by
        rw [List.drop_eq_nil_of_le (by simp [view]; omega)] at he; exact he
      clear he
      go_wp2
      go_ret
      exact ⟨ret_int E.out.symm, rfl⟩

def flatP (ps : List Pane) : List Value := ps.flatMap Pane.vals
theorem flatP_length (ps : List Pane) : (flatP ps).length = ps.length * 9 := by
  induction ps with
  | nil => rfl
  | cons p ps ih => simp only [flatP, List.flatMap_cons, List.length_append, List.length_cons, Pane.vals, List.length_nil] at *; omega
theorem flatP_snoc (ps : List Pane) (p : Pane) : flatP ps ++ p.vals = flatP (ps ++ [p]) := by simp [flatP]
theorem flatP_at (ps : List Pane) : ∀ (i : Nat) (p : Pane), ps[i]? = some p → ∀ j, j < 9 → (flatP ps)[i * 9 + j]? = p.vals[j]? := by
  induction ps with
  | nil => intro i p h; simp at h
  | cons q ps ih =>
    intro i p h j hj
    have hq : q.vals.length = 9 := rfl
    cases i with
    | zero =>
      simp at h; subst h
      simp only [flatP, List.flatMap_cons, Nat.zero_mul, Nat.zero_add]
      rw [List.getElem?_append_left (by omega)]
    | succ i =>
      simp at h
      have := ih i p h j hj
      simp only [flatP, List.flatMap_cons] at *
      rw [List.getElem?_append_right (by omega), hq, show (i + 1) * 9 + j - 9 = i * 9 + j by omega]
      exact this

/-- a slice of panes, and where they lie -/
structure PanesIn (base : Nat) (w : World) (v : Value) (ps : List Pane) : Prop where
  row : (v = .slice none 0 0 ∧ ps = []) ∨ ∃ g cap sp, v = .slice (some ⟨g, 0, none⟩) ps.length cap ∧ Blk w g (flatP ps ++ sp) 140 ∧ base ≤ g
  ok : ∀ p ∈ ps, PaneOk w p ∧ base ≤ p.lb
theorem PanesIn.at' {base : Nat} {w : World} {v : Value} {ps : List Pane} (h : PanesIn base w v ps) : ∃ av cap, v = .slice av ps.length cap ∧ PanesAt w av ps := by
  rcases h.row with ⟨rfl, rfl⟩ | ⟨g, cap, sp, rfl, hb, _⟩
  · exact ⟨none, 0, rfl, fun i p hp => by simp at hp⟩
  · refine ⟨_, cap, rfl, fun i p hp => ⟨g, rfl, ?_, (h.ok p (List.mem_of_getElem? hp)).1⟩⟩
    have hi : i < ps.length := (List.getElem?_eq_some_iff.1 hp).1
    have hl := flatP_length ps
    have k : ∀ j, j < 9 → w.cell? ⟨g, i * 9 + j, none⟩ = p.vals[j]? := by
      intro j hj
      rw [hb.cell, List.getElem?_append_left (by omega), flatP_at ps i p hp j hj]
    exact ⟨k 0 (by decide), k 1 (by decide), k 2 (by decide), k 3 (by decide), k 4 (by decide), k 5 (by decide), k 6 (by decide), k 7 (by decide), k 8 (by decide)⟩
theorem PanesIn.fr {base : Nat} {w w' : World} {S : List Nat} {v : Value} {ps : List Pane} (h : PanesIn base w v ps) (f : Fr S w w') (h1 : ∀ g, v.ownBlock = some g → g ∉ S) (h2 : ∀ p ∈ ps, p.lb ∉ S) : PanesIn base w' v ps := by
  refine ⟨?_, fun p hp => ⟨(h.ok p hp).1.fr f (h2 p hp), (h.ok p hp).2⟩⟩
  rcases h.row with h0 | ⟨g, cap, sp, rfl, hb, hg⟩
  · exact .inl h0
  · exact .inr ⟨g, cap, sp, rfl, hb.fr f (h1 g rfl), hg⟩

theorem LinesAt.ne {w : World} {b c : Nat} {ls : List ByteArray} {vs : List Value} {ty : TypeId} (h : LinesAt w b ls) (k : Blk w c vs ty) (ht : 9 ≠ ty) : b ≠ c := by
  obtain ⟨us, hu, _⟩ := h
  exact hu.ne k ht
theorem LinesAt.grown {w w' : World} {row : Option Nat} {b : Nat} {ls : List ByteArray} (h : LinesAt w b ls) (hg : w.grownBy w' row) (hn : some b ≠ row) : LinesAt w' b ls := by
  obtain ⟨us, hu, h2⟩ := h
  exact ⟨us, hu.grown hg hn, h2⟩
theorem LinesAt.off {w : World} {base : Nat} {b : Nat} {ls : List ByteArray} {v : Value} {n size : Nat} {xs : List Value} (h : LinesAt w b ls) (k : w.ownsRow base 140 size v n xs) : some b ≠ v.ownBlock := by
  obtain ⟨us, hu, _⟩ := h
  exact own_ne k hu (by decide)
/-- what a slice owns is a block of its type -/
theorem own_blk' {w : World} {base : Nat} {e : TypeId} {size : Nat} {v : Value} {n : Nat} {xs : List Value} (h : w.ownsRow base e size v n xs) {g : Nat} (hv : v.ownBlock = some g) : ∃ us, Blk w g us e := by
  rcases h.2 with ⟨rfl, _⟩ | ⟨g', cap, cur, rfl, _, hg, _⟩
  · simp [Value.ownBlock] at hv
  · simp [Value.ownBlock] at hv
    subst hv
    exact ⟨cur.toList, by unfold Blk; rw [hg]⟩
theorem nine_one (a0 a1 a2 a3 a4 a5 a6 : Int) (v : Value) (a8 : Int) (hv : v.oneCell' = true) : ∀ u ∈ [Value.int .i64 a0, .int .i64 a1, .int .i64 a2, .int .i64 a3, .int .i64 a4, .int .i64 a5, .int .u8 a6, v, .int .i64 a8], u.oneCell' = true := by
  intro u hu
  simp only [List.mem_cons, List.not_mem_nil, or_false] at hu
  rcases hu with rfl | rfl | rfl | rfl | rfl | rfl | rfl | rfl | rfl <;> first | exact hv | rfl

set_option maxHeartbeats 1000000 in
set_option maxRecDepth 100000 in
theorem next_no (pv : Option Addr) (wa : Option Addr) (ws : List Win) (n wcap : Nat) (w : World) (h : WinsAt w wa ws) (hn : ws.length = n) (hcap : n ≤ wcap) (hl : n ≤ 9223372036854775807) (hsz : ∀ o ∈ ws, o.text.size ≤ 9223372036854775807) (he : errV ws ≠ 0) :
    Calls Tryz.prog 69 #[.pointer pv, .slice wa n wcap] w fun e w' => e = .returned (.tuple #[.agg #[.slice none 0 0], .int .i64 (errV ws)]) ∧ Fr [] w w' := by
  have CK := hide (check_any ws wa n wcap (w.alloc (.cells #[.slice none 0 0] 94)) (h.fr ((Fr.refl [] _).alloc _) (by simp)) hn hcap hl hsz)
  have be : (errV ws == 0) = false := by simpa using he
  clear h hsz he
  generalize errV ws = er at *
  go_enter Tryz.func69, Tryz.ntmps69
  go_wp2_with fail
  refine CK.out.mono ?_
  rintro e w1 ⟨rfl, f1⟩
  have B := (Blk.new w [.slice none 0 0] 94).fr0 f1
  have c0 : w1.cell? ⟨w.heap.size, 0, none⟩ = some (.slice none 0 0) := B.cell 0
  have z0 := B.frozen 0
  have F : Hid (Fr [] w w1) := ((Fr.refl _ _).alloc _).then f1
  clear B f1
  go_wp2
  refine bodyPost_ret (v := .tuple #[.agg #[.slice none 0 0], .int .i64 er]) (by simp [results, Tryz.results69, go_sem, c0]) rfl ?_
  exact ⟨rfl, F.out.setCell (.inr (by simp)) _⟩

/-- the view that comes behind is handed back -/
def NextPost (w : World) (ps : List Pane) (ws : List Win) (e : Ending) (w' : World) : Prop :=
  ∃ v qs, e = .returned (.tuple #[.agg #[v], .int .i64 0]) ∧ view qs = (view ps).next ws ∧ PanesIn w.heap.size w' v qs ∧ Fr [] w w'

theorem next_take (v : V) (ws : List Win) (k : Nat) (o : Win) (h : ws[k]? = some o) : (v.next ws).take (k + 1) = (v.next ws).take k ++ [(o, o.fits (v.offOf o.key))] := by
  rw [List.take_add_one]
  simp [V.next, h]

theorem info_pane : (Tryz.prog.info? 140).map (fun i => (i.zero, i.size, i.bytes)) = some (some (.agg #[.int .i64 0, .int .i64 0, .int .i64 0, .int .i64 0, .int .i64 0, .int .i64 0, .int .u8 0, .slice none 0 0, .int .i64 0]), 9, 88) := by kernel_rfl
end Go.Proofs.YtjhccghhinlmdabGreatDoor
/- Package views' View: the view that comes behind, of windows that may be. -/
namespace Go.Proofs.YtjhccghhinlmdabGreatDoor
open Go.RowKit

theorem PaneOk.off {w : World} {base : Nat} {p : Pane} {v : Value} {n size : Nat} {xs : List Value} (h : PaneOk w p) (k : w.ownsRow base 140 size v n xs) : some p.lb ≠ v.ownBlock := h.ls.off k
theorem PaneOk.grown {w w' : World} {row : Option Nat} {p : Pane} (h : PaneOk w p) (hg : w.grownBy w' row) (hn : some p.lb ≠ row) : PaneOk w' p := ⟨h.ok, h.o1, h.o2, h.ls.grown hg hn⟩

/-- so many panes of the new view have been made -/
structure Made (base : Nat) (w : World) (nb : Nat) (v : Value) (qs : List Pane) : Prop where
  hd : Blk w nb [v] 94
  row : w.ownsRow base 140 9 v qs.length (flatP qs)
  ok : ∀ p ∈ qs, PaneOk w p ∧ base ≤ p.lb
theorem Made.fr {base : Nat} {w w' : World} {S : List Nat} {nb : Nat} {v : Value} {qs : List Pane} (h : Made base w nb v qs) (f : Fr S w w') (hs : ∀ x ∈ S, w.heap.size ≤ x) : Made base w' nb v qs := by
  have f0 : Fr [] w w' := f.weak (fun i hi => .inr (hs i hi))
  exact ⟨h.hd.fr0 f0, own_fr0 h.row f0, fun p hp => ⟨(h.ok p hp).1.fr f0 (by simp), (h.ok p hp).2⟩⟩
theorem Made.more {base : Nat} {w w1 w2 : World} {nb g cap : Nat} {v : Value} {qs : List Pane} {q : Pane} {o : Obj} (h : Made base w nb v qs) (hq : PaneOk w q) (hb : base ≤ q.lb) (hw : w1 = w.alloc o)
    (hown : w2.ownsRow base 140 9 (.slice (some ⟨g, 0, none⟩) (qs.length + 1) cap) (qs.length + 1) (flatP qs ++ q.vals)) (hg : w1.grownBy w2 v.ownBlock) :
    Blk w2 nb [v] 94 ∧ Made base (w2.setCell ⟨nb, 0, none⟩ (.slice (some ⟨g, 0, none⟩) (qs.length + 1) cap)) nb (.slice (some ⟨g, 0, none⟩) (qs.length + 1) cap) (qs ++ [q]) := by
  subst hw
  have hA := h.fr ((Fr.refl [] w).alloc o) (by simp)
  have hqA : PaneOk (w.alloc o) q := hq.fr ((Fr.refl [] _).alloc _) (by simp)
  have hd2 : Blk w2 nb [v] 94 := hA.hd.grown hg (own_ne hA.row hA.hd (by decide))
  have fs : Fr [nb] w2 (w2.setCell ⟨nb, 0, none⟩ (.slice (some ⟨g, 0, none⟩) (qs.length + 1) cap)) := (Fr.refl _ _).setCell (.inl (by simp)) _
  have each : ∀ p, PaneOk (w.alloc o) p → PaneOk (w2.setCell ⟨nb, 0, none⟩ (.slice (some ⟨g, 0, none⟩) (qs.length + 1) cap)) p := by
    intro p hp
    have h2 : PaneOk w2 p := hp.grown hg (hp.off hA.row)
    exact h2.fr fs (by simpa using h2.ls.ne hd2 (by decide))
  refine ⟨hd2, hd2.set 0 _, ?_, ?_⟩
  · rw [← flatP_snoc, List.length_append]
    exact own_fr hown fs (by intro b hb; simp at hb; subst hb; exact own_ne hown hd2 (by decide))
  · intro p hp
    rcases List.mem_append.1 hp with hp | hp
    · exact ⟨each p (hA.ok p hp).1, (h.ok p hp).2⟩
    · simp at hp; subst hp; exact ⟨each p hqA, hb⟩

set_option maxHeartbeats 4000000 in
set_option maxRecDepth 100000 in
theorem next_yes (b c : Nat) (av : Option Addr) (cap : Nat) (ps : List Pane) (wa : Option Addr) (ws : List Win) (n wcap : Nat) (w : World) (h0 : w.cell? ⟨b, c, none⟩ = some (.slice av ps.length cap)) (hps : PanesAt w av ps) (hn12 : ps.length ≤ 12)
    (h : WinsAt w wa ws) (hn : ws.length = n) (hcap : n ≤ wcap) (hsz : ∀ o ∈ ws, o.text.size ≤ 9223372036854775807) (he : errV ws = 0) :
    Calls Tryz.prog 69 #[.pointer (some ⟨b, c, none⟩), .slice wa n wcap] w (NextPost w ps ws) := by
  subst hn
  obtain ⟨l12, hok⟩ := errV_ok he
  have CK := hide (check_any ws wa _ wcap (w.alloc (.cells #[.slice none 0 0] 94)) (h.fr ((Fr.refl [] _).alloc _) (by simp)) rfl hcap (by omega) hsz)
  rw [he] at CK
  obtain ⟨i0, hi, hz0, hz1, hz2⟩ := info_parts info_pane
  have H := hide h
  have HP := hide hps
  have HK := hide hok
  clear h hsz he hps hok
  go_enter Tryz.func69, Tryz.ntmps69
  go_wp2_with fail
  refine CK.out.mono ?_
  rintro e w1 ⟨rfl, f1⟩
  have FW : Hid (Fr [] w w1) := ((Fr.refl _ _).alloc _).then f1
  have B0 : Hid (Blk w1 w.heap.size [.slice none 0 0] 94) := (Blk.new w [.slice none 0 0] 94).fr0 f1
  clear f1 CK
  have hw1 : w.heap.size < w1.heap.size := B0.out.lt
  go_wp2
  go_loopw [8] (fun i wr => ∃ (k : Nat) (v : Value) (qs : List Pane), i = .int .i64 k ∧ k ≤ ws.length ∧ qs.length = k ∧ Fr [] w wr ∧ Blk wr w.heap.size [.slice none 0 0] 94 ∧ Made w.heap.size wr w1.heap.size v qs ∧ view qs = ((view ps).next ws).take k) (fun i _ => (3000 - intOf i).toNat)
  case atStart => exact ⟨0, .slice none 0 0, [], rfl, by omega, rfl, FW.out.alloc _, B0.out.alloc _, ⟨Blk.new w1 [.slice none 0 0] 94, World.ownsRow_nil _ _ _ _, by simp⟩, by simp [view]⟩
  case round =>
    obtain ⟨k, v, qs, rfl, hk, hq, f, hb0, hm, hv⟩ := hrel
    subst hq
    by_cases hend : qs.length < ws.length
    · obtain ⟨o, ho⟩ : ∃ o, ws[qs.length]? = some o := ⟨_, List.getElem?_eq_getElem hend⟩
      have ok := (errAt_ok (HK.out qs.length o ho)).1
      have NT := hide (next_take (view ps) ws qs.length o ho)
      obtain ⟨wb, woff, rfl, C⟩ := H.out.fr f (by simp) qs.length o ho
      obtain ⟨c0, c1, c2, c3, c4, c5, c6, c7⟩ := C
      have b1 : (qs.length : Int) < ws.length := by omega
      have HB0 := hide hb0
      have HM := hide hm
      have HV := hide hv
      clear hb0 hm hv ho
      go_wp2_with fail
      refine (newPane_any o _ ok).mono ?_
      rintro e w2 ⟨p, hpo, hpf, rfl, hlb, pok, f2⟩
      subst hpo
      have F2 := hide f2
      have FP : Hid (Fr [] w w2) := f.then f2
      have POK := hide pok
      have M2 : Hid (Made w.heap.size w2 w1.heap.size v qs) := HM.out.fr f2 (by simp)
      have PF := hide hpf
      have LB : Hid (w.heap.size ≤ p.lb) := Nat.le_trans f.size hlb
      clear c0 c1 c2 c3 c4 c5 c6 c7 f2 pok hpf hlb HM
      have FA : Hid (Fr [] w (w2.alloc (.cells #[.int .i64 p.o.key, .int .i64 p.o.x, .int .i64 p.o.y, .int .i64 p.o.w, .int .i64 p.o.h, .int .i64 p.o.layer, .int .u8 p.o.style, .slice (some ⟨p.lb, 0, none⟩) p.ls.length p.lc, .int .i64 0] 140))) := FP.out.alloc _
      have OF : Hid (Calls Tryz.prog 89 #[.pointer (some ⟨b, c, none⟩), .int .i64 p.o.key] (w2.alloc (.cells #[.int .i64 p.o.key, .int .i64 p.o.x, .int .i64 p.o.y, .int .i64 p.o.w, .int .i64 p.o.h, .int .i64 p.o.layer, .int .u8 p.o.style, .slice (some ⟨p.lb, 0, none⟩) p.ls.length p.lc, .int .i64 0] 140)) fun e w' => e = .returned (.int .i64 ((view ps).offOf p.o.key)) ∧ (w2.alloc (.cells #[.int .i64 p.o.key, .int .i64 p.o.x, .int .i64 p.o.y, .int .i64 p.o.w, .int .i64 p.o.h, .int .i64 p.o.layer, .int .u8 p.o.style, .slice (some ⟨p.lb, 0, none⟩) p.ls.length p.lc, .int .i64 0] 140)) = w') :=
        offset_any b c av cap ps p.o.key _ (by rw [← h0]; exact World.cell?_of_block (w := w) (FA.out.block b (World.block_lt_of_cell? w _ h0) (by simp))) (HP.out.fr0 FA.out) hn12
      have SC : Hid (Calls Tryz.prog 90 #[.pointer (some ⟨w2.heap.size, 0, none⟩), .int .i64 ((view ps).offOf p.o.key)] (w2.alloc (.cells #[.int .i64 p.o.key, .int .i64 p.o.x, .int .i64 p.o.y, .int .i64 p.o.w, .int .i64 p.o.h, .int .i64 p.o.layer, .int .u8 p.o.style, .slice (some ⟨p.lb, 0, none⟩) p.ls.length p.lc, .int .i64 0] 140)) fun e w' => e = .returned (.tuple #[]) ∧ Fr [w2.heap.size] (w2.alloc (.cells #[.int .i64 p.o.key, .int .i64 p.o.x, .int .i64 p.o.y, .int .i64 p.o.w, .int .i64 p.o.h, .int .i64 p.o.layer, .int .u8 p.o.style, .slice (some ⟨p.lb, 0, none⟩) p.ls.length p.lc, .int .i64 0] 140)) w' ∧ Blk w' w2.heap.size [.int .i64 p.o.key, .int .i64 p.o.x, .int .i64 p.o.y, .int .i64 p.o.w, .int .i64 p.o.h, .int .i64 p.o.layer, .int .u8 p.o.style, .slice (some ⟨p.lb, 0, none⟩) p.ls.length p.lc, .int .i64 (p.o.fits ((view ps).offOf p.o.key))] 140) :=
        scrollTo_any w2.heap.size 0 p.lb p.lc p.o ((view ps).offOf p.o.key) _ [.int .i64 p.o.key, .int .i64 p.o.x, .int .i64 p.o.y, .int .i64 p.o.w, .int .i64 p.o.h, .int .i64 p.o.layer, .int .u8 p.o.style, .slice (some ⟨p.lb, 0, none⟩) p.ls.length p.lc, .int .i64 0] 140 (Blk.new _ _ _) 0 rfl rfl rfl ok
      have ft := Win.fits_bd p.o ok ((view ps).offOf p.o.key)
      generalize hoff : (view ps).offOf p.o.key = off at *
      go_wp2_with fail
      refine OF.out.mono ?_
      rintro e w3 ⟨rfl, wc⟩
      subst wc
      go_wp2_with fail
      refine SC.out.mono ?_
      rintro e w3 ⟨rfl, f3, b3⟩
      have F3 : Hid (Fr [] w2 w3) := (((Fr.refl _ _).alloc _).of_nil.then f3).weak (by simp)
      have M3 : Hid (Made w.heap.size w3 w1.heap.size v qs) := M2.out.fr F3.out (by simp)
      have B3 := hide b3
      have PQ : Hid (PaneOk w3 ⟨p.o, p.o.fits off, p.lb, p.lc⟩) := ⟨ok, ft.1, ft.2, POK.out.ls.fr F3.out (by simp)⟩
      have a0 : w3.cell? ⟨w2.heap.size, 0, none⟩ = some (.int .i64 p.o.key) := b3.cell 0
      have a1 : w3.cell? ⟨w2.heap.size, 1, none⟩ = some (.int .i64 p.o.x) := b3.cell 1
      have a2 : w3.cell? ⟨w2.heap.size, 2, none⟩ = some (.int .i64 p.o.y) := b3.cell 2
      have a3 : w3.cell? ⟨w2.heap.size, 3, none⟩ = some (.int .i64 p.o.w) := b3.cell 3
      have a4 : w3.cell? ⟨w2.heap.size, 4, none⟩ = some (.int .i64 p.o.h) := b3.cell 4
      have a5 : w3.cell? ⟨w2.heap.size, 5, none⟩ = some (.int .i64 p.o.layer) := b3.cell 5
      have a6 : w3.cell? ⟨w2.heap.size, 6, none⟩ = some (.int .u8 p.o.style) := b3.cell 6
      have a7 : w3.cell? ⟨w2.heap.size, 7, none⟩ = some (.slice (some ⟨p.lb, 0, none⟩) p.ls.length p.lc) := b3.cell 7
      have a8 : w3.cell? ⟨w2.heap.size, 8, none⟩ = some (.int .i64 (p.o.fits off)) := b3.cell 8
      have blt := b3.lt
      have e0 : w3.cell? ⟨w1.heap.size, 0, none⟩ = some v := M3.out.hd.cell 0
      have FZ : Hid (Fr [] w w3) := FP.out.then F3.out
      have OB : Hid (w.heap.size ≤ w3.heap.size) := FZ.out.size
      have B03 : Hid (Blk w3 w.heap.size [.slice none 0 0] 94) := HB0.out.fr0 (F2.out.then F3.out)
      have VS : Hid (view (qs ++ [⟨p.o, p.o.fits off, p.lb, p.lc⟩]) = ((view ps).next ws).take (qs.length + 1)) := by
        have := NT.out
        show _ = _
        rw [this, ← HV.out]
        simp [view, Pane.wo]
      clear f3 b3 SC OF POK M2 B3 FA HV NT hoff
      go_wp2_with (at_builtin; refine wpList_append_lies _ rfl (.tmp 35) (.tmp 37) 92 rfl w.heap.size 140 i0 (.agg #[.int .i64 0, .int .i64 0, .int .i64 0, .int .i64 0, .int .i64 0, .int .i64 0, .int .u8 0, .slice none 0 0, .int .i64 0]) 9 88 Tryz.underlying92 hi hz0 hz1 hz2 rfl (by decide) v qs.length (flatP qs) rfl (own_fr0 M3.out.row ((Fr.refl _ _).alloc _)) ⟨w3.heap.size, 0, none⟩ 1 1 [.int .i64 p.o.key, .int .i64 p.o.x, .int .i64 p.o.y, .int .i64 p.o.w, .int .i64 p.o.h, .int .i64 p.o.layer, .int .u8 p.o.style, .slice (some ⟨p.lb, 0, none⟩) p.ls.length p.lc, .int .i64 (p.o.fits off)] rfl rfl (World.news_of_block (cs := #[.int .i64 p.o.key, .int .i64 p.o.x, .int .i64 p.o.y, .int .i64 p.o.w, .int .i64 p.o.h, .int .i64 p.o.layer, .int .u8 p.o.style, .slice (some ⟨p.lb, 0, none⟩) p.ls.length p.lc, .int .i64 (p.o.fits off)]) (t := 140) (fr := (0, 0)) (by exact heap_alloc_new w3 _)) (nine_one _ _ _ _ _ _ _ _ _ rfl) (by omega) (by unfold maxLen; omega) (by omega) (by simp; have := OB.out; omega) (w3.heap.size + 1) (by simp) ?_; intro g1 cap1 w4 hown1 hgrow hat hlt1; have D := Made.more M3.out PQ.out LB.out rfl hown1 hgrow; have q3 : w4.cell? ⟨w1.heap.size, 0, none⟩ = some v := D.1.cell 0; have fz3 := D.1.frozen 0; have D1 := hide D.1; have D2 := hide D.2; have F4 : Hid (Fr [] w w4) := (Fr.grown (FZ.out.alloc _) hgrow (fun j hj => .inr (M3.out.row.lt j hj).1)); have B04 : Hid (Blk w4 w.heap.size [.slice none 0 0] 94) := ((B03.out.alloc _).grown hgrow (own_ne M3.out.row B03.out (by decide))); clear D hown1 hgrow hat)
      go_roundw
      case rel =>
        refine ⟨qs.length + 1, _, _, by go_num, by omega, by simp, F4.out.setCell (.inr (by simp; omega)) _, ?_, D2.out, VS.out⟩
        exact B04.out.setOther (by simp; omega) _
      case measure => simp [intOf]; omega
    · have hk' : qs.length = ws.length := by omega
      have HV : Hid (view qs = (view ps).next ws) := by
        show _ = _; rw [hv, List.take_of_length_le (by simp [V.next]; omega)]
      have HPN : Hid (PanesIn w.heap.size wr v qs) := by
        refine ⟨?_, hm.ok⟩
        rcases hm.row.2 with ⟨rfl, h00⟩ | ⟨g, cap', cur, rfl, hbg, hg, hc1, hc2, hc3, hc4⟩
        · exact .inl ⟨rfl, List.eq_nil_of_length_eq_zero h00⟩
        · refine .inr ⟨g, cap', cur.toList.drop (qs.length * 9), rfl, ?_, hbg⟩
          rw [← hc4, List.take_append_drop]; exact hg
      have NE : Hid (∀ g, v.ownBlock = some g → g ∉ [w.heap.size]) := by
        intro g hg
        obtain ⟨us, hu⟩ := own_blk' hm.row hg
        simpa using hu.ne hb0 (by decide)
      have NL : Hid (∀ p ∈ qs, p.lb ∉ [w.heap.size]) := by
        intro p hp
        simpa using (hm.ok p hp).1.ls.ne hb0 (by decide)
      have e0 : wr.cell? ⟨w1.heap.size, 0, none⟩ = some v := hm.hd.cell 0
      have r0 : wr.cell? ⟨w.heap.size, 0, none⟩ = some (.slice none 0 0) := hb0.cell 0
      have z0 := hb0.frozen 0
      have blt := hb0.lt
      have hone : v.oneCell' = true := by
        rcases hm.row.2 with ⟨rfl, _⟩ | ⟨g, cap', cur, rfl, _⟩ <;> rfl
      obtain ⟨sa, sl, sc, rfl⟩ : ∃ sa sl sc, v = .slice sa sl sc := by
        rcases hm.row.2 with ⟨rfl, _⟩ | ⟨g, cap', cur, rfl, _⟩ <;> exact ⟨_, _, _, rfl⟩
      clear hm hb0 hv hone
      go_wp2
      refine bodyPost_ret (v := .tuple #[.agg #[.slice sa sl sc], .int .i64 0]) (by simp [results, Tryz.results69, go_sem, r0]) rfl ?_
      exact ⟨_, qs, rfl, HV.out, HPN.out.fr (S := [w.heap.size]) ((Fr.refl _ _).setCell (.inl (by simp)) _) NE.out NL.out, f.setCell (.inr (by simp)) _⟩
end Go.Proofs.YtjhccghhinlmdabGreatDoor
