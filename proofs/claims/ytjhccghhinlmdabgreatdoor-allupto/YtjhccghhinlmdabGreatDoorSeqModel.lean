/- What a sequence does to a terminal, as plain data. -/
import Derived.Test.YtjhccghhinlmdabGreatDoorModel
import Derived.Test.YtjhccghhinlmdabGreatDoorParamsModel
namespace Go.Proofs.YtjhccghhinlmdabGreatDoor

def atLeast (n : Int) : Int := if n < 1 then 1 else n
namespace T
def penBy (t : T) (n : Int) : T :=
  if n = 0 then { t with colour := 7, bold := false }
  else if n = 1 then { t with bold := true }
  else if n = 22 then { t with bold := false }
  else if 30 ≤ n ∧ n ≤ 37 then { t with colour := n - 30 }
  else if n = 39 then { t with colour := 7 }
  else t
def setPen (t : T) (l : List Int) : T := l.foldl penBy t
def here (t : T) : Int := t.y * t.W + t.x
def erase (t : T) (n a b : Int) : T :=
  if n = 0 then { t with cells := clr t.cells t.here b }
  else if n = 1 then { t with cells := clr t.cells a (t.here + 1) }
  else if n = 2 then { t with cells := clr t.cells a b }
  else t
def eraseCells (t : T) (k : Int) : T := { t with cells := clr t.cells t.here (t.here + (if t.W - t.x < k then t.W - t.x else k)) }
def query (t : T) (l : List Int) (c : Int) : T :=
  if l.contains 25 then (if c = 104 then { t with shown := true } else if c = 108 then { t with shown := false } else t) else t
def does (t : T) (l : List Int) (c : Int) : T :=
  if c = 72 then t.moveTo (atLeast (l.getD 1 0) - 1) (atLeast (l.getD 0 0) - 1)
  else if c = 65 then t.moveTo t.x (t.y - atLeast (l.getD 0 0))
  else if c = 66 then t.moveTo t.x (t.y + atLeast (l.getD 0 0))
  else if c = 67 then t.moveTo (t.x + atLeast (l.getD 0 0)) t.y
  else if c = 68 then t.moveTo (t.x - atLeast (l.getD 0 0)) t.y
  else if c = 74 then t.erase (l.getD 0 0) 0 (t.W * t.H)
  else if c = 75 then t.erase (l.getD 0 0) (t.y * t.W) (t.y * t.W + t.W)
  else if c = 88 then t.eraseCells (atLeast (l.getD 0 0))
  else if c = 109 then t.setPen l
  else t
def obey (t : T) (c : Int) : T :=
  match readP t.params with
  | none => t
  | some (true, l) => t.query l c
  | some (false, l) => t.does l c
def keepParam (t : T) (c : Int) : T := if t.params.length ≤ 12 then { t with params := t.params ++ [c] } else t
def drop (t : T) (c : Int) : T := { t with params := [], stage := if c = 27 then 1 else 0 }
def takeParam (t : T) (c : Int) : T :=
  if 32 ≤ c ∧ c ≤ 63 then t.keepParam c
  else if 64 ≤ c ∧ c ≤ 126 then (t.obey c).drop c
  else t.drop c
def take (t : T) (c : Int) : T :=
  if t.stage = 0 then t.takePlain c
  else if t.stage = 1 then t.takeKind c
  else t.takeParam c
def feed (t : T) (l : List Int) : T := l.foldl take t

theorem penBy_ok {t : T} (h : t.Ok) (n : Int) : (t.penBy n).Ok := by
  unfold penBy
  repeat' split
  all_goals first | exact h | exact ⟨h.x0, h.x1, h.y0, h.y1, by simp only []; first | omega | exact h.c0, by simp only []; first | omega | exact h.c1, h.s0, h.s1, h.p1, h.p2⟩
end T
end Go.Proofs.YtjhccghhinlmdabGreatDoor
