/- The terminal as plain data: what each call of the program makes of it. Nothing of memory here. -/
import Derived.Test.YtjhccghhinlmdabGreatDoorCells
namespace Go.Proofs.YtjhccghhinlmdabGreatDoor

structure T where
  W : Int
  H : Int
  cells : List (Int × Int)
  x : Int
  y : Int
  shown : Bool
  full : Bool
  colour : Int
  bold : Bool
  stage : Int
  params : List Int

def within (i n : Int) : Int := if n ≤ i then (if n - 1 < 0 then 0 else n - 1) else if i < 0 then 0 else i
theorem within_bd (i n : Int) (h : 1 ≤ n) : 0 ≤ within i n ∧ within i n < n := by
  unfold within; split <;> split <;> omega

namespace T
def moveTo (t : T) (x y : Int) : T := { t with x := within x t.W, y := within y t.H, full := false }
def rowDown (t : T) : T := if t.y + 1 < t.H then { t with y := t.y + 1 } else { t with cells := up t.W t.cells }
def pen (t : T) : Int := if t.bold then t.colour + 8 else t.colour
def fresh (t : T) : T := if t.full then { ({ t with x := 0 } : T).rowDown with full := false } else t
def put (t : T) (c : Int) : T := { t with cells := t.cells.set (t.y * t.W + t.x).toNat (c, t.pen) }
def onward (t : T) : T := if t.x + 1 < t.W then { t with x := t.x + 1 } else { t with full := true }
def write (t : T) (c : Int) : T := ((t.fresh).put c).onward
def takePlain (t : T) (c : Int) : T :=
  if c = 27 then { t with stage := 1 }
  else if c = 13 then t.moveTo 0 t.y
  else if c = 10 then { t.rowDown with full := false }
  else if c = 8 then t.moveTo (t.x - 1) t.y
  else if 32 ≤ c ∧ c ≤ 126 then t.write c
  else t
def takeKind (t : T) (c : Int) : T := { t with stage := if c = 91 then 2 else if c = 27 then 1 else 0 }

/-- what holds of every terminal that the program makes -/
structure Ok (t : T) : Prop where
  x0 : 0 ≤ t.x
  x1 : t.x < t.W
  y0 : 0 ≤ t.y
  y1 : t.y < t.H
  c0 : 0 ≤ t.colour
  c1 : t.colour ≤ 7
  s0 : 0 ≤ t.stage
  s1 : t.stage ≤ 2
  p1 : t.params.length ≤ 13
  p2 : ∀ p ∈ t.params, 32 ≤ p ∧ p ≤ 63

theorem Ok.moveTo {t : T} (h : t.Ok) (x y : Int) (hw : 1 ≤ t.W) (hh : 1 ≤ t.H) : (t.moveTo x y).Ok := by
  have a := within_bd x t.W hw
  have b := within_bd y t.H hh
  exact ⟨a.1, a.2, b.1, b.2, h.c0, h.c1, h.s0, h.s1, h.p1, h.p2⟩
theorem rowDown_same (t : T) : t.rowDown.W = t.W ∧ t.rowDown.H = t.H ∧ t.rowDown.x = t.x ∧ t.rowDown.colour = t.colour ∧ t.rowDown.bold = t.bold ∧ t.rowDown.stage = t.stage ∧ t.rowDown.params = t.params ∧ t.rowDown.full = t.full ∧ t.rowDown.shown = t.shown := by
  unfold rowDown; split <;> simp
theorem Ok.rowDown {t : T} (h : t.Ok) : t.rowDown.Ok := by
  unfold T.rowDown
  split
  · exact ⟨h.x0, h.x1, by simp only []; have := h.y0; omega, by assumption, h.c0, h.c1, h.s0, h.s1, h.p1, h.p2⟩
  · exact ⟨h.x0, h.x1, h.y0, h.y1, h.c0, h.c1, h.s0, h.s1, h.p1, h.p2⟩
theorem pen_bd {t : T} (h : t.Ok) : 0 ≤ t.pen ∧ t.pen ≤ 15 := by
  have := h.c0; have := h.c1; unfold pen; split <;> omega
end T
end Go.Proofs.YtjhccghhinlmdabGreatDoor
