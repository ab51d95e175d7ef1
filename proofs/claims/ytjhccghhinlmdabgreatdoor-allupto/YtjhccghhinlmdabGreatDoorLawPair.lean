/- A terminal of the program and the document's, side by side: what one step of a script makes of them. -/
import Derived.Test.YtjhccghhinlmdabGreatDoorSimSty
namespace Go.Proofs.YtjhccghhinlmdabGreatDoor
open Go.RowKit

set_option maxHeartbeats 400000 in
theorem feed_nil (s : ByteArray) (w : World) :
    Calls Tryz.prog 16 #[.pointer none, .string s] w fun e w' => e = .returned (.int .i64 1) ∧ w = w' := by
  go_enter Tryz.func16, Tryz.ntmps16
  go_wp2
  go_ret
  exact ⟨rfl, rfl⟩
set_option maxHeartbeats 400000 in
theorem row_nil (y : Int) (w : World) :
    Calls Tryz.prog 20 #[.pointer none, .int .i64 y] w fun e w' => e = .returned (.tuple #[.string ByteArray.empty, .string ByteArray.empty, .int .i64 1]) ∧ w = w' := by
  go_enter Tryz.func20, Tryz.ntmps20
  go_wp2
  go_ret3
  exact ⟨rfl, rfl⟩
set_option maxHeartbeats 400000 in
theorem refRow_nil (y : Int) (w : World) :
    Calls Tryz.prog 21 #[.pointer none, .int .i64 y] w fun e w' => e = .returned (.tuple #[.string ByteArray.empty, .string ByteArray.empty, .int .i64 1]) ∧ w = w' := by
  go_enter Tryz.func21, Tryz.ntmps21
  go_wp2
  go_ret3
  exact ⟨rfl, rfl⟩
set_option maxHeartbeats 400000 in
theorem cursor_nil (w : World) :
    Calls Tryz.prog 23 #[.pointer none] w fun e w' => e = .returned (.tuple #[.agg #[.int .i64 0, .int .i64 0, .bool false], .int .i64 1]) ∧ Fr [] w w' := by
  go_enter Tryz.func23, Tryz.ntmps23
  go_wp2
  exact bodyPost_ret (v := .tuple #[.agg #[.int .i64 0, .int .i64 0, .bool false], .int .i64 1]) (by simp [results, Tryz.results23, go_sem]) rfl ⟨rfl, by repeat first | exact Fr.refl _ _ | apply Fr.drew | apply Fr.alloc⟩
set_option maxHeartbeats 400000 in
theorem refCursor_nil (w : World) :
    Calls Tryz.prog 24 #[.pointer none] w fun e w' => e = .returned (.tuple #[.agg #[.int .i64 0, .int .i64 0, .bool false], .int .i64 1]) ∧ Fr [] w w' := by
  go_enter Tryz.func24, Tryz.ntmps24
  go_wp2
  exact bodyPost_ret (v := .tuple #[.agg #[.int .i64 0, .int .i64 0, .bool false], .int .i64 1]) (by simp [results, Tryz.results24, go_sem]) rfl ⟨rfl, by repeat first | exact Fr.refl _ _ | apply Fr.drew | apply Fr.alloc⟩

/-- where the two lie, and what the document's holds -/
structure Pr where
  bt : Nat
  gt : Gh
  b : Nat
  g : RGh
  r : R
def Pr.foot (p : Pr) : List Nat := Proofs.YtjhccghhinlmdabGreatDoor.foot p.bt p.gt ++ rfoot p.b p.g
/-- they lie there, and the program's holds what the document's does -/
structure PairAt (w : World) (p : Pr) : Prop where
  t : TermAt w p.bt p.gt p.r.toT
  d : RefAt w p.b p.g p.r
  sty : StyL p.r.cells
  ap : ∀ x ∈ Proofs.YtjhccghhinlmdabGreatDoor.foot p.bt p.gt, x ∉ rfoot p.b p.g
theorem PairAt.fr {w w' : World} {S : List Nat} {p : Pr} (h : PairAt w p) (f : Fr S w w') (hn : ∀ x ∈ p.foot, x ∉ S) : PairAt w' p :=
  ⟨h.t.fr f (fun x hx => hn x (by simp [Pr.foot, hx])), h.d.fr f (fun x hx => hn x (by simp [Pr.foot, hx])), h.sty, h.ap⟩
theorem PairAt.fr0 {w w' : World} {p : Pr} (h : PairAt w p) (f : Fr [] w w') : PairAt w' p := h.fr f (by simp)
theorem PairAt.lt {w : World} {p : Pr} (h : PairAt w p) : ∀ x ∈ p.foot, x < w.heap.size := by
  intro x hx
  rcases List.mem_append.1 hx with hx | hx
  · exact h.t.lt x hx
  · exact h.d.lt x hx

/-- the pair at this place has become one that holds r' -/
def QUpd (p : Pr) (r' : R) (w w' : World) : Prop :=
  ∃ p', p'.bt = p.bt ∧ p'.b = p.b ∧ p'.r = r' ∧ PairAt w' p' ∧ Fr p.foot w w' ∧ ∀ x ∈ p'.foot, x ∈ p.foot ∨ w.heap.size ≤ x
/-- the document's lies where it did while the program's turns -/
theorem PairAt.mid {w w1 : World} {p : Pr} {t' : T} (h : PairAt w p) (u : Upd p.bt p.gt t' w w1) : RefAt w1 p.b p.g p.r := by
  obtain ⟨g1, a1, f1, s1⟩ := u
  exact h.d.fr f1 (fun x hx hf => h.ap x hf hx)
theorem QUpd.of {w w1 w2 : World} {p : Pr} {r' : R} (h : PairAt w p) (u : Upd p.bt p.gt r'.toT w w1) (v : RUpd p.b p.g r' w1 w2) (hs : StyL r'.cells) : QUpd p r' w w2 := by
  obtain ⟨g1, a1, f1, s1⟩ := u
  obtain ⟨g2, a2, f2, s2⟩ := v
  have ap1 : ∀ x ∈ Proofs.YtjhccghhinlmdabGreatDoor.foot p.bt g1, x ∉ rfoot p.b p.g := by
    intro x hx hr
    rcases s1 x hx with h1 | h1
    · exact h.ap x h1 hr
    · have := h.d.lt x hr; omega
  refine ⟨⟨p.bt, g1, p.b, g2, r'⟩, rfl, rfl, rfl, ⟨a1.fr f2 ap1, a2, hs, ?_⟩, ?_, ?_⟩
  · intro x hx hr
    rcases s2 x hr with h1 | h1
    · exact ap1 x hx h1
    · have := a1.lt x hx; omega
  · exact f1.trans f2 (fun i hi => .inl (by simp [Pr.foot, hi])) (fun i hi => .inl (by simp [Pr.foot, hi]))
  · intro x hx
    have := f1.size
    rcases List.mem_append.1 hx with hx | hx
    · rcases s1 x hx with h1 | h1
      · exact .inl (by simp [Pr.foot, h1])
      · exact .inr h1
    · rcases s2 x hx with h1 | h1
      · exact .inl (by simp [Pr.foot, h1])
      · exact .inr (by omega)
theorem QUpd.same {w w' : World} {p : Pr} (h : PairAt w p) (f : Fr [] w w') : QUpd p p.r w w' :=
  ⟨p, rfl, rfl, rfl, h.fr0 f, f.of_nil, fun _ hx => .inl hx⟩
theorem QUpd.ahead {w w1 w2 : World} {p : Pr} {r' : R} (f : Fr [] w w1) (u : QUpd p r' w1 w2) : QUpd p r' w w2 := by
  obtain ⟨p', e1, e2, e3, a, f2, s⟩ := u
  refine ⟨p', e1, e2, e3, a, (f.of_nil).then f2, fun x hx => ?_⟩
  rcases s x hx with h | h
  · exact .inl h
  · have := f.size; exact .inr (by omega)

/-- what a step of a script does to the document's terminal -/
def R.step (r : R) (k a c : Int) (s : ByteArray) : R :=
  if k = 2 then r.feed (nums s) else if k = 3 then (if sizeB a c = true then r.turn a c else r) else r
end Go.Proofs.YtjhccghhinlmdabGreatDoor
