/- The statements' room: a painter, and a terminal that is fed what it answers. -/
import Derived.Test.YtjhccghhinlmdaaDoorKeepPaint
namespace Go.Proofs.YtjhccghhinlmdaaDoor
open Go.RowKit

/-- a painter and a terminal of one size -/
def RoomPost (w : World) (W H : Int) (e : Ending) (w' : World) : Prop :=
  ∃ b g bt gt, e = .returned (.tuple #[.agg #[.pointer (some ⟨b, 0, none⟩), .pointer (some ⟨bt, 0, none⟩), .int .i64 W, .int .i64 H], .bool true]) ∧ (∀ x ∈ pfoot b g, w.heap.size ≤ x) ∧ (∀ x ∈ foot bt gt, w.heap.size ≤ x) ∧ (∀ x ∈ pfoot b g, x ∉ foot bt gt) ∧ Fr [] w w' ∧ PntAt w' b g ⟨W, H, [], 0, 0⟩ ∧ TermAt w' bt gt (T.new W H)

set_option maxHeartbeats 1000000 in
set_option maxRecDepth 100000 in
theorem opened_any (a c : Int) (w : World) (a1 : -9223372036854775808 ≤ a) (a2 : a ≤ 9223372036854775807) (c1 : -9223372036854775808 ≤ c) (c2 : c ≤ 9223372036854775807) :
    Calls Tryd.prog 9 #[.int .i64 a, .int .i64 c] w (RoomPost w (1 + pickI a 40) (1 + pickI c 20)) := by
  have p1 := pickI_bd a 40 (by decide)
  have p2 := pickI_bd c 20 (by decide)
  have PA := hide (fun w' => pick_any a 40 w' a1 a2 (by decide) (by decide))
  have PC := hide (fun w' => pick_any c 20 w' c1 c2 (by decide) (by decide))
  generalize pickI a 40 = pa at *
  generalize pickI c 20 = pc at *
  go_enter Tryd.func9, Tryd.ntmps9
  go_wp2_with fail
  refine (PA.out _).mono ?_
  rintro e w' ⟨rfl, wc⟩
  subst wc
  go_wp2_with fail
  refine (PC.out _).mono ?_
  rintro e w' ⟨rfl, wc⟩
  subst wc
  go_wp2_with fail
  refine (newPainter_yes (1 + pa) (1 + pc) _ (by omega) (by omega) (by omega) (by omega)).mono ?_
  rintro e w1 ⟨b, g, rfl, n1, f1, h1⟩
  have N1 := hide n1
  have F1 := hide f1
  have H1 := hide h1
  clear n1 f1 h1
  go_wp2_with fail
  refine (newTerminal_yes (1 + pa) (1 + pc) _ (by omega) (by omega) (by omega) (by omega)).mono ?_
  rintro e w2 ⟨bt, gt, rfl, n2, f2, h2⟩
  have N2 := hide n2
  have F2 : Hid (Fr [] (w.alloc (.cells #[.pointer none, .pointer none, .int .i64 0, .int .i64 0] 27)) w2) := F1.out.then f2
  have H2 := hide h2
  have H3 := hide (H1.out.fr0 f2)
  have D : Hid (∀ x ∈ pfoot b g, x ∉ foot bt gt) := fun x hx hy => by
    have := H1.out.lt x hx; have := n2 x hy; omega
  have S1 := hide f2.size
  have B := (Blk.new w [.pointer none, .pointer none, .int .i64 0, .int .i64 0] 27).fr0 F2.out
  have q0 : w2.cell? ⟨w.heap.size, 0, none⟩ = some (.pointer none) := B.cell 0
  have q1 : w2.cell? ⟨w.heap.size, 1, none⟩ = some (.pointer none) := B.cell 1
  have q2 : w2.cell? ⟨w.heap.size, 2, none⟩ = some (.int .i64 0) := B.cell 2
  have q3 : w2.cell? ⟨w.heap.size, 3, none⟩ = some (.int .i64 0) := B.cell 3
  have z0 := B.frozen 0
  have z1 := B.frozen 1
  have z2 := B.frozen 2
  have z3 := B.frozen 3
  clear n2 f2 h2 B H1
  go_wp2
  refine bodyPost_ret (v := .tuple #[.agg #[.pointer (some ⟨b, 0, none⟩), .pointer (some ⟨bt, 0, none⟩), .int .i64 (1 + pa), .int .i64 (1 + pc)], .bool true]) (by simp [results, Tryd.results9, go_sem, q0, q1, q2, q3]) rfl ?_
  have ge1 : ∀ x ∈ pfoot b g, w.heap.size + 1 ≤ x := fun x hx => by have := N1.out x hx; simpa using this
  have ge2 : ∀ x ∈ foot bt gt, w.heap.size + 1 ≤ x := fun x hx => by have := N2.out x hx; have := F1.out.size; simp at this; omega
  have fs : Fr [w.heap.size] w2 ((((w2.setCell ⟨w.heap.size, 0, none⟩ (.pointer (some ⟨b, 0, none⟩))).setCell ⟨w.heap.size, 1, none⟩ (.pointer (some ⟨bt, 0, none⟩))).setCell ⟨w.heap.size, 2, none⟩ (.int .i64 (1 + pa))).setCell ⟨w.heap.size, 3, none⟩ (.int .i64 (1 + pc))) := ((((Fr.refl _ _).setCell (.inl (by simp)) _).setCell (.inl (by simp)) _).setCell (.inl (by simp)) _).setCell (.inl (by simp)) _
  refine ⟨b, g, bt, gt, rfl, fun x hx => by have := ge1 x hx; omega, fun x hx => by have := ge2 x hx; omega, D.out, ?_, H3.out.fr fs (fun x hx => by have := ge1 x hx; simp; omega), H2.out.fr fs (fun x hx => by have := ge2 x hx; simp; omega)⟩
  exact (((Fr.refl _ _).alloc _).then F2.out).trans fs (by simp) (by simp)
end Go.Proofs.YtjhccghhinlmdaaDoor
