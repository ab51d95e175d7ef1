/- A window as it comes in: its eight cells. -/
import Derived.Test.YtjhccghhinlmdaaDoorPaintCheck
import Derived.ProofKit
import Derived.OpenShut
import Derived.ShutString
import Derived.SizedLaws
import Derived.Deep.Slices
namespace Go.Proofs.YtjhccghhinlmdaaDoor
open Go.ChangeShapes Go.WideShapes Go.ChangeAt Go.RowKit Go.Deep

theorem laidOut' : laidOutB Tryd.prog = true := by kernel_rfl
theorem cells_window : Tryd.prog.cellsOf 23 = 8 := by kernel_rfl
theorem cells_int' : Tryd.prog.cellsOf 3 = 1 := by kernel_rfl
theorem cells_str' : Tryd.prog.cellsOf 9 = 1 := by kernel_rfl
theorem eight {α : Type} (l : List α) (h : l.length = 8) : ∃ a b c d e f g i, l = [a, b, c, d, e, f, g, i] := by
  match l, h with
  | [a, b, c, d, e, f, g, i], _ => exact ⟨a, b, c, d, e, f, g, i, rfl⟩
theorem int_bd {n : Int} (h : (Lit.int .i64 n).wf = true) : -9223372036854775808 ≤ n ∧ n ≤ 9223372036854775807 := by
  simpa [Lit.wf, IntKind.min, IntKind.max, IntKind.signed, IntKind.bits] using h

/-- a window whose numbers lie in the machine's range -/
structure Win.Wf (o : Win) : Prop where
  k : -9223372036854775808 ≤ o.key ∧ o.key ≤ 9223372036854775807
  x : -9223372036854775808 ≤ o.x ∧ o.x ≤ 9223372036854775807
  y : -9223372036854775808 ≤ o.y ∧ o.y ≤ 9223372036854775807
  w : -9223372036854775808 ≤ o.w ∧ o.w ≤ 9223372036854775807
  h : -9223372036854775808 ≤ o.h ∧ o.h ≤ 9223372036854775807
  l : -9223372036854775808 ≤ o.layer ∧ o.layer ≤ 9223372036854775807
  s : -9223372036854775808 ≤ o.style ∧ o.style ≤ 9223372036854775807

theorem win_cells {H : Type} {enc : TypeId × Value → H} {w : World} {spare : Nat → Bool} {held : Bool} {fuel : Nat} {cs : List Value} {y : DataW H × List MemPlace} (h : DataW.trod enc Tryd.prog w 0 spare held fuel 23 cs = some y) :
    ∃ o : Win, cs = o.vals ∧ o.Wf ∧ y.1 = .agg [.lit (.int .i64 o.key), .lit (.int .i64 o.x), .lit (.int .i64 o.y), .lit (.int .i64 o.w), .lit (.int .i64 o.h), .lit (.int .i64 o.layer), .lit (.int .i64 o.style), .lit (.string o.text.data.toList)] := by
  obtain ⟨xs, m, rfl, hy, hl, hxl, hf⟩ := DataW.trod_struct Tryd.underlying23 h
  rw [cells_window] at hl
  obtain ⟨c0, c1, c2, c3, c4, c5, c6, c7, rfl⟩ := eight cs hl
  obtain ⟨y0, y1, y2, y3, y4, y5, y6, y7, rfl⟩ := eight xs hxl
  have g0 := hf 0 _ rfl
  have g1 := hf 1 _ rfl
  have g2 := hf 2 _ rfl
  have g3 := hf 3 _ rfl
  have g4 := hf 4 _ rfl
  have g5 := hf 5 _ rfl
  have g6 := hf 6 _ rfl
  have g7 := hf 7 _ rfl
  simp [cells_int', cells_str'] at g0 g1 g2 g3 g4 g5 g6 g7
  obtain ⟨a0, e0, z0, w0⟩ := DataW.trod_int Tryd.underlying3 g0
  obtain ⟨a1, e1, z1, w1⟩ := DataW.trod_int Tryd.underlying3 g1
  obtain ⟨a2, e2, z2, w2⟩ := DataW.trod_int Tryd.underlying3 g2
  obtain ⟨a3, e3, z3, w3⟩ := DataW.trod_int Tryd.underlying3 g3
  obtain ⟨a4, e4, z4, w4⟩ := DataW.trod_int Tryd.underlying3 g4
  obtain ⟨a5, e5, z5, w5⟩ := DataW.trod_int Tryd.underlying3 g5
  obtain ⟨a6, e6, z6, w6⟩ := DataW.trod_int Tryd.underlying3 g6
  obtain ⟨s, e7, z7, _⟩ := DataW.trod_string Tryd.underlying9 g7
  simp only [List.cons.injEq, and_true] at e0 e1 e2 e3 e4 e5 e6 e7
  subst e0 e1 e2 e3 e4 e5 e6 e7
  refine ⟨⟨a0, a1, a2, a3, a4, a5, a6, s⟩, rfl, ⟨int_bd w0, int_bd w1, int_bd w2, int_bd w3, int_bd w4, int_bd w5, int_bd w6⟩, ?_⟩
  rw [hy, z0, z1, z2, z3, z4, z5, z6, z7]
  rfl
/-- the text of a window that comes in by value -/
theorem sized_win {H : Type} {ts : List TypeId} {ds : List (DataW H)} (h : (DataW.weightsEach Tryd.prog ts ds).all (· ≤ reachBytes) = true) {j : Nat} {o : Win} (ht : ts[j]? = some 23)
    (hd : ds[j]? = some (.agg [.lit (.int .i64 o.key), .lit (.int .i64 o.x), .lit (.int .i64 o.y), .lit (.int .i64 o.w), .lit (.int .i64 o.h), .lit (.int .i64 o.layer), .lit (.int .i64 o.style), .lit (.string o.text.data.toList)])) : o.text.size ≤ 140737488351232 := by
  have := List.all_eq_true.1 h _ (DataW.weights_mem_each ht hd o.text.data.toList.length (by simp [DataW.weights, Tryd.underlying23, DataW.weightsEach]))
  have h2 : o.text.data.toList.length ≤ reachBytes := by simpa using this
  rw [Array.length_toList] at h2
  exact h2
set_option maxRecDepth 100000 in
/-- a window by value -/
theorem win_arg {H : Type} {enc : TypeId × Value → H} {w : World} {base : Nat} {r : Reach} {v : Value} {d : DataW H} {p : List MemPlace} (hok : Value.okWide Tryd.prog w r base 23 v) (h : DataW.Trod enc Tryd.prog w 0 (fun _ => true) true 23 v d p) :
    ∃ o : Win, v = .agg #[.int .i64 o.key, .int .i64 o.x, .int .i64 o.y, .int .i64 o.w, .int .i64 o.h, .int .i64 o.layer, .int .i64 o.style, .string o.text] ∧ o.Wf ∧ d = .agg [.lit (.int .i64 o.key), .lit (.int .i64 o.x), .lit (.int .i64 o.y), .lit (.int .i64 o.w), .lit (.int .i64 o.h), .lit (.int .i64 o.layer), .lit (.int .i64 o.style), .lit (.string o.text.data.toList)] := by
  obtain ⟨cs, rfl, _⟩ := okWide_struct Tryd.underlying23 hok
  obtain ⟨fuel, hf⟩ := h
  obtain ⟨o, h1, h2, h3⟩ := win_cells hf
  refine ⟨o, ?_, h2, h3⟩
  have : cs.toList = o.vals := by simpa [Value.cells] using h1
  congr 1
  rw [← Array.toArray_toList (xs := cs), this]
  rfl
end Go.Proofs.YtjhccghhinlmdaaDoor
