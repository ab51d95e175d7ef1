/- A script as it comes in: its steps by their index. -/
import Derived.Test.YtjhccghhinlmdabGreatDoorLawHolds
import Derived.ProofKit
import Derived.OpenShut
import Derived.Deep.Slices
import Derived.JoinedCond
namespace Go.Proofs.YtjhccghhinlmdabGreatDoor.feeds
open Go.ChangeShapes Go.WideShapes Go.ChangeAt Go.RowKit Go.Deep

theorem bulk_pos {H : Type} (d : DataW H) : 0 < Rows.uptoBulk d := by
  cases d
  case lit l => cases l <;> simp [Rows.uptoBulk]
  all_goals simp [Rows.uptoBulk]
theorem bulk_sum {H : Type} : ∀ l : List (DataW H), Rows.uptoBulkAll l = (l.map Rows.uptoBulk).sum
  | [] => by simp [Rows.uptoBulkAll]
  | d :: l => by simp [Rows.uptoBulkAll, bulk_sum l]
theorem sum_at (f : Nat → Nat) (n i : Nat) (h : i < n) : f i ≤ ((List.range n).map f).sum := by
  induction n with
  | zero => omega
  | succ n ih =>
    rw [List.range_succ, List.map_append, List.sum_append]
    rcases Nat.lt_or_ge i n with e | e
    · have := ih e; omega
    · have : i = n := by omega
      subst this; simp
theorem sum_len (f : Nat → Nat) (n : Nat) (h : ∀ i, 0 < f i) : n ≤ ((List.range n).map f).sum := by
  induction n with
  | zero => omega
  | succ n ih =>
    rw [List.range_succ, List.map_append, List.sum_append]
    have := h n
    simp
    omega
/-- a list of n steps: there are not more of them than its bulk, and none is of more -/
theorem script_bulk {H : Type} (D : Nat → DataW H) (n : Nat) (spare : List (DataW H)) (h : Rows.uptoBulkAll [DataW.slice ((List.range n).map D) spare] ≤ 1048576) : n ≤ 1048576 ∧ ∀ i, i < n → Rows.uptoBulk (D i) ≤ 1048576 := by
  simp only [Rows.uptoBulkAll, Rows.uptoBulk] at h
  rw [bulk_sum, List.map_map] at h
  have a := sum_len (fun i => Rows.uptoBulk (D i)) n (fun i => bulk_pos _)
  have b := fun i hi => sum_at (fun i => Rows.uptoBulk (D i)) n i hi
  have e : ((List.range n).map (Rows.uptoBulk ∘ D)).sum = ((List.range n).map fun i => Rows.uptoBulk (D i)).sum := rfl
  rw [e] at h
  exact ⟨by omega, fun i hi => by have := b i hi; omega⟩

theorem cells_op : Tryz.prog.cellsOf 32 = 6 := by kernel_rfl
theorem cells_int : Tryz.prog.cellsOf 3 = 1 := by kernel_rfl
theorem cells_str : Tryz.prog.cellsOf 9 = 1 := by kernel_rfl
theorem cells_win : Tryz.prog.cellsOf 30 = 1 := by kernel_rfl

theorem six {α : Type} (l : List α) (h : l.length = 6) : ∃ a b c d e f, l = [a, b, c, d, e, f] := by
  match l, h with
  | [a, b, c, d, e, f], _ => exact ⟨a, b, c, d, e, f, rfl⟩
theorem slice_of {H : Type} {enc : TypeId × Value → H} {P : Program} {w : World} {base : Nat} {spare : Nat → Bool} {held : Bool} {t e : TypeId} {fuel : Nat} {cs : List Value} {y : DataW H × List MemPlace} (ht : P.underlying t = some (.slice e)) (hf : DataW.trod enc P w base spare held fuel t cs = some y) : ∃ a l c, cs = [.slice a l c] := by
  rcases open_slice ht hf with ⟨hcs, _⟩ | ⟨a', len', cap', m, n, D, Pl, hcs, _⟩
  · exact ⟨_, _, _, hcs⟩
  · exact ⟨_, _, _, hcs⟩

/-- one step: its six cells -/
theorem op_cells {H : Type} {enc : TypeId × Value → H} {w : World} {spare : Nat → Bool} {held : Bool} {fuel : Nat} {cs : List Value} {y : DataW H × List MemPlace} (h : DataW.trod enc Tryz.prog w 0 spare held fuel 32 cs = some y) :
    ∃ (k n a c : Int) (s : ByteArray) (av : Option Addr) (lv cv : Nat), cs = [.int .i64 k, .int .i64 n, .int .i64 a, .int .i64 c, .string s, .slice av lv cv] ∧ (Lit.int .i64 n).wf = true ∧ s.size + 1 ≤ Rows.uptoBulk y.1 := by
  obtain ⟨xs, m, rfl, hy, hl, hxl, hf⟩ := DataW.trod_struct Tryz.underlying32 h
  rw [cells_op] at hl
  obtain ⟨c0, c1, c2, c3, c4, c5, rfl⟩ := six cs hl
  obtain ⟨y0, y1, y2, y3, y4, y5, rfl⟩ := six xs hxl
  have g0 := hf 0 _ rfl
  have g1 := hf 1 _ rfl
  have g2 := hf 2 _ rfl
  have g3 := hf 3 _ rfl
  have g4 := hf 4 _ rfl
  have g5 := hf 5 _ rfl
  simp [cells_int, cells_str, cells_win] at g0 g1 g2 g3 g4 g5
  obtain ⟨k, e0, _, _⟩ := DataW.trod_int Tryz.underlying3 g0
  obtain ⟨n, e1, _, w1⟩ := DataW.trod_int Tryz.underlying3 g1
  obtain ⟨a, e2, _, _⟩ := DataW.trod_int Tryz.underlying3 g2
  obtain ⟨c, e3, _, _⟩ := DataW.trod_int Tryz.underlying3 g3
  obtain ⟨s, e4, z4, _⟩ := DataW.trod_string Tryz.underlying9 g4
  obtain ⟨av, lv, cv, e5⟩ := slice_of Tryz.underlying30 g5
  simp only [List.cons.injEq, and_true] at e0 e1 e2 e3 e4 e5
  subst e0 e1 e2 e3 e4 e5
  refine ⟨k, n, a, c, s, av, lv, cv, rfl, w1, ?_⟩
  rw [hy, z4]
  simp only [List.map_cons, List.map_nil, Rows.uptoBulk, Rows.uptoBulkAll, Array.length_toList]
  have : s.data.size = s.size := rfl
  omega
end Go.Proofs.YtjhccghhinlmdabGreatDoor.feeds
