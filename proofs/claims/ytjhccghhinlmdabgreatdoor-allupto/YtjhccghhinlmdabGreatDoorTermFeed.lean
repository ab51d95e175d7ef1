/- The terminal is made, fed and asked. -/
import Derived.Test.YtjhccghhinlmdabGreatDoorTermTake
namespace Go.Proofs.YtjhccghhinlmdabGreatDoor
open Go.RowKit

set_option maxHeartbeats 1000000 in
theorem take_any (c : Int) (w : World) (bt : Nat) (g : Gh) (t : T) (h : TermAt w bt g t) :
    Calls Tryz.prog 35 #[.pointer (some ⟨bt, 0, none⟩), .int .u8 c] w fun e w' => e = .returned (.tuple #[]) ∧ Upd bt g (t.take c) w w' := by
  have c7 : w.cell? ⟨bt, 7, none⟩ = some (.int .i64 t.stage) := h.st.cell 7
  have s0 := h.ok.s0
  have s1 := h.ok.s1
  have HT := hide h
  clear h
  by_cases e0 : t.stage = 0
  · have E := hide (show t.take c = t.takePlain c by simp [T.take, e0])
    rw [e0] at c7
    have E0 := hide e0
    clear e0
    go_enter Tryz.func35, Tryz.ntmps35
    go_wp2_with (go_at_call 59; refine (takePlain_any c _ bt g t HT.out).mono ?_; rintro e w1 ⟨rfl, f1, t1⟩; have R := hide (Upd.of t1 f1); clear f1 t1)
    go_end0
    exact ⟨rfl, by rw [E.out]; exact R.out⟩
  by_cases e1 : t.stage = 1
  · have E := hide (show t.take c = t.takeKind c by simp [T.take, e1])
    rw [e1] at c7
    have E1 := hide e1
    clear e1 e0
    go_enter Tryz.func35, Tryz.ntmps35
    go_wp2_with (go_at_call 60; refine (takeKind_any c _ bt g t HT.out).mono ?_; rintro e w1 ⟨rfl, f1, t1⟩; have R := hide (Upd.of t1 (f1.mono (by simp))); clear f1 t1)
    go_end0
    exact ⟨rfl, by rw [E.out]; exact R.out⟩
  · have E := hide (show t.take c = t.takeParam c by unfold T.take; rw [if_neg e0, if_neg e1])
    have e2 : t.stage = 2 := by omega
    rw [e2] at c7
    have E2 := hide e2
    clear e1 e0 e2
    go_enter Tryz.func35, Tryz.ntmps35
    go_wp2_with (go_at_call 61; refine (takeParam_any c _ bt g t HT.out).mono ?_; rintro e w1 ⟨rfl, h1⟩; have R := hide h1; clear h1)
    go_end0
    exact ⟨rfl, by rw [E.out]; exact R.out⟩

/-- a string's bytes as numbers -/
def nums (s : ByteArray) : List Int := s.data.toList.map fun b => (b.toNat : Int)
theorem nums_length (s : ByteArray) : (nums s).length = s.size := by unfold nums; rw [List.length_map, Array.length_toList]; rfl
theorem nums_get (s : ByteArray) (k : Nat) (h : k < s.size) : (nums s).getD k 0 = (s[k].toNat : Int) := by
  have h2 : k < s.data.size := h
  simp only [nums, List.getD_eq_getElem?_getD, List.getElem?_map, Array.getElem?_toList, Array.getElem?_eq_getElem h2, Option.map_some, Option.getD_some]
  rfl

set_option maxHeartbeats 1000000 in
theorem feed_any (s : ByteArray) (w : World) (bt : Nat) (g : Gh) (t : T) (h : TermAt w bt g t) (hs : s.size ≤ 9223372036854775807) :
    Calls Tryz.prog 16 #[.pointer (some ⟨bt, 0, none⟩), .string s] w fun e w' => e = .returned (.int .i64 0) ∧ Upd bt g (t.feed (nums s)) w w' := by
  have HT := hide h
  clear h
  go_enter Tryz.func16, Tryz.ntmps16
  go_wp2
  go_loopw [5] (fun i wr => ∃ k : Nat, i = .int .i64 k ∧ k ≤ s.size ∧ Upd bt g (t.feed ((nums s).take k)) w wr) (fun i _ => s.size - (intOf i).toNat)
  case atStart => exact ⟨0, rfl, by omega, Upd.of HT.out (Fr.refl _ _)⟩
  case round =>
    obtain ⟨k, rfl, hk, hu⟩ := hrel
    by_cases hlt : k < s.size
    · have HE := hide (show t.feed ((nums s).take (k + 1)) = (t.feed ((nums s).take k)).take (s[k].toNat : Int) by
        rw [take_snoc (nums s) k 0 (by rw [nums_length]; exact hlt), nums_get s k hlt]; simp [T.feed])
      obtain ⟨g1, t1, f1, s1⟩ := hu
      have T1 := hide t1
      have FS := hide (And.intro f1 s1)
      clear t1 f1 s1
      go_wp2_with fail
      refine (take_any _ _ bt g1 _ T1.out).mono ?_
      rintro e w2 ⟨rfl, u2⟩
      have U2 : Hid (Upd bt g (t.feed ((nums s).take (k + 1))) w w2) := by
        rw [HE.out]
        exact Upd.via FS.out.1 FS.out.2 u2
      clear u2
      go_wp2
      go_roundw
      case rel => exact ⟨k + 1, by go_num, by omega, U2.out⟩
      case measure => simp [intOf]; omega
    · have E := hide (show (nums s).take k = nums s from List.take_of_length_le (by rw [nums_length]; omega))
      have U := hide hu
      clear hu
      go_wp2
      go_ret
      exact ⟨rfl, by rw [← E.out]; exact U.out⟩

/-- a new terminal's data -/
def T.new (W H : Int) : T := { W := W, H := H, cells := List.replicate (W * H).toNat (32, 7), x := 0, y := 0, shown := true, full := false, colour := 7, bold := false, stage := 0, params := [] }
theorem T.new_ok (W H : Int) (h1 : 1 ≤ W) (h2 : 1 ≤ H) : (T.new W H).Ok :=
  ⟨by simp [T.new], by simp only [T.new]; omega, by simp [T.new], by simp only [T.new]; omega, by simp [T.new], by simp [T.new], by simp [T.new], by simp [T.new], by simp [T.new], by simp [T.new]⟩

set_option maxHeartbeats 400000 in
theorem newTerminal_no (W H : Int) (w : World) (h : sizeB W H = false) :
    Calls Tryz.prog 7 #[.int .i64 W, .int .i64 H] w fun e w' => e = .returned (.tuple #[.pointer none, .int .i64 2]) ∧ w = w' := by
  go_enter Tryz.func7, Tryz.ntmps7
  go_wp2_with (go_at_call 13; refine (new_no _ _ _ h).mono ?_; rintro e w' ⟨rfl, rfl⟩)
  go_ret2
  exact ⟨rfl, rfl⟩

/-- a new terminal of this size is handed back, and OK -/
def TermPost (w : World) (W H : Int) (e : Ending) (w' : World) : Prop :=
  ∃ bt g, e = .returned (.tuple #[.pointer (some ⟨bt, 0, none⟩), .int .i64 0]) ∧ (∀ b ∈ foot bt g, w.heap.size ≤ b) ∧ Fr [] w w' ∧ TermAt w' bt g (T.new W H)

set_option maxHeartbeats 400000 in
theorem newTerminal_yes (W H : Int) (w : World) (h1 : 1 ≤ W) (h2 : W ≤ 40) (h3 : 1 ≤ H) (h4 : H ≤ 20) :
    Calls Tryz.prog 7 #[.int .i64 W, .int .i64 H] w (TermPost w W H) := by
  go_enter Tryz.func7, Tryz.ntmps7
  go_wp2_with fail
  refine (new_yes _ _ _ h1 h2 h3 h4).mono ?_
  rintro e w1 ⟨bg, bc, cap, sp, rfl, hbg, hbc, f, hg⟩
  have HG := hide hg
  clear hg
  go_wp2
  go_ret2
  refine ⟨w1.heap.size, ⟨bg, bc, cap, sp, .slice none 0 0⟩, rfl, ?_, f.alloc _, ?_⟩
  · have := f.size
    intro b hb
    simp only [foot, List.mem_cons, Value.ownBlock, Option.toList, List.not_mem_nil, or_false] at hb
    rcases hb with rfl | rfl | rfl <;> omega
  · exact ⟨Blk.new _ _ _, HG.out.fr0 ((Fr.refl _ _).alloc _), World.ownsRow_nil _ _ _ _, T.new_ok W H h1 h3⟩

set_option maxHeartbeats 400000 in
theorem row_yes (y : Int) (w : World) (bt : Nat) (g : Gh) (t : T) (h : TermAt w bt g t) (hy : 0 ≤ y) (hy2 : y < t.H) :
    Calls Tryz.prog 20 #[.pointer (some ⟨bt, 0, none⟩), .int .i64 y] w
      fun e w' => e = .returned (.tuple #[.string (strOfNums ((rowOf t.W y t.cells).map (·.1))), .string (strOfNums ((rowOf t.W y t.cells).map (·.2))), .int .i64 0]) ∧ Fr [] w w' := by
  have c0 : w.cell? ⟨bt, 0, none⟩ = some (.pointer (some ⟨g.bg, 0, none⟩)) := h.st.cell 0
  have HT := hide h
  clear h
  go_enter Tryz.func20, Tryz.ntmps20
  go_wp2_with fail
  refine (gridRow_yes y _ _ _ _ _ _ _ _ HT.out.gr hy hy2).mono ?_
  rintro e w1 ⟨rfl, f⟩
  go_wp2
  go_ret3
  exact ⟨rfl, f⟩

set_option maxHeartbeats 400000 in
theorem row_no (y : Int) (w : World) (bt : Nat) (g : Gh) (t : T) (h : TermAt w bt g t) (hy : y < 0 ∨ t.H ≤ y) :
    Calls Tryz.prog 20 #[.pointer (some ⟨bt, 0, none⟩), .int .i64 y] w
      fun e w' => e = .returned (.tuple #[.string ByteArray.empty, .string ByteArray.empty, .int .i64 8]) ∧ w = w' := by
  have c0 : w.cell? ⟨bt, 0, none⟩ = some (.pointer (some ⟨g.bg, 0, none⟩)) := h.st.cell 0
  have HT := hide h
  have HY := hide hy
  clear h hy
  go_enter Tryz.func20, Tryz.ntmps20
  go_wp2_with fail
  refine (gridRow_no y _ _ _ _ _ _ _ _ HT.out.gr HY.out).mono ?_
  rintro e w1 ⟨rfl, rfl⟩
  go_wp2
  go_ret3
  exact ⟨rfl, rfl⟩

set_option maxHeartbeats 400000 in
theorem cursor_any (w : World) (bt : Nat) (g : Gh) (t : T) (h : TermAt w bt g t) :
    Calls Tryz.prog 23 #[.pointer (some ⟨bt, 0, none⟩)] w
      fun e w' => e = .returned (.tuple #[.agg #[.int .i64 t.x, .int .i64 t.y, .bool t.shown], .int .i64 0]) ∧ Fr [] w w' := by
  obtain ⟨c0, c1, c2, c3, c4, c5, c6, c7, c8, d0, d1⟩ := h.cells
  have hbt := h.st.lt
  clear h
  go_enter Tryz.func23, Tryz.ntmps23
  go_wp2
  go_region
  all_goals
    go_wp2
    exact bodyPost_ret (v := .tuple #[.agg #[.int .i64 t.x, .int .i64 t.y, .bool t.shown], .int .i64 0]) (by simp [results, Tryz.results23, go_sem]) rfl ⟨rfl, ((Fr.refl _ _).alloc _).drew⟩
end Go.Proofs.YtjhccghhinlmdabGreatDoor
