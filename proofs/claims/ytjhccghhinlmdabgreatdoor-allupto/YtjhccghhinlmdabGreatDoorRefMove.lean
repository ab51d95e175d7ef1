/- The document's terminal: the cursor goes, the pen turns, a row down. -/
import Derived.Test.YtjhccghhinlmdabGreatDoorRefAsk
namespace Go.Proofs.YtjhccghhinlmdabGreatDoor
open Go.RowKit

def RUpd (b : Nat) (g : RGh) (r' : R) (w w' : World) : Prop :=
  ∃ g', RefAt w' b g' r' ∧ Fr (rfoot b g) w w' ∧ ∀ x ∈ rfoot b g', x ∈ rfoot b g ∨ w.heap.size ≤ x
theorem RUpd.of {b : Nat} {g : RGh} {r' : R} {w w' : World} (h : RefAt w' b g r') (f : Fr (rfoot b g) w w') : RUpd b g r' w w' := ⟨g, h, f, fun _ hb => .inl hb⟩
theorem RUpd.of1 {b : Nat} {g : RGh} {r' : R} {w w' : World} (h : RefAt w' b g r') (f : Fr [b] w w') : RUpd b g r' w w' := RUpd.of h (f.mono (by simp [rfoot]))
theorem RUpd.via {b : Nat} {g g1 : RGh} {r2 : R} {w w1 w2 : World} (f1 : Fr (rfoot b g) w w1) (s1 : ∀ x ∈ rfoot b g1, x ∈ rfoot b g ∨ w.heap.size ≤ x) (k : RUpd b g1 r2 w1 w2) : RUpd b g r2 w w2 := by
  obtain ⟨g2, a2, f2, s2⟩ := k
  refine ⟨g2, a2, f1.trans f2 (fun i hi => .inl hi) s1, fun x hx => ?_⟩
  rcases s2 x hx with h | h
  · exact s1 x h
  · have := f1.size; omega

def R.goes (r : R) (x y : Int) : R := { r with x := least (if x < 0 then 0 else x) (r.W - 1), y := least (if y < 0 then 0 else y) (r.H - 1), full := false }
theorem R.goes_ok {r : R} (h : r.Ok) (x y : Int) : (r.goes x y).Ok := by
  have := h.w1; have := h.h1
  refine ⟨h.w1, h.w2, h.h1, h.h2, h.len, ?_, ?_, ?_, ?_, h.p0, h.p1⟩
  all_goals simp only [R.goes, least]
  all_goals (repeat' split) <;> omega

set_option maxHeartbeats 2000000 in
theorem goes_any (x y : Int) (w : World) (b : Nat) (g : RGh) (r : R) (h : RefAt w b g r) :
    Calls Tryz.prog 82 #[.pointer (some ⟨b, 0, none⟩), .int .i64 x, .int .i64 y] w fun e w' => e = .returned (.tuple #[]) ∧ Fr [b] w w' ∧ RefAt w' b g (r.goes x y) := by
  obtain ⟨c0, c1, c2, c3, c4, c5, c6, c7, c8⟩ := h.cells
  have f3 := h.st.frozen 3
  have f4 := h.st.frozen 4
  have f6 := h.st.frozen 6
  have w1 := h.ok.w1
  have w2 := h.ok.w2
  have h1 := h.ok.h1
  have h2 := h.ok.h2
  have HT := hide h
  have fin : ∀ u v : Int, u = (if x < 0 then 0 else x) → v = (if y < 0 then 0 else y) → Fr [b] w (((w.setCell ⟨b, 3, none⟩ (.int .i64 (least u (r.W - 1)))).setCell ⟨b, 4, none⟩ (.int .i64 (least v (r.H - 1)))).setCell ⟨b, 6, none⟩ (.bool false)) ∧ RefAt (((w.setCell ⟨b, 3, none⟩ (.int .i64 (least u (r.W - 1)))).setCell ⟨b, 4, none⟩ (.int .i64 (least v (r.H - 1)))).setCell ⟨b, 6, none⟩ (.bool false)) b g (r.goes x y) := by
    intro u v hu hv
    have f : Fr [b] w _ := (((Fr.refl [b] w).setCell (p := ⟨b, 3, none⟩) (by simp) (.int .i64 (least u (r.W - 1)))).setCell (p := ⟨b, 4, none⟩) (by simp) (.int .i64 (least v (r.H - 1)))).setCell (p := ⟨b, 6, none⟩) (by simp) (.bool false)
    refine ⟨f, HT.out.write f ?_ rfl (R.goes_ok HT.out.ok x y)⟩
    have := ((HT.out.st.set 3 (.int .i64 (least u (r.W - 1)))).set 4 (.int .i64 (least v (r.H - 1)))).set 6 (.bool false)
    subst hu
    subst hv
    exact this
  have FIN := hide fin
  clear h fin c2 c5 c7 c8
  by_cases hx : x < 0
  · have EX := hide (show (0 : Int) = if x < 0 then 0 else x by rw [if_pos hx])
    by_cases hy : y < 0
    · have EY := hide (show (0 : Int) = if y < 0 then 0 else y by rw [if_pos hy])
      go_enter Tryz.func82, Tryz.ntmps82
      go_wp2_with (go_at_call 40; refine (least_any _ _ _).mono ?_; rintro e w' ⟨rfl, rfl⟩)
      go_end0
      exact ⟨rfl, FIN.out 0 0 EX.out EY.out⟩
    · have EY := hide (show y = if y < 0 then 0 else y by rw [if_neg hy])
      go_enter Tryz.func82, Tryz.ntmps82
      go_wp2_with (go_at_call 40; refine (least_any _ _ _).mono ?_; rintro e w' ⟨rfl, rfl⟩)
      go_end0
      exact ⟨rfl, FIN.out 0 y EX.out EY.out⟩
  · have EX := hide (show x = if x < 0 then 0 else x by rw [if_neg hx])
    by_cases hy : y < 0
    · have EY := hide (show (0 : Int) = if y < 0 then 0 else y by rw [if_pos hy])
      go_enter Tryz.func82, Tryz.ntmps82
      go_wp2_with (go_at_call 40; refine (least_any _ _ _).mono ?_; rintro e w' ⟨rfl, rfl⟩)
      go_end0
      exact ⟨rfl, FIN.out x 0 EX.out EY.out⟩
    · have EY := hide (show y = if y < 0 then 0 else y by rw [if_neg hy])
      go_enter Tryz.func82, Tryz.ntmps82
      go_wp2_with (go_at_call 40; refine (least_any _ _ _).mono ?_; rintro e w' ⟨rfl, rfl⟩)
      go_end0
      exact ⟨rfl, FIN.out x y EX.out EY.out⟩

def penR (p n : Int) : Int :=
  if n = 0 then 7 else if n = 1 then p % 8 + 8 else if n = 22 then p % 8 else if 30 ≤ n ∧ n ≤ 37 then p - p % 8 + n - 30 else if n = 39 then p - p % 8 + 7 else p
theorem penR_bd (p n : Int) (h : 0 ≤ p) (h2 : p ≤ 15) : 0 ≤ penR p n ∧ penR p n ≤ 15 := by
  unfold penR; (repeat' split) <;> omega

set_option maxHeartbeats 2000000 in
set_option maxRecDepth 100000 in
theorem pen_any (p n : Int) (w : World) (h : 0 ≤ p) (h2 : p ≤ 15) (hn : 0 ≤ n) (hn2 : n ≤ 999) :
    Calls Tryz.prog 84 #[.int .i64 p, .int .i64 n] w fun e w' => e = .returned (.int .i64 (penR p n)) ∧ w = w' := by
  by_cases e0 : n = 0
  · subst e0
    go_enter Tryz.func84, Tryz.ntmps84
    go_wp2
    go_ret
    exact ⟨ret_int (by simp [penR]), rfl⟩
  by_cases e1 : n = 1
  · subst e1
    go_enter Tryz.func84, Tryz.ntmps84
    go_wp2
    go_ret
    exact ⟨ret_int (by simp [penR]), rfl⟩
  by_cases e22 : n = 22
  · subst e22
    go_enter Tryz.func84, Tryz.ntmps84
    go_wp2
    go_ret
    exact ⟨ret_int (by simp [penR]), rfl⟩
  have q0 : (n == 0) = false := by simpa using e0
  have q1 : (n == 1) = false := by simpa using e1
  have q22 : (n == 22) = false := by simpa using e22
  by_cases e30 : 30 ≤ n ∧ n ≤ 37
  · have E := hide (show penR p n = p - p % 8 + n - 30 by unfold penR; rw [if_neg e0, if_neg e1, if_neg e22, if_pos e30])
    obtain ⟨e30, e37⟩ := e30
    clear e0 e1 e22
    go_enter Tryz.func84, Tryz.ntmps84
    go_wp2
    go_ret
    exact ⟨ret_int E.out.symm, rfl⟩
  by_cases e39 : n = 39
  · subst e39
    clear e0 e1 e22 e30
    go_enter Tryz.func84, Tryz.ntmps84
    go_wp2
    go_ret
    exact ⟨ret_int (by simp [penR]), rfl⟩
  · have E := hide (show penR p n = p by unfold penR; rw [if_neg e0, if_neg e1, if_neg e22, if_neg e30, if_neg e39])
    have q39 : (n == 39) = false := by simpa using e39
    have h3 : n < 30 ∨ (30 ≤ n ∧ 37 < n) := by omega
    clear e0 e1 e22 e30 e39
    rcases h3 with h3 | ⟨h3, h4⟩
    all_goals
      go_enter Tryz.func84, Tryz.ntmps84
      go_wp2
      go_ret
      exact ⟨ret_int E.out.symm, rfl⟩
end Go.Proofs.YtjhccghhinlmdabGreatDoor
