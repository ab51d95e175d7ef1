/- The statements' own small functions, of painters: numbers brought to where they may be; a row as two windows tell it. -/
import Derived.Test.YtjhccghhinlmdaaDoorKeepPick
import Derived.Test.YtjhccghhinlmdaaDoorPainterCalls
import Derived.Laws.IdiomStrings
namespace Go.Proofs.YtjhccghhinlmdaaDoor
open Go.RowKit

set_option maxHeartbeats 400000 in
theorem bring_any (n lo hi m : Int) (w : World) (hm : hi - lo + 1 = m) (l1 : -1000 ≤ lo) (l2 : lo ≤ hi) (l3 : hi ≤ 1000) (n1 : -9223372036854775808 ≤ n) (n2 : n ≤ 9223372036854775807) :
    Calls Tryd.prog 15 #[.int .i64 n, .int .i64 lo, .int .i64 hi] w fun e w' => e = .returned (.int .i64 (lo + pickI n m)) ∧ w = w' := by
  subst hm
  have bd := pickI_bd n (hi - lo + 1) (by omega)
  have PK := hide (pick_any n (hi - lo + 1) w n1 n2 (by omega) (by omega))
  generalize pickI n (hi - lo + 1) = pk at *
  go_enter Tryd.func15, Tryd.ntmps15
  go_wp2_with (go_at_call 14; refine PK.out.mono ?_; rintro e w' ⟨rfl, rfl⟩)
  go_ret
  exact ⟨rfl, rfl⟩

set_option maxHeartbeats 1000000 in
set_option maxRecDepth 100000 in
theorem kwithin_any (o : Win) (x y : Int) (w : World) (ok : o.Ok) (x1 : 0 ≤ x) (x2 : x ≤ 40) (y1 : 0 ≤ y) (y2 : y ≤ 20) :
    Calls Tryd.prog 35 #[.agg #[.int .i64 o.key, .int .i64 o.x, .int .i64 o.y, .int .i64 o.w, .int .i64 o.h, .int .i64 o.layer, .int .i64 o.style, .string o.text], .int .i64 x, .int .i64 y] w
      fun e w' => e = .returned (.bool (o.has x y)) ∧ w' = w.alloc (.cells #[.int .i64 o.key, .int .i64 o.x, .int .i64 o.y, .int .i64 o.w, .int .i64 o.h, .int .i64 o.layer, .int .i64 o.style, .string o.text] 23) := by
  obtain ⟨_, _, a1, a2, a3, a4, a5, a6, a7, a8, _, _, _, _, _⟩ := ok
  have HH : Hid (o.has x y = (decide (o.x ≤ x) && decide (x < o.x + o.w) && decide (o.y ≤ y) && decide (y < o.y + o.h))) := rfl
  go_enter Tryd.func35, Tryd.ntmps35
  go_wp2
  all_goals go_ret
  all_goals exact ⟨ret_bool (by rw [HH.out, Bool.eq_iff_iff]; simp; try omega), rfl⟩

/-- what a window of a text without ends of lines has in a cell -/
def Win.charK (o : Win) (x y : Int) : Int := if (o.text.size : Int) ≤ (y - o.y) * o.w + x - o.x then 32 else shownC (byteAt o.text ((y - o.y) * o.w + x - o.x).toNat)
theorem Win.charK_bd (o : Win) (x y : Int) : 32 ≤ o.charK x y ∧ o.charK x y ≤ 126 := by
  unfold Win.charK shownC
  split
  · omega
  · split <;> omega
theorem has_iff {o : Win} {x y : Int} : o.has x y = true ↔ o.x ≤ x ∧ x < o.x + o.w ∧ o.y ≤ y ∧ y < o.y + o.h := by
  simp [Win.has, and_assoc]

set_option maxHeartbeats 1000000 in
set_option maxRecDepth 100000 in
theorem kchar_any (o : Win) (x y : Int) (w : World) (ok : o.Ok) (hh : o.has x y = true) (x1 : 0 ≤ x) (x2 : x ≤ 40) (y1 : 0 ≤ y) (y2 : y ≤ 20) :
    Calls Tryd.prog 36 #[.agg #[.int .i64 o.key, .int .i64 o.x, .int .i64 o.y, .int .i64 o.w, .int .i64 o.h, .int .i64 o.layer, .int .i64 o.style, .string o.text], .int .i64 x, .int .i64 y] w
      fun e w' => e = .returned (.int .u8 (o.charK x y)) ∧ w' = w.alloc (.cells #[.int .i64 o.key, .int .i64 o.x, .int .i64 o.y, .int .i64 o.w, .int .i64 o.h, .int .i64 o.layer, .int .i64 o.style, .string o.text] 23) := by
  obtain ⟨p1, p2, p3, p4⟩ := has_iff.1 hh
  obtain ⟨_, _, a1, a2, a3, a4, a5, a6, a7, a8, _, _, _, _, at'⟩ := ok
  have m1 : 0 ≤ (y - o.y) * o.w := Int.mul_nonneg (by omega) (by omega)
  have m2 : (y - o.y) * o.w ≤ 200 * 99 := Int.mul_le_mul (by omega) (by omega) (by omega) (by omega)
  have HK : Hid (o.charK x y = if (o.text.size : Int) ≤ (y - o.y) * o.w + x - o.x then 32 else shownC (byteAt o.text ((y - o.y) * o.w + x - o.x).toNat)) := rfl
  have BY : Hid (∀ k : Nat, (h : k < o.text.size) → byteAt o.text k = (o.text[k].toNat : Int)) := fun k h => byteAt_eq _ k h
  clear hh p2 p4
  have m3 : (y - o.y) * o.w ≤ 19800 := by omega
  clear m2
  by_cases h : (o.text.size : Int) ≤ (y - o.y) * o.w + x - o.x
  · have E : Hid (o.charK x y = 32) := by show _ = _; rw [HK.out, if_pos h]
    go_enter Tryd.func36, Tryd.ntmps36
    go_wp2
    go_ret
    exact ⟨ret_int E.out.symm, rfl⟩
  · obtain ⟨i, hi⟩ := Int.eq_ofNat_of_zero_le (show 0 ≤ (y - o.y) * o.w + x - o.x by omega)
    have hlt : i < o.text.size := by omega
    have E : Hid (o.charK x y = shownC (o.text[i].toNat : Int)) := by
      show _ = _; rw [HK.out, if_neg h, hi]; simp only [Int.toNat_natCast]; rw [BY.out i hlt]
    have hby := (o.text[i]).toNat_lt
    have hlt2 : (i : Int) < o.text.size := by omega
    by_cases h7 : (o.text[i].toNat : Int) < 32
    · have E2 : Hid (o.charK x y = 63) := by show _ = _; rw [E.out]; unfold shownC; rw [if_pos (.inl h7)]
      clear BY HK E
      go_enter Tryd.func36, Tryd.ntmps36
      go_wp2
      go_ret
      exact ⟨ret_int E2.out.symm, rfl⟩
    · by_cases h8 : 126 < (o.text[i].toNat : Int)
      · have E2 : Hid (o.charK x y = 63) := by show _ = _; rw [E.out]; unfold shownC; rw [if_pos (.inr h8)]
        clear BY HK E
        go_enter Tryd.func36, Tryd.ntmps36
        go_wp2
        go_ret
        exact ⟨ret_int E2.out.symm, rfl⟩
      · have E2 : Hid (o.charK x y = (o.text[i].toNat : Int)) := by show _ = _; rw [E.out]; unfold shownC; rw [if_neg (by omega)]
        clear BY HK E
        go_enter Tryd.func36, Tryd.ntmps36
        go_wp2
        go_ret
        exact ⟨ret_int E2.out.symm, rfl⟩
end Go.Proofs.YtjhccghhinlmdaaDoor
