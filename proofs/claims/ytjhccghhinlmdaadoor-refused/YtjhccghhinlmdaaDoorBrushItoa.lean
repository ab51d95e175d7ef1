/- Go's own strconv.Itoa at numbers below a hundred: their digits; nothing is turned. -/
import Derived.Test.YtjhccghhinlmdaaDoorStr
import Derived.Test.YtjhccghhinlmdaaDoorBrushBound
import Derived.Lib.AppendStr
import Derived.Lib.ItoaNum
import Derived.Lib.ItoaWalk
import Derived.Lib.Strings
namespace Go.Proofs.YtjhccghhinlmdaaDoor
open Go.RowKit

/-- a text that says the number n -/
def DigPost (n : Nat) (w : World) (e : Ending) (w' : World) : Prop := w = w' ∧ ∃ s : ByteArray, nums s = dig n ∧ e = .returned (.string s)
theorem nums_piece (s : ByteArray) (a b : Nat) (l : List Int) (h : ((nums s).drop a).take (b - a) = l) : nums (s.extract a b) = l := by rw [nums_extract]; exact h
theorem dig_one : ∀ i : Fin 10, ((nums Lib.digits36).drop i.val).take (i.val + 1 - i.val) = dig i.val := by decide +kernel
theorem dig_two : ∀ i : Fin 100, 10 ≤ i.val → ((nums Lib.smalls).drop (i.val * 2)).take (i.val * 2 + 2 - i.val * 2) = dig i.val := by decide +kernel

set_option maxHeartbeats 1000000 in
set_option maxRecDepth 100000 in
theorem small_any (i : Nat) (h : i < 100) (w : World) :
    Calls Tryd.prog 98 #[.int .i64 i] w (DigPost i w) := by
  go_enter Tryd.func98, Tryd.ntmps98
  go_name_bytes_deep 45 SM hSM
  have eSM : SM = Lib.smalls := by rw [← hSM]; decide +kernel
  subst eSM
  clear hSM
  go_name_bytes_deep 30 DG hDG
  have eDG : DG = Lib.digits36 := by rw [← hDG]; decide +kernel
  subst eDG
  clear hDG
  by_cases h10 : i < 10
  · have hsl : ∀ w, (Instr.slice 9 (.string Lib.digits36) (some (.int .i64 (i : Int))) (some (.int .i64 ((i : Int) + 1))) none).run Tryd.prog w = .ok (.string (Lib.digits36.extract i (i + 1))) w := fun w => by
      rw [run_slice_string w 9 Lib.digits36 .i64 .i64 _ _ Tryd.underlying9 (by omega) (by omega) (by rw [Lib.digits36_size]; omega), show ((i : Int)).toNat = i by omega, show ((i : Int) + 1).toNat = i + 1 by omega]
    go_wp2
    go_ret
    exact ⟨rfl, _, nums_piece _ _ _ _ (dig_one ⟨i, h10⟩), rfl⟩
  · have hsl : ∀ w, (Instr.slice 9 (.string Lib.smalls) (some (.int .i64 ((i : Int) * 2))) (some (.int .i64 ((i : Int) * 2 + 2))) none).run Tryd.prog w = .ok (.string (Lib.smalls.extract (i * 2) (i * 2 + 2))) w := fun w => by
      rw [run_slice_string w 9 Lib.smalls .i64 .i64 _ _ Tryd.underlying9 (by omega) (by omega) (by rw [Lib.smalls_size]; omega), show ((i : Int) * 2).toNat = i * 2 by omega, show ((i : Int) * 2 + 2).toNat = i * 2 + 2 by omega]
    go_wp2
    go_ret
    exact ⟨rfl, _, nums_piece _ _ _ _ (dig_two ⟨i, h⟩ (by show 10 ≤ i; omega)), rfl⟩

set_option maxHeartbeats 1000000 in
theorem formatInt_any (i : Nat) (h : i < 100) (w : World) :
    Calls Tryd.prog 97 #[.int .i64 i, .int .i64 10] w (DigPost i w) := by
  go_enter Tryd.func97, Tryd.ntmps97
  go_wp2_with (go_at_call 98; refine (small_any i h _).mono ?_; rintro e w' ⟨rfl, s, hs, rfl⟩)
  go_ret
  exact ⟨rfl, s, hs, rfl⟩
set_option maxHeartbeats 1000000 in
theorem itoaIn_any (i : Nat) (h : i < 100) (w : World) :
    Calls Tryd.prog 93 #[.int .i64 i] w (DigPost i w) := by
  go_enter Tryd.func93, Tryd.ntmps93
  go_wp2_with (go_at_call 97; refine (formatInt_any i h _).mono ?_; rintro e w' ⟨rfl, s, hs, rfl⟩)
  go_ret
  exact ⟨rfl, s, hs, rfl⟩
set_option maxHeartbeats 1000000 in
theorem itoa_any (n : Int) (h0 : 0 ≤ n) (h : n < 100) (w : World) :
    Calls Tryd.prog 83 #[.int .i64 n] w fun e w' => w = w' ∧ ∃ s : ByteArray, nums s = dig n ∧ e = .returned (.string s) := by
  obtain ⟨i, rfl⟩ := Int.eq_ofNat_of_zero_le h0
  go_enter Tryd.func83, Tryd.ntmps83
  go_wp2_with (go_at_call 93; refine (itoaIn_any i (by omega) _).mono ?_; rintro e w' ⟨rfl, s, hs, rfl⟩)
  go_ret
  exact ⟨rfl, s, hs, rfl⟩
end Go.Proofs.YtjhccghhinlmdaaDoor
