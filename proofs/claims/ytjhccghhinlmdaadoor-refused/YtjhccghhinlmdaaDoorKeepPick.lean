/- The statements' own small functions: which of n things; a terminal's row. -/
import Derived.Test.YtjhccghhinlmdaaDoorStr
namespace Go.Proofs.YtjhccghhinlmdaaDoor
open Go.RowKit

/-- which of n things the raw number c speaks of -/
def pickI (c n : Int) : Int := (if c < 0 then -(c + 1) else c) % n
theorem pickI_bd (c n : Int) (h : 1 ≤ n) : 0 ≤ pickI c n ∧ pickI c n < n := by
  unfold pickI
  exact ⟨Int.emod_nonneg _ (by omega), Int.emod_lt_of_pos _ (by omega)⟩

set_option maxHeartbeats 400000 in
set_option maxRecDepth 100000 in
theorem pick_any (c n : Int) (w : World) (h1 : -9223372036854775808 ≤ c) (h2 : c ≤ 9223372036854775807) (h3 : 1 ≤ n) (h4 : n ≤ 9223372036854775807) :
    Calls Tryd.prog 14 #[.int .i64 c, .int .i64 n] w fun e w' => e = .returned (.int .i64 (pickI c n)) ∧ w = w' := by
  by_cases h : c < 0
  · have E := hide (show pickI c n = (-(c + 1)).tmod n by unfold pickI; rw [if_pos h, Int.tmod_eq_emod_of_nonneg (by omega)])
    go_enter Tryd.func14, Tryd.ntmps14
    go_wp2
    go_ret
    refine ⟨?_, rfl⟩
    rw [E.out]
    first | rfl | (simp [Int.neg_tmod])
  · have E := hide (show pickI c n = c % n by unfold pickI; rw [if_neg h])
    go_enter Tryd.func14, Tryd.ntmps14
    go_wp2
    go_ret
    exact ⟨ret_int E.out.symm, rfl⟩

set_option maxHeartbeats 1000000 in
theorem reads_yes (y : Int) (w : World) (bt : Nat) (g : Gh) (t : T) (h : TermAt w bt g t) (hy : 0 ≤ y) (hy2 : y < t.H) (a b : ByteArray)
    (ha : strOfNums ((rowOf t.W y t.cells).map (·.1)) = a) (hb : strOfNums ((rowOf t.W y t.cells).map (·.2)) = b) :
    Calls Tryd.prog 24 #[.pointer (some ⟨bt, 0, none⟩), .int .i64 y, .string a, .string b] w fun e w' => e = .returned (.bool true) ∧ Fr [] w w' := by
  subst ha
  subst hb
  have HT := hide h
  clear h
  go_enter Tryd.func24, Tryd.ntmps24
  go_wp2_with fail
  refine (row_yes y _ bt g t HT.out hy hy2).mono ?_
  rintro e w1 ⟨rfl, f⟩
  go_wp2
  go_ret
  exact ⟨rfl, f⟩

end Go.Proofs.YtjhccghhinlmdaaDoor
