/- A script is played: all of it. -/
import Derived.Test.YtjhccghhinlmdabGreatDoorLawHeld15
namespace Go.Proofs.YtjhccghhinlmdabGreatDoor
open Go.RowKit

theorem law15_any (w : World) (gb off len cap : Nat) (K N A C : Nat → Int) (Sx : Nat → ByteArray) (V : Nat → Option Addr × Nat × Nat) (Ws : Nat → List Win) (h : OpsAt w gb off len K N A C Sx V) (hw : ∀ i, i < len → OpWins w w.heap.size (V i).1 (Ws i) (V i).2.1) (hlen : len ≤ 1048576) :
    Calls Tryz.prog 3 #[.slice (some ⟨gb, off, none⟩) len cap] w fun e w' => e = .returned (.bool true) ∧ Fr [] w w' := by
  have H := hide (holds15_any w gb off len cap K N A C Sx V Ws h hw hlen)
  clear h hw
  go_enter Tryz.func3, Tryz.ntmps3
  go_wp2_with (go_at_call 4; refine H.out.mono ?_; rintro e w' ⟨rfl, f⟩)
  go_ret
  exact ⟨rfl, f⟩
theorem law15_nil (w : World) (ao : Option Addr) (cap : Nat) :
    Calls Tryz.prog 3 #[.slice ao 0 cap] w fun e w' => e = .returned (.bool true) ∧ Fr [] w w' := by
  go_enter Tryz.func3, Tryz.ntmps3
  go_wp2_with (go_at_call 4; refine (holds15_nil w ao cap).mono ?_; rintro e w' ⟨rfl, f⟩)
  go_ret
  exact ⟨rfl, f⟩
end Go.Proofs.YtjhccghhinlmdabGreatDoor
