/-
  DERIVED. GIVEN WITH THE SEED: THE CARDS: each row of YtjhccghhinlmdaaDoorRows.lean that lists a variable, with what it lists TIED to the program's text (the seventh form; the later family's looks); each row that meets fmt, with fmt's text TOLD by the authors' own Lean function (tested against real Go, not proved from fmt's source: count such statements apart). THE CARD IS WHAT COUNTS. Prove the row's statement (the work); the ties are given (YtjhccghhinlmdaaDoorTie.lean); close each card by the builder's one call (the guide's Derived/Test/ToyasCard.lean, 'card_holds'). Laid BY PROGRAM, IN A SANDBOX (cutbox-door.mjs). By AI agents, Wed Nov 11 2026. No macro, syntax, notation, axiom, sorry.
-/
import Derived.Test.YtjhccghhinlmdaaDoorRows
import GoSem.ClaimSeven
namespace Go.Proofs.YtjhccghhinlmdaaDoor
namespace Rows

/-- THE TIED CARD OF 'repaintkeep.Fronts'. -/
def frontsCard : Claim7 := { stood := { row := frontsRow, standIns := [], harness := (true, "8423fb5516ee44e80e76ee7be19c978ab8e6f0c38a123e1ea7c37c31c5760b46"), looks := false }, kinds := [], alts := [], laidByText := true, laidKinds := [.data, .data, .data], laidTests := true, laidLooks := .later }
def FrontsCardSaid : Prop := Claim7.holds Tryd.pinned (.plain (OpenSpec.ofChange frontsSpec)) frontsCard

/-- THE TIED CARD OF 'repaintkeep.Kept'. -/
def keptCard : Claim7 := { stood := { row := keptRow, standIns := [], harness := (true, "8423fb5516ee44e80e76ee7be19c978ab8e6f0c38a123e1ea7c37c31c5760b46"), looks := false }, kinds := [], alts := [], laidByText := true, laidKinds := [.data, .data, .data], laidTests := true, laidLooks := .later }
def KeptCardSaid : Prop := Claim7.holds Tryd.pinned (.plain (OpenSpec.ofChange keptSpec)) keptCard

/-- THE TIED CARD OF 'repaintkeep.Refused'. -/
def refusedCard : Claim7 := { stood := { row := refusedRow, standIns := [], harness := (true, "8423fb5516ee44e80e76ee7be19c978ab8e6f0c38a123e1ea7c37c31c5760b46"), looks := false }, kinds := [], alts := [], laidByText := true, laidKinds := [.data, .data, .data], laidTests := true, laidLooks := .later }
def RefusedCardSaid : Prop := Claim7.holds Tryd.pinned (.plain (OpenSpec.ofChange refusedSpec)) refusedCard

/-- THE TIED CARD OF 'repaintkeep.Told'. -/
def toldCard : Claim7 := { stood := { row := toldRow, standIns := [], harness := (true, "8423fb5516ee44e80e76ee7be19c978ab8e6f0c38a123e1ea7c37c31c5760b46"), looks := false }, kinds := [], alts := [], laidByText := true, laidKinds := [.data, .data, .data], laidTests := true, laidLooks := .later }
def ToldCardSaid : Prop := Claim7.holds Tryd.pinned (.plain (OpenSpec.ofChange toldSpec)) toldCard

/-- THE TIED CARD OF 'repaintkeep.Same'. -/
def sameCard : Claim7 := { stood := { row := sameRow, standIns := [], harness := (true, "8423fb5516ee44e80e76ee7be19c978ab8e6f0c38a123e1ea7c37c31c5760b46"), looks := false }, kinds := [], alts := [], laidByText := true, laidKinds := [.data, .data, .data], laidTests := true, laidLooks := .later }
def SameCardSaid : Prop := Claim7.holds Tryd.pinned (.plain (OpenSpec.ofChange sameSpec)) sameCard

/-- THE TIED CARD OF 'repaintkeep.Restored'. -/
def restoredCard : Claim7 := { stood := { row := restoredRow, standIns := [], harness := (true, "8423fb5516ee44e80e76ee7be19c978ab8e6f0c38a123e1ea7c37c31c5760b46"), looks := false }, kinds := [], alts := [], laidByText := true, laidKinds := [.data, .data, .data], laidTests := true, laidLooks := .later }
def RestoredCardSaid : Prop := Claim7.holds Tryd.pinned (.plain (OpenSpec.ofChange restoredSpec)) restoredCard

/-- THE SECOND FORM's CARD OF 'repaintkeep.Fronts'. -/
def frontsUptoCard : Claim7 := { stood := { row := frontsUptoRow, standIns := [], harness := (true, "8423fb5516ee44e80e76ee7be19c978ab8e6f0c38a123e1ea7c37c31c5760b46"), looks := false }, kinds := [], alts := [], laidByText := true, laidKinds := [.data, .data, .data], laidTests := true, laidLooks := .later }
def FrontsUptoCardSaid : Prop := Claim7.holds Tryd.pinned (.plain (OpenSpec.upto frontsSpec)) frontsUptoCard

/-- THE SECOND FORM's CARD OF 'repaintkeep.Kept'. -/
def keptUptoCard : Claim7 := { stood := { row := keptUptoRow, standIns := [], harness := (true, "8423fb5516ee44e80e76ee7be19c978ab8e6f0c38a123e1ea7c37c31c5760b46"), looks := false }, kinds := [], alts := [], laidByText := true, laidKinds := [.data, .data, .data], laidTests := true, laidLooks := .later }
def KeptUptoCardSaid : Prop := Claim7.holds Tryd.pinned (.plain (OpenSpec.upto keptSpec)) keptUptoCard

/-- THE SECOND FORM's CARD OF 'repaintkeep.Refused'. -/
def refusedUptoCard : Claim7 := { stood := { row := refusedUptoRow, standIns := [], harness := (true, "8423fb5516ee44e80e76ee7be19c978ab8e6f0c38a123e1ea7c37c31c5760b46"), looks := false }, kinds := [], alts := [], laidByText := true, laidKinds := [.data, .data, .data], laidTests := true, laidLooks := .later }
def RefusedUptoCardSaid : Prop := Claim7.holds Tryd.pinned (.plain (OpenSpec.upto refusedSpec)) refusedUptoCard

/-- THE SECOND FORM's CARD OF 'repaintkeep.Told'. -/
def toldUptoCard : Claim7 := { stood := { row := toldUptoRow, standIns := [], harness := (true, "8423fb5516ee44e80e76ee7be19c978ab8e6f0c38a123e1ea7c37c31c5760b46"), looks := false }, kinds := [], alts := [], laidByText := true, laidKinds := [.data, .data, .data], laidTests := true, laidLooks := .later }
def ToldUptoCardSaid : Prop := Claim7.holds Tryd.pinned (.plain (OpenSpec.upto toldSpec)) toldUptoCard

/-- THE SECOND FORM's CARD OF 'repaintkeep.Same'. -/
def sameUptoCard : Claim7 := { stood := { row := sameUptoRow, standIns := [], harness := (true, "8423fb5516ee44e80e76ee7be19c978ab8e6f0c38a123e1ea7c37c31c5760b46"), looks := false }, kinds := [], alts := [], laidByText := true, laidKinds := [.data, .data, .data], laidTests := true, laidLooks := .later }
def SameUptoCardSaid : Prop := Claim7.holds Tryd.pinned (.plain (OpenSpec.upto sameSpec)) sameUptoCard

/-- THE SECOND FORM's CARD OF 'repaintkeep.Restored'. -/
def restoredUptoCard : Claim7 := { stood := { row := restoredUptoRow, standIns := [], harness := (true, "8423fb5516ee44e80e76ee7be19c978ab8e6f0c38a123e1ea7c37c31c5760b46"), looks := false }, kinds := [], alts := [], laidByText := true, laidKinds := [.data, .data, .data], laidTests := true, laidLooks := .later }
def RestoredUptoCardSaid : Prop := Claim7.holds Tryd.pinned (.plain (OpenSpec.upto restoredSpec)) restoredUptoCard
end Rows
end Go.Proofs.YtjhccghhinlmdaaDoor
