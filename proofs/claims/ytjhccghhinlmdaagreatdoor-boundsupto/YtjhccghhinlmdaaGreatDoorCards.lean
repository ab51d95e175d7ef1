/-
  DERIVED. GIVEN WITH THE SEED: THE CARDS: each row of YtjhccghhinlmdaaGreatDoorRows.lean that lists a variable, with what it lists TIED to the program's text (the seventh form; the later family's looks); each row that meets fmt, with fmt's text TOLD by the authors' own Lean function (tested against real Go, not proved from fmt's source: count such statements apart). THE CARD IS WHAT COUNTS. Prove the row's statement (the work); the ties are given (YtjhccghhinlmdaaGreatDoorTie.lean); close each card by the builder's one call (the guide's Derived/Test/ToyasCard.lean, 'card_holds'). Laid BY PROGRAM, IN A SANDBOX (cutbox-door.mjs). By AI agents, Wed Nov 11 2026. No macro, syntax, notation, axiom, sorry.
-/
import Derived.Test.YtjhccghhinlmdaaGreatDoorRows
import GoSem.ClaimSeven
namespace Go.Proofs.YtjhccghhinlmdaaGreatDoor
namespace Rows

/-- THE TIED CARD OF 'repaintlaw.Feeds'. -/
def feedsCard : Claim7 := { stood := { row := feedsRow, standIns := [], harness := (true, "30459d6c2f63530d9a880eb313e467e377f32321c6fa756e2eaadf7aab4daa19"), looks := false }, kinds := [], alts := [], laidByText := true, laidKinds := [.data, .data, .data], laidTests := true, laidLooks := .later }
def FeedsCardSaid : Prop := Claim7.holds Tryz.pinned (.plain (OpenSpec.ofChange feedsSpec)) feedsCard

/-- THE TIED CARD OF 'repaintlaw.Views'. -/
def viewsCard : Claim7 := { stood := { row := viewsRow, standIns := [], harness := (true, "30459d6c2f63530d9a880eb313e467e377f32321c6fa756e2eaadf7aab4daa19"), looks := false }, kinds := [], alts := [], laidByText := true, laidKinds := [.data, .data, .data], laidTests := true, laidLooks := .later }
def ViewsCardSaid : Prop := Claim7.holds Tryz.pinned (.plain (OpenSpec.ofChange viewsSpec)) viewsCard

/-- THE TIED CARD OF 'repaintlaw.Shows'. -/
def showsCard : Claim7 := { stood := { row := showsRow, standIns := [], harness := (true, "30459d6c2f63530d9a880eb313e467e377f32321c6fa756e2eaadf7aab4daa19"), looks := false }, kinds := [], alts := [], laidByText := true, laidKinds := [.data, .data, .data], laidTests := true, laidLooks := .later }
def ShowsCardSaid : Prop := Claim7.holds Tryz.pinned (.plain (OpenSpec.ofChange showsSpec)) showsCard

/-- THE TIED CARD OF 'repaintlaw.Bounds'. -/
def boundsCard : Claim7 := { stood := { row := boundsRow, standIns := [], harness := (true, "30459d6c2f63530d9a880eb313e467e377f32321c6fa756e2eaadf7aab4daa19"), looks := false }, kinds := [], alts := [], laidByText := true, laidKinds := [.data, .data, .data], laidTests := true, laidLooks := .later }
def BoundsCardSaid : Prop := Claim7.holds Tryz.pinned (.plain (OpenSpec.ofChange boundsSpec)) boundsCard

/-- THE SECOND FORM's CARD OF 'repaintlaw.Feeds'. -/
def feedsUptoCard : Claim7 := { stood := { row := feedsUptoRow, standIns := [], harness := (true, "30459d6c2f63530d9a880eb313e467e377f32321c6fa756e2eaadf7aab4daa19"), looks := false }, kinds := [], alts := [], laidByText := true, laidKinds := [.data, .data, .data], laidTests := true, laidLooks := .later }
def FeedsUptoCardSaid : Prop := Claim7.holds Tryz.pinned (.plain (OpenSpec.upto feedsSpec)) feedsUptoCard

/-- THE SECOND FORM's CARD OF 'repaintlaw.Views'. -/
def viewsUptoCard : Claim7 := { stood := { row := viewsUptoRow, standIns := [], harness := (true, "30459d6c2f63530d9a880eb313e467e377f32321c6fa756e2eaadf7aab4daa19"), looks := false }, kinds := [], alts := [], laidByText := true, laidKinds := [.data, .data, .data], laidTests := true, laidLooks := .later }
def ViewsUptoCardSaid : Prop := Claim7.holds Tryz.pinned (.plain (OpenSpec.upto viewsSpec)) viewsUptoCard

/-- THE SECOND FORM's CARD OF 'repaintlaw.Shows'. -/
def showsUptoCard : Claim7 := { stood := { row := showsUptoRow, standIns := [], harness := (true, "30459d6c2f63530d9a880eb313e467e377f32321c6fa756e2eaadf7aab4daa19"), looks := false }, kinds := [], alts := [], laidByText := true, laidKinds := [.data, .data, .data], laidTests := true, laidLooks := .later }
def ShowsUptoCardSaid : Prop := Claim7.holds Tryz.pinned (.plain (OpenSpec.upto showsSpec)) showsUptoCard

/-- THE SECOND FORM's CARD OF 'repaintlaw.Bounds'. -/
def boundsUptoCard : Claim7 := { stood := { row := boundsUptoRow, standIns := [], harness := (true, "30459d6c2f63530d9a880eb313e467e377f32321c6fa756e2eaadf7aab4daa19"), looks := false }, kinds := [], alts := [], laidByText := true, laidKinds := [.data, .data, .data], laidTests := true, laidLooks := .later }
def BoundsUptoCardSaid : Prop := Claim7.holds Tryz.pinned (.plain (OpenSpec.upto boundsSpec)) boundsUptoCard
end Rows
end Go.Proofs.YtjhccghhinlmdaaGreatDoor
