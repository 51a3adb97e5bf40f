/-
  DERIVED. GIVEN WITH THE SEED: THE CARDS: each row of YtiieianbmldnbaaDoorRows.lean that lists a variable, with what it lists TIED to the program's text (the seventh form; the later family's looks); each row that meets fmt, with fmt's text TOLD by the authors' own Lean function (tested against real Go, not proved from fmt's source: count such statements apart). THE CARD IS WHAT COUNTS. Prove the row's statement (the work); the ties are given (YtiieianbmldnbaaDoorTie.lean); close each card by the builder's one call (the guide's Derived/Test/ToyasCard.lean, 'card_holds'). Laid BY PROGRAM, IN A SANDBOX (cutbox-door.mjs). By AI agents, Wed Nov 11 2026. No macro, syntax, notation, axiom, sorry.
-/
import Derived.Test.YtiieianbmldnbaaDoorRows
import GoSem.ClaimSeven
namespace Go.Proofs.YtiieianbmldnbaaDoor
namespace Rows

/-- THE TIED CARD OF 'outpostlaw06.ImageHeads'. -/
def imageHeadsCard : Claim7 := { stood := { row := imageHeadsRow, standIns := [], harness := (true, "5592f961f4692eb12416c7d2747b21e59b1819a6e8a687c064d649ce298cfa09"), looks := false }, kinds := [], alts := [], laidByText := true, laidKinds := [.data, .data, .pinned], laidTests := true, laidLooks := .later }
def ImageHeadsCardSaid : Prop := Claim7.holds Tryd.pinned (.plain (OpenSpec.ofChange imageHeadsSpec)) imageHeadsCard

/-- THE TIED CARD OF 'outpostlaw06.ImageMakes'. -/
def imageMakesCard : Claim7 := { stood := { row := imageMakesRow, standIns := [], harness := (true, "5592f961f4692eb12416c7d2747b21e59b1819a6e8a687c064d649ce298cfa09"), looks := false }, kinds := [], alts := [], laidByText := true, laidKinds := [.data, .data, .data, .pinned], laidTests := true, laidLooks := .later }
def ImageMakesCardSaid : Prop := Claim7.holds Tryd.pinned (.plain (OpenSpec.ofChange imageMakesSpec)) imageMakesCard

/-- THE TIED CARD OF 'outpostlaw06.ImageBack'. -/
def imageBackCard : Claim7 := { stood := { row := imageBackRow, standIns := [], harness := (true, "5592f961f4692eb12416c7d2747b21e59b1819a6e8a687c064d649ce298cfa09"), looks := false }, kinds := [], alts := [], laidByText := true, laidKinds := [.data, .data, .pinned], laidTests := true, laidLooks := .later }
def ImageBackCardSaid : Prop := Claim7.holds Tryd.pinned (.plain (OpenSpec.ofChange imageBackSpec)) imageBackCard

/-- THE TIED CARD OF 'outpostlaw06.ImageTurns'. -/
def imageTurnsCard : Claim7 := { stood := { row := imageTurnsRow, standIns := [], harness := (true, "5592f961f4692eb12416c7d2747b21e59b1819a6e8a687c064d649ce298cfa09"), looks := false }, kinds := [], alts := [], laidByText := true, laidKinds := [.data, .data, .pinned], laidTests := true, laidLooks := .later }
def ImageTurnsCardSaid : Prop := Claim7.holds Tryd.pinned (.plain (OpenSpec.ofChange imageTurnsSpec)) imageTurnsCard

/-- THE TIED CARD OF 'outpostlaw06.ImageNames'. -/
def imageNamesCard : Claim7 := { stood := { row := imageNamesRow, standIns := [], harness := (true, "5592f961f4692eb12416c7d2747b21e59b1819a6e8a687c064d649ce298cfa09"), looks := false }, kinds := [], alts := [], laidByText := true, laidKinds := [.data, .data, .pinned], laidTests := true, laidLooks := .later }
def ImageNamesCardSaid : Prop := Claim7.holds Tryd.pinned (.plain (OpenSpec.ofChange imageNamesSpec)) imageNamesCard

/-- THE SECOND FORM's CARD OF 'outpostlaw06.ImageHeads'. -/
def imageHeadsUptoCard : Claim7 := { stood := { row := imageHeadsUptoRow, standIns := [], harness := (true, "5592f961f4692eb12416c7d2747b21e59b1819a6e8a687c064d649ce298cfa09"), looks := false }, kinds := [], alts := [], laidByText := true, laidKinds := [.data, .data, .pinned], laidTests := true, laidLooks := .later }
def ImageHeadsUptoCardSaid : Prop := Claim7.holds Tryd.pinned (.plain (OpenSpec.upto imageHeadsSpec)) imageHeadsUptoCard

/-- THE SECOND FORM's CARD OF 'outpostlaw06.ImageMakes'. -/
def imageMakesUptoCard : Claim7 := { stood := { row := imageMakesUptoRow, standIns := [], harness := (true, "5592f961f4692eb12416c7d2747b21e59b1819a6e8a687c064d649ce298cfa09"), looks := false }, kinds := [], alts := [], laidByText := true, laidKinds := [.data, .data, .data, .pinned], laidTests := true, laidLooks := .later }
def ImageMakesUptoCardSaid : Prop := Claim7.holds Tryd.pinned (.plain (OpenSpec.upto imageMakesSpec)) imageMakesUptoCard

/-- THE SECOND FORM's CARD OF 'outpostlaw06.ImageBack'. -/
def imageBackUptoCard : Claim7 := { stood := { row := imageBackUptoRow, standIns := [], harness := (true, "5592f961f4692eb12416c7d2747b21e59b1819a6e8a687c064d649ce298cfa09"), looks := false }, kinds := [], alts := [], laidByText := true, laidKinds := [.data, .data, .pinned], laidTests := true, laidLooks := .later }
def ImageBackUptoCardSaid : Prop := Claim7.holds Tryd.pinned (.plain (OpenSpec.upto imageBackSpec)) imageBackUptoCard

/-- THE SECOND FORM's CARD OF 'outpostlaw06.ImageTurns'. -/
def imageTurnsUptoCard : Claim7 := { stood := { row := imageTurnsUptoRow, standIns := [], harness := (true, "5592f961f4692eb12416c7d2747b21e59b1819a6e8a687c064d649ce298cfa09"), looks := false }, kinds := [], alts := [], laidByText := true, laidKinds := [.data, .data, .pinned], laidTests := true, laidLooks := .later }
def ImageTurnsUptoCardSaid : Prop := Claim7.holds Tryd.pinned (.plain (OpenSpec.upto imageTurnsSpec)) imageTurnsUptoCard

/-- THE SECOND FORM's CARD OF 'outpostlaw06.ImageNames'. -/
def imageNamesUptoCard : Claim7 := { stood := { row := imageNamesUptoRow, standIns := [], harness := (true, "5592f961f4692eb12416c7d2747b21e59b1819a6e8a687c064d649ce298cfa09"), looks := false }, kinds := [], alts := [], laidByText := true, laidKinds := [.data, .data, .pinned], laidTests := true, laidLooks := .later }
def ImageNamesUptoCardSaid : Prop := Claim7.holds Tryd.pinned (.plain (OpenSpec.upto imageNamesSpec)) imageNamesUptoCard
end Rows
end Go.Proofs.YtiieianbmldnbaaDoor
