/-
  DERIVED. GIVEN WITH THE SEED: THE CARDS: each row of YtcaipmljlhjlcaaDoorRows.lean that lists a variable, with what it lists TIED to the program's text (the seventh form; the later family's looks); each row that meets fmt, with fmt's text TOLD by the authors' own Lean function (tested against real Go, not proved from fmt's source: count such statements apart). THE CARD IS WHAT COUNTS. Prove the row's statement (the work); the ties are given (YtcaipmljlhjlcaaDoorTie.lean); close each card by the builder's one call (the guide's Derived/Test/ToyasCard.lean, 'card_holds'). Laid BY PROGRAM, IN A SANDBOX (cutbox-door.mjs). By AI agents, Wed Nov 11 2026. No macro, syntax, notation, axiom, sorry.
-/
import Derived.Test.YtcaipmljlhjlcaaDoorRows
import GoSem.ClaimSeven
namespace Go.Proofs.YtcaipmljlhjlcaaDoor
namespace Rows

/-- THE TIED CARD OF 'outpostlaw22.FsmEdges'. -/
def fsmEdgesCard : Claim7 := { stood := { row := fsmEdgesRow, standIns := [], harness := (true, "cb9073fd82899f2bc31c73edc94492e68101931ae31330ea0fdc4ba2047a1f03"), looks := false }, kinds := [], alts := [], laidByText := true, laidKinds := [.data], laidTests := true, laidLooks := .later }
def FsmEdgesCardSaid : Prop := Claim7.holds Tryd.pinned (.plain (OpenSpec.ofChange fsmEdgesSpec)) fsmEdgesCard

/-- THE TIED CARD OF 'outpostlaw22.FsmPairs'. -/
def fsmPairsCard : Claim7 := { stood := { row := fsmPairsRow, standIns := [], harness := (true, "cb9073fd82899f2bc31c73edc94492e68101931ae31330ea0fdc4ba2047a1f03"), looks := false }, kinds := [], alts := [], laidByText := true, laidKinds := [.data], laidTests := true, laidLooks := .later }
def FsmPairsCardSaid : Prop := Claim7.holds Tryd.pinned (.plain (OpenSpec.ofChange fsmPairsSpec)) fsmPairsCard

/-- THE TIED CARD OF 'outpostlaw22.FsmWalks'. -/
def fsmWalksCard : Claim7 := { stood := { row := fsmWalksRow, standIns := [], harness := (true, "cb9073fd82899f2bc31c73edc94492e68101931ae31330ea0fdc4ba2047a1f03"), looks := false }, kinds := [], alts := [], laidByText := true, laidKinds := [.data], laidTests := true, laidLooks := .later }
def FsmWalksCardSaid : Prop := Claim7.holds Tryd.pinned (.plain (OpenSpec.ofChange fsmWalksSpec)) fsmWalksCard

/-- THE TIED CARD OF 'outpostlaw22.FsmOne'. -/
def fsmOneCard : Claim7 := { stood := { row := fsmOneRow, standIns := [], harness := (true, "cb9073fd82899f2bc31c73edc94492e68101931ae31330ea0fdc4ba2047a1f03"), looks := false }, kinds := [], alts := [], laidByText := true, laidKinds := [.data], laidTests := true, laidLooks := .later }
def FsmOneCardSaid : Prop := Claim7.holds Tryd.pinned (.plain (OpenSpec.ofChange fsmOneSpec)) fsmOneCard

/-- THE SECOND FORM's CARD OF 'outpostlaw22.FsmEdges'. -/
def fsmEdgesUptoCard : Claim7 := { stood := { row := fsmEdgesUptoRow, standIns := [], harness := (true, "cb9073fd82899f2bc31c73edc94492e68101931ae31330ea0fdc4ba2047a1f03"), looks := false }, kinds := [], alts := [], laidByText := true, laidKinds := [.data], laidTests := true, laidLooks := .later }
def FsmEdgesUptoCardSaid : Prop := Claim7.holds Tryd.pinned (.plain (OpenSpec.upto fsmEdgesSpec)) fsmEdgesUptoCard

/-- THE SECOND FORM's CARD OF 'outpostlaw22.FsmPairs'. -/
def fsmPairsUptoCard : Claim7 := { stood := { row := fsmPairsUptoRow, standIns := [], harness := (true, "cb9073fd82899f2bc31c73edc94492e68101931ae31330ea0fdc4ba2047a1f03"), looks := false }, kinds := [], alts := [], laidByText := true, laidKinds := [.data], laidTests := true, laidLooks := .later }
def FsmPairsUptoCardSaid : Prop := Claim7.holds Tryd.pinned (.plain (OpenSpec.upto fsmPairsSpec)) fsmPairsUptoCard

/-- THE SECOND FORM's CARD OF 'outpostlaw22.FsmWalks'. -/
def fsmWalksUptoCard : Claim7 := { stood := { row := fsmWalksUptoRow, standIns := [], harness := (true, "cb9073fd82899f2bc31c73edc94492e68101931ae31330ea0fdc4ba2047a1f03"), looks := false }, kinds := [], alts := [], laidByText := true, laidKinds := [.data], laidTests := true, laidLooks := .later }
def FsmWalksUptoCardSaid : Prop := Claim7.holds Tryd.pinned (.plain (OpenSpec.upto fsmWalksSpec)) fsmWalksUptoCard

/-- THE SECOND FORM's CARD OF 'outpostlaw22.FsmOne'. -/
def fsmOneUptoCard : Claim7 := { stood := { row := fsmOneUptoRow, standIns := [], harness := (true, "cb9073fd82899f2bc31c73edc94492e68101931ae31330ea0fdc4ba2047a1f03"), looks := false }, kinds := [], alts := [], laidByText := true, laidKinds := [.data], laidTests := true, laidLooks := .later }
def FsmOneUptoCardSaid : Prop := Claim7.holds Tryd.pinned (.plain (OpenSpec.upto fsmOneSpec)) fsmOneUptoCard
end Rows
end Go.Proofs.YtcaipmljlhjlcaaDoor
