/-
  NARROWER THAN 'FOR EVERY INPUT', by the rows' own cells (each row's printed sentence says how): FsmEdges: laid · FsmPairs: laid · FsmWalks: laid · FsmOne: laid.
  DERIVED. THE GIVEN ROWS OF THIS SEAT. 4 by the template 'for every input the law returns true; each argument reads behind the call as it read before'; 0 by the template 'total and deterministic' (their statements: YtcaipmljlhjlcaaDoorTotals.lean).
  GIVEN WITH THE SEED: the statements are not yours to turn. If you find one false, say at which input.
  Laid BY PROGRAM, IN A SANDBOX (cutbox-rows.mjs): the forced cells as the released guide's own fill.sh prints them over the translation 5777631f6eb674a6… (all of the seat's roots in one cut). By AI agents, Wed Nov 11 2026. No macro, syntax, notation, axiom, sorry.
-/
import Derived.Test.YtcaipmljlhjlcaaDoorChecked
import GoSem.Claim
import GoSem.ClaimJoined
import GoSem.ClaimMapViews
import Derived.JoinedTies
import Derived.KernelRfl
namespace Go.Proofs.YtcaipmljlhjlcaaDoor
/- THE CELL 'sum', in the pinned program and in every row, IS THE sha256 OF THE DUMP (.gsa) THAT YtcaipmljlhjlcaaDoorProg.lean LOADS. Nothing in Lean hashes anything: it is a label: what it is worth is what the hold of that sum in a sandbox is worth. -/
noncomputable def Tryd.pinned : Pinned := { name := "ytcaipmljlhjlcaadoor", sum := "5777631f6eb674a6ef26b88a4aa8ede5488596461c41c137c41ba3ecd3361fd6", checked := Tryd.checked }
namespace Rows
def none {H : Type} : Left H := { results := [], args := [] }

/- WHAT THE LISTED PACKAGE-LEVEL VARIABLES READ AS WHEN THE CALL BEGINS. Each datum BY PROGRAM (the guide's laid-datum.mjs) off the statement by which the dump's own 'gosem.cut.vars' lays the variable. In a bare row this is a premise. The card (YtcaipmljlhjlcaaDoorCards.lean) ties it to the program's text. -/
def laid_outpost_fsm_diagram {H : Type} : DataW H := .agg [.agg [.lit (.int .i64 1), .lit (.int .i64 0), .lit (.int .i64 1), .lit (.int .i64 0), .lit (.int .i64 0)], .agg [.lit (.int .i64 2), .lit (.int .i64 1), .lit (.int .i64 2), .lit (.int .i64 0), .lit (.int .i64 0)], .agg [.lit (.int .i64 3), .lit (.int .i64 1), .lit (.int .i64 0), .lit (.int .i64 2), .lit (.int .i64 9)], .agg [.lit (.int .i64 4), .lit (.int .i64 0), .lit (.int .i64 0), .lit (.int .i64 0), .lit (.int .i64 0)], .agg [.lit (.int .i64 4), .lit (.int .i64 1), .lit (.int .i64 0), .lit (.int .i64 0), .lit (.int .i64 0)], .agg [.lit (.int .i64 4), .lit (.int .i64 2), .lit (.int .i64 0), .lit (.int .i64 0), .lit (.int .i64 0)], .agg [.lit (.int .i64 5), .lit (.int .i64 2), .lit (.int .i64 3), .lit (.int .i64 0), .lit (.int .i64 0)], .agg [.lit (.int .i64 6), .lit (.int .i64 3), .lit (.int .i64 0), .lit (.int .i64 1), .lit (.int .i64 1)], .agg [.lit (.int .i64 7), .lit (.int .i64 3), .lit (.int .i64 0), .lit (.int .i64 8), .lit (.int .i64 8)], .agg [.lit (.int .i64 8), .lit (.int .i64 2), .lit (.int .i64 0), .lit (.int .i64 5), .lit (.int .i64 5)]]

/-- 'outpostlaw22.FsmEdges': WHATEVER THE INPUT: true; the input reads as it did. -/
def fsmEdgesSpec : ChangeSpec := { name := "fsmEdges", fn := fun _ => fun
  | [d1, d2, d3] => { results := [.lit (.bool true)], args := [d1, d2, d3] }
  | _ => none }
def fsmEdgesRow : OpenClaim := { program := "ytcaipmljlhjlcaadoor", sum := "5777631f6eb674a6ef26b88a4aa8ede5488596461c41c137c41ba3ecd3361fd6", func := "outpost/outpostlaw22.FsmEdges", spec := "fsmEdges", unfollowed := true, recurses := true, named := ["outpost/fsm.diagram"], apart := false, laid := [("outpost/fsm.diagram", laid_outpost_fsm_diagram)] }
def FsmEdgesSaid : Prop := fsmEdgesRow.holds Tryd.pinned (OpenSpec.ofChange fsmEdgesSpec)

/-- ITS FALSE NEIGHBOUR: 'it returns false'. Refute it at one input. -/
def fsmEdgesWrong : ChangeSpec := { name := "fsmEdges", fn := fun _ => fun
  | [d1, d2, d3] => { results := [.lit (.bool false)], args := [d1, d2, d3] }
  | _ => none }
def FsmEdgesWrongFalsely : Prop := fsmEdgesRow.holds Tryd.pinned (OpenSpec.ofChange fsmEdgesWrong)

/-- 'outpostlaw22.FsmPairs': WHATEVER THE INPUT: true; the input reads as it did. -/
def fsmPairsSpec : ChangeSpec := { name := "fsmPairs", fn := fun _ => fun
  | [d1, d2, d3, d4] => { results := [.lit (.bool true)], args := [d1, d2, d3, d4] }
  | _ => none }
def fsmPairsRow : OpenClaim := { program := "ytcaipmljlhjlcaadoor", sum := "5777631f6eb674a6ef26b88a4aa8ede5488596461c41c137c41ba3ecd3361fd6", func := "outpost/outpostlaw22.FsmPairs", spec := "fsmPairs", unfollowed := true, recurses := true, named := ["outpost/fsm.diagram"], apart := false, laid := [("outpost/fsm.diagram", laid_outpost_fsm_diagram)] }
def FsmPairsSaid : Prop := fsmPairsRow.holds Tryd.pinned (OpenSpec.ofChange fsmPairsSpec)

/-- ITS FALSE NEIGHBOUR: 'it returns false'. Refute it at one input. -/
def fsmPairsWrong : ChangeSpec := { name := "fsmPairs", fn := fun _ => fun
  | [d1, d2, d3, d4] => { results := [.lit (.bool false)], args := [d1, d2, d3, d4] }
  | _ => none }
def FsmPairsWrongFalsely : Prop := fsmPairsRow.holds Tryd.pinned (OpenSpec.ofChange fsmPairsWrong)

/-- 'outpostlaw22.FsmWalks': WHATEVER THE INPUT: true; the input reads as it did. -/
def fsmWalksSpec : ChangeSpec := { name := "fsmWalks", fn := fun _ => fun
  | [d1, d2] => { results := [.lit (.bool true)], args := [d1, d2] }
  | _ => none }
def fsmWalksRow : OpenClaim := { program := "ytcaipmljlhjlcaadoor", sum := "5777631f6eb674a6ef26b88a4aa8ede5488596461c41c137c41ba3ecd3361fd6", func := "outpost/outpostlaw22.FsmWalks", spec := "fsmWalks", unfollowed := true, recurses := true, named := ["outpost/fsm.diagram"], apart := false, laid := [("outpost/fsm.diagram", laid_outpost_fsm_diagram)] }
def FsmWalksSaid : Prop := fsmWalksRow.holds Tryd.pinned (OpenSpec.ofChange fsmWalksSpec)

/-- ITS FALSE NEIGHBOUR: 'it returns false'. Refute it at one input. -/
def fsmWalksWrong : ChangeSpec := { name := "fsmWalks", fn := fun _ => fun
  | [d1, d2] => { results := [.lit (.bool false)], args := [d1, d2] }
  | _ => none }
def FsmWalksWrongFalsely : Prop := fsmWalksRow.holds Tryd.pinned (OpenSpec.ofChange fsmWalksWrong)

/-- 'outpostlaw22.FsmOne': WHATEVER THE INPUT: true; the input reads as it did. -/
def fsmOneSpec : ChangeSpec := { name := "fsmOne", fn := fun _ => fun
  | [d1, d2, d3] => { results := [.lit (.bool true)], args := [d1, d2, d3] }
  | _ => none }
def fsmOneRow : OpenClaim := { program := "ytcaipmljlhjlcaadoor", sum := "5777631f6eb674a6ef26b88a4aa8ede5488596461c41c137c41ba3ecd3361fd6", func := "outpost/outpostlaw22.FsmOne", spec := "fsmOne", unfollowed := true, recurses := true, named := ["outpost/fsm.diagram"], apart := false, laid := [("outpost/fsm.diagram", laid_outpost_fsm_diagram)] }
def FsmOneSaid : Prop := fsmOneRow.holds Tryd.pinned (OpenSpec.ofChange fsmOneSpec)

/-- ITS FALSE NEIGHBOUR: 'it returns false'. Refute it at one input. -/
def fsmOneWrong : ChangeSpec := { name := "fsmOne", fn := fun _ => fun
  | [d1, d2, d3] => { results := [.lit (.bool false)], args := [d1, d2, d3] }
  | _ => none }
def FsmOneWrongFalsely : Prop := fsmOneRow.holds Tryd.pinned (OpenSpec.ofChange fsmOneWrong)

/- THE SECOND FORM. 'bulk': how many values and letters a reading holds, each counted each time it is reached (what is shared counts as often as it is met; a slice's spare places count too). A statement '..UptoSaid' is the law's where the arguments, and the package variables that the reading takes, are together of bulk at most 1048576: NARROWER than '..Said'. Prove '..Said' where nothing that the law and all that it calls make is longer than what came in: it says more and counts as full. Else prove '..UptoSaid'. A law counts once. -/
mutual
def uptoBulk {H : Type} : DataW H → Nat
  | .lit (.string bytes) => bytes.length + 1
  | .lit _ => 1
  | .nil => 1
  | .ptr d => uptoBulk d + 1
  | .slice elems spare => uptoBulkAll elems + uptoBulkAll spare + 1
  | .agg parts => uptoBulkAll parts + 1
  | .iface _ d => uptoBulk d + 1
  | .map entries => uptoBulkEntries entries + 1
  | .held _ => 1
def uptoBulkAll {H : Type} : List (DataW H) → Nat
  | [] => 0
  | d :: r => uptoBulk d + uptoBulkAll r
def uptoBulkEntries {H : Type} : List (Lit × DataW H) → Nat
  | [] => 0
  | x :: r => uptoBulkEntry x + uptoBulkEntries r
def uptoBulkEntry {H : Type} : Lit × DataW H → Nat
  | (.string bytes, d) => bytes.length + uptoBulk d + 1
  | (_, d) => uptoBulk d + 1
 end
def uptoSmall : (H : Type) → List (DataW H) → Bool := fun _ ds => decide (uptoBulkAll ds ≤ 1048576)
def OpenSpec.upto (s : _root_.Go.ChangeSpec) : _root_.Go.OpenSpec := { _root_.Go.OpenSpec.ofChange s with cond := some uptoSmall }

/-- 'outpostlaw22.FsmEdges', WHERE WHAT IT READS IS OF BULK AT MOST 1048576: true; the input reads as it did. -/
def fsmEdgesUptoRow : OpenClaim := { program := "ytcaipmljlhjlcaadoor", sum := "5777631f6eb674a6ef26b88a4aa8ede5488596461c41c137c41ba3ecd3361fd6", func := "outpost/outpostlaw22.FsmEdges", spec := "fsmEdges", unfollowed := true, recurses := true, named := ["outpost/fsm.diagram"], apart := false, laid := [("outpost/fsm.diagram", laid_outpost_fsm_diagram)], narrowed := true }
def FsmEdgesUptoSaid : Prop := fsmEdgesUptoRow.holds Tryd.pinned (OpenSpec.upto fsmEdgesSpec)

/-- 'outpostlaw22.FsmPairs', WHERE WHAT IT READS IS OF BULK AT MOST 1048576: true; the input reads as it did. -/
def fsmPairsUptoRow : OpenClaim := { program := "ytcaipmljlhjlcaadoor", sum := "5777631f6eb674a6ef26b88a4aa8ede5488596461c41c137c41ba3ecd3361fd6", func := "outpost/outpostlaw22.FsmPairs", spec := "fsmPairs", unfollowed := true, recurses := true, named := ["outpost/fsm.diagram"], apart := false, laid := [("outpost/fsm.diagram", laid_outpost_fsm_diagram)], narrowed := true }
def FsmPairsUptoSaid : Prop := fsmPairsUptoRow.holds Tryd.pinned (OpenSpec.upto fsmPairsSpec)

/-- 'outpostlaw22.FsmWalks', WHERE WHAT IT READS IS OF BULK AT MOST 1048576: true; the input reads as it did. -/
def fsmWalksUptoRow : OpenClaim := { program := "ytcaipmljlhjlcaadoor", sum := "5777631f6eb674a6ef26b88a4aa8ede5488596461c41c137c41ba3ecd3361fd6", func := "outpost/outpostlaw22.FsmWalks", spec := "fsmWalks", unfollowed := true, recurses := true, named := ["outpost/fsm.diagram"], apart := false, laid := [("outpost/fsm.diagram", laid_outpost_fsm_diagram)], narrowed := true }
def FsmWalksUptoSaid : Prop := fsmWalksUptoRow.holds Tryd.pinned (OpenSpec.upto fsmWalksSpec)

/-- 'outpostlaw22.FsmOne', WHERE WHAT IT READS IS OF BULK AT MOST 1048576: true; the input reads as it did. -/
def fsmOneUptoRow : OpenClaim := { program := "ytcaipmljlhjlcaadoor", sum := "5777631f6eb674a6ef26b88a4aa8ede5488596461c41c137c41ba3ecd3361fd6", func := "outpost/outpostlaw22.FsmOne", spec := "fsmOne", unfollowed := true, recurses := true, named := ["outpost/fsm.diagram"], apart := false, laid := [("outpost/fsm.diagram", laid_outpost_fsm_diagram)], narrowed := true }
def FsmOneUptoSaid : Prop := fsmOneUptoRow.holds Tryd.pinned (OpenSpec.upto fsmOneSpec)

end Rows
end Go.Proofs.YtcaipmljlhjlcaaDoor
