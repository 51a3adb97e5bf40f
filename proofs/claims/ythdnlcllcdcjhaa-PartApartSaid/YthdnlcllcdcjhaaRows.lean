/-
  No cell of these rows narrows 'for every input' (looked for: loops, veiled, ifaces, maps, wideKeys, modest, calm, conditions, laid).
  DERIVED. THE GIVEN ROWS OF THIS SEAT. 6 by the template 'for every input the law returns true; each argument reads behind the call as it read before'; 0 by the template 'total and deterministic' (their statements: YthdnlcllcdcjhaaTotals.lean).
  GIVEN WITH THE SEED: the statements are not yours to turn. If you find one false, say at which input.
  Laid BY PROGRAM, IN A SANDBOX (cutbox-rows.mjs): the forced cells as the released guide's own fill.sh prints them over the translation 1ddb097087d7f120… (all of the seat's roots in one cut). By AI agents, Wed Nov 11 2026. No macro, syntax, notation, axiom, sorry.
-/
import Derived.Test.YthdnlcllcdcjhaaChecked
import GoSem.Claim
import GoSem.ClaimJoined
import GoSem.ClaimMapViews
import Derived.JoinedTies
import Derived.KernelRfl
namespace Go.Proofs.Ythdnlcllcdcjhaa
/- THE CELL 'sum', in the pinned program and in every row, IS THE sha256 OF THE DUMP (.gsa) THAT YthdnlcllcdcjhaaProg.lean LOADS. Nothing in Lean hashes anything: it is a label: what it is worth is what the hold of that sum in a sandbox is worth. -/
noncomputable def Try.pinned : Pinned := { name := "ythdnlcllcdcjhaa", sum := "1ddb097087d7f1207702e0bd700ca1b8301516fe0f66dd940a9ca4b00aba0652", checked := Try.checked }
namespace Rows
def none {H : Type} : Left H := { results := [], args := [] }

/-- 'outpostlaw03.FlashGreat': WHATEVER THE INPUT: true; the input reads as it did. -/
def flashGreatSpec : ChangeSpec := { name := "flashGreat", fn := fun _ => fun
  | [d1, d2] => { results := [.lit (.bool true)], args := [d1, d2] }
  | _ => none }
def flashGreatRow : OpenClaim := { program := "ythdnlcllcdcjhaa", sum := "1ddb097087d7f1207702e0bd700ca1b8301516fe0f66dd940a9ca4b00aba0652", func := "outpost/outpostlaw03.FlashGreat", spec := "flashGreat", apart := false }
def FlashGreatSaid : Prop := flashGreatRow.holds Try.pinned (OpenSpec.ofChange flashGreatSpec)

/-- ITS FALSE NEIGHBOUR: 'it returns false'. Refute it at one input. -/
def flashGreatWrong : ChangeSpec := { name := "flashGreat", fn := fun _ => fun
  | [d1, d2] => { results := [.lit (.bool false)], args := [d1, d2] }
  | _ => none }
def FlashGreatWrongFalsely : Prop := flashGreatRow.holds Try.pinned (OpenSpec.ofChange flashGreatWrong)

/-- 'outpostlaw03.FlashCuts': WHATEVER THE INPUT: true; the input reads as it did. -/
def flashCutsSpec : ChangeSpec := { name := "flashCuts", fn := fun _ => fun
  | [d1, d2, d3, d4, d5, d6] => { results := [.lit (.bool true)], args := [d1, d2, d3, d4, d5, d6] }
  | _ => none }
def flashCutsRow : OpenClaim := { program := "ythdnlcllcdcjhaa", sum := "1ddb097087d7f1207702e0bd700ca1b8301516fe0f66dd940a9ca4b00aba0652", func := "outpost/outpostlaw03.FlashCuts", spec := "flashCuts", apart := false }
def FlashCutsSaid : Prop := flashCutsRow.holds Try.pinned (OpenSpec.ofChange flashCutsSpec)

/-- ITS FALSE NEIGHBOUR: 'it returns false'. Refute it at one input. -/
def flashCutsWrong : ChangeSpec := { name := "flashCuts", fn := fun _ => fun
  | [d1, d2, d3, d4, d5, d6] => { results := [.lit (.bool false)], args := [d1, d2, d3, d4, d5, d6] }
  | _ => none }
def FlashCutsWrongFalsely : Prop := flashCutsRow.holds Try.pinned (OpenSpec.ofChange flashCutsWrong)

/-- 'outpostlaw03.FlashClears': WHATEVER THE INPUT: true; the input reads as it did. -/
def flashClearsSpec : ChangeSpec := { name := "flashClears", fn := fun _ => fun
  | [d1, d2, d3] => { results := [.lit (.bool true)], args := [d1, d2, d3] }
  | _ => none }
def flashClearsRow : OpenClaim := { program := "ythdnlcllcdcjhaa", sum := "1ddb097087d7f1207702e0bd700ca1b8301516fe0f66dd940a9ca4b00aba0652", func := "outpost/outpostlaw03.FlashClears", spec := "flashClears", apart := false }
def FlashClearsSaid : Prop := flashClearsRow.holds Try.pinned (OpenSpec.ofChange flashClearsSpec)

/-- ITS FALSE NEIGHBOUR: 'it returns false'. Refute it at one input. -/
def flashClearsWrong : ChangeSpec := { name := "flashClears", fn := fun _ => fun
  | [d1, d2, d3] => { results := [.lit (.bool false)], args := [d1, d2, d3] }
  | _ => none }
def FlashClearsWrongFalsely : Prop := flashClearsRow.holds Try.pinned (OpenSpec.ofChange flashClearsWrong)

/-- 'outpostlaw03.FlashAgain': WHATEVER THE INPUT: true; the input reads as it did. -/
def flashAgainSpec : ChangeSpec := { name := "flashAgain", fn := fun _ => fun
  | [d1, d2, d3] => { results := [.lit (.bool true)], args := [d1, d2, d3] }
  | _ => none }
def flashAgainRow : OpenClaim := { program := "ythdnlcllcdcjhaa", sum := "1ddb097087d7f1207702e0bd700ca1b8301516fe0f66dd940a9ca4b00aba0652", func := "outpost/outpostlaw03.FlashAgain", spec := "flashAgain", apart := false }
def FlashAgainSaid : Prop := flashAgainRow.holds Try.pinned (OpenSpec.ofChange flashAgainSpec)

/-- ITS FALSE NEIGHBOUR: 'it returns false'. Refute it at one input. -/
def flashAgainWrong : ChangeSpec := { name := "flashAgain", fn := fun _ => fun
  | [d1, d2, d3] => { results := [.lit (.bool false)], args := [d1, d2, d3] }
  | _ => none }
def FlashAgainWrongFalsely : Prop := flashAgainRow.holds Try.pinned (OpenSpec.ofChange flashAgainWrong)

/-- 'outpostlaw04.PartKeeps': WHATEVER THE INPUT: true; the input reads as it did. -/
def partKeepsSpec : ChangeSpec := { name := "partKeeps", fn := fun _ => fun
  | [d1, d2, d3, d4, d5] => { results := [.lit (.bool true)], args := [d1, d2, d3, d4, d5] }
  | _ => none }
def partKeepsRow : OpenClaim := { program := "ythdnlcllcdcjhaa", sum := "1ddb097087d7f1207702e0bd700ca1b8301516fe0f66dd940a9ca4b00aba0652", func := "outpost/outpostlaw04.PartKeeps", spec := "partKeeps", apart := false }
def PartKeepsSaid : Prop := partKeepsRow.holds Try.pinned (OpenSpec.ofChange partKeepsSpec)

/-- ITS FALSE NEIGHBOUR: 'it returns false'. Refute it at one input. -/
def partKeepsWrong : ChangeSpec := { name := "partKeeps", fn := fun _ => fun
  | [d1, d2, d3, d4, d5] => { results := [.lit (.bool false)], args := [d1, d2, d3, d4, d5] }
  | _ => none }
def PartKeepsWrongFalsely : Prop := partKeepsRow.holds Try.pinned (OpenSpec.ofChange partKeepsWrong)

/-- 'outpostlaw04.PartApart': WHATEVER THE INPUT: true; the input reads as it did. -/
def partApartSpec : ChangeSpec := { name := "partApart", fn := fun _ => fun
  | [d1, d2, d3, d4] => { results := [.lit (.bool true)], args := [d1, d2, d3, d4] }
  | _ => none }
def partApartRow : OpenClaim := { program := "ythdnlcllcdcjhaa", sum := "1ddb097087d7f1207702e0bd700ca1b8301516fe0f66dd940a9ca4b00aba0652", func := "outpost/outpostlaw04.PartApart", spec := "partApart", apart := false }
def PartApartSaid : Prop := partApartRow.holds Try.pinned (OpenSpec.ofChange partApartSpec)

/-- ITS FALSE NEIGHBOUR: 'it returns false'. Refute it at one input. -/
def partApartWrong : ChangeSpec := { name := "partApart", fn := fun _ => fun
  | [d1, d2, d3, d4] => { results := [.lit (.bool false)], args := [d1, d2, d3, d4] }
  | _ => none }
def PartApartWrongFalsely : Prop := partApartRow.holds Try.pinned (OpenSpec.ofChange partApartWrong)

/- THE SECOND FORM. 'bulk': how many values and letters a reading holds, each counted each time it is reached (what is shared counts as often as it is met; a slice's spare places count too). A statement '..UptoSaid' is the law's where the arguments, and the package variables that the reading takes, are together of bulk at most 1048576: NARROWER than '..Said'. Prove '..Said' where nothing that the law and all that it calls make is longer than what came in: it says more and counts as full. Else prove '..UptoSaid'. A law counts once. -/
mutual
def uptoBulk {H : Type} : DataW H → Nat
  | .lit (.string bytes) => bytes.length + 1
  | .lit _ => 1
  | .nil => 1
  | .ptr d => uptoBulk d + 1
  | .slice elems spare => uptoBulkAll elems + uptoBulkAll spare + 1
  | .agg parts => uptoBulkAll parts + 1
  | .iface _ d => uptoBulk d + 1
  | .map entries => uptoBulkEntries entries + 1
  | .held _ => 1
def uptoBulkAll {H : Type} : List (DataW H) → Nat
  | [] => 0
  | d :: r => uptoBulk d + uptoBulkAll r
def uptoBulkEntries {H : Type} : List (Lit × DataW H) → Nat
  | [] => 0
  | x :: r => uptoBulkEntry x + uptoBulkEntries r
def uptoBulkEntry {H : Type} : Lit × DataW H → Nat
  | (.string bytes, d) => bytes.length + uptoBulk d + 1
  | (_, d) => uptoBulk d + 1
 end
def uptoSmall : (H : Type) → List (DataW H) → Bool := fun _ ds => decide (uptoBulkAll ds ≤ 1048576)
def OpenSpec.upto (s : _root_.Go.ChangeSpec) : _root_.Go.OpenSpec := { _root_.Go.OpenSpec.ofChange s with cond := some uptoSmall }

/-- 'outpostlaw03.FlashGreat', WHERE WHAT IT READS IS OF BULK AT MOST 1048576: true; the input reads as it did. -/
def flashGreatUptoRow : OpenClaim := { program := "ythdnlcllcdcjhaa", sum := "1ddb097087d7f1207702e0bd700ca1b8301516fe0f66dd940a9ca4b00aba0652", func := "outpost/outpostlaw03.FlashGreat", spec := "flashGreat", apart := false, narrowed := true }
def FlashGreatUptoSaid : Prop := flashGreatUptoRow.holds Try.pinned (OpenSpec.upto flashGreatSpec)

/-- 'outpostlaw03.FlashCuts', WHERE WHAT IT READS IS OF BULK AT MOST 1048576: true; the input reads as it did. -/
def flashCutsUptoRow : OpenClaim := { program := "ythdnlcllcdcjhaa", sum := "1ddb097087d7f1207702e0bd700ca1b8301516fe0f66dd940a9ca4b00aba0652", func := "outpost/outpostlaw03.FlashCuts", spec := "flashCuts", apart := false, narrowed := true }
def FlashCutsUptoSaid : Prop := flashCutsUptoRow.holds Try.pinned (OpenSpec.upto flashCutsSpec)

/-- 'outpostlaw03.FlashClears', WHERE WHAT IT READS IS OF BULK AT MOST 1048576: true; the input reads as it did. -/
def flashClearsUptoRow : OpenClaim := { program := "ythdnlcllcdcjhaa", sum := "1ddb097087d7f1207702e0bd700ca1b8301516fe0f66dd940a9ca4b00aba0652", func := "outpost/outpostlaw03.FlashClears", spec := "flashClears", apart := false, narrowed := true }
def FlashClearsUptoSaid : Prop := flashClearsUptoRow.holds Try.pinned (OpenSpec.upto flashClearsSpec)

/-- 'outpostlaw03.FlashAgain', WHERE WHAT IT READS IS OF BULK AT MOST 1048576: true; the input reads as it did. -/
def flashAgainUptoRow : OpenClaim := { program := "ythdnlcllcdcjhaa", sum := "1ddb097087d7f1207702e0bd700ca1b8301516fe0f66dd940a9ca4b00aba0652", func := "outpost/outpostlaw03.FlashAgain", spec := "flashAgain", apart := false, narrowed := true }
def FlashAgainUptoSaid : Prop := flashAgainUptoRow.holds Try.pinned (OpenSpec.upto flashAgainSpec)

/-- 'outpostlaw04.PartKeeps', WHERE WHAT IT READS IS OF BULK AT MOST 1048576: true; the input reads as it did. -/
def partKeepsUptoRow : OpenClaim := { program := "ythdnlcllcdcjhaa", sum := "1ddb097087d7f1207702e0bd700ca1b8301516fe0f66dd940a9ca4b00aba0652", func := "outpost/outpostlaw04.PartKeeps", spec := "partKeeps", apart := false, narrowed := true }
def PartKeepsUptoSaid : Prop := partKeepsUptoRow.holds Try.pinned (OpenSpec.upto partKeepsSpec)

/-- 'outpostlaw04.PartApart', WHERE WHAT IT READS IS OF BULK AT MOST 1048576: true; the input reads as it did. -/
def partApartUptoRow : OpenClaim := { program := "ythdnlcllcdcjhaa", sum := "1ddb097087d7f1207702e0bd700ca1b8301516fe0f66dd940a9ca4b00aba0652", func := "outpost/outpostlaw04.PartApart", spec := "partApart", apart := false, narrowed := true }
def PartApartUptoSaid : Prop := partApartUptoRow.holds Try.pinned (OpenSpec.upto partApartSpec)

end Rows
end Go.Proofs.Ythdnlcllcdcjhaa
