/-
  No cell of these rows narrows 'for every input' (looked for: loops, veiled, ifaces, maps, wideKeys, modest, calm, conditions, laid).
  DERIVED. THE GIVEN ROWS OF THIS SEAT. 2 by the template 'for every input the law returns true; each argument reads behind the call as it read before'; 0 by the template 'total and deterministic' (their statements: YtfbddldcbjhmiaaTotals.lean).
  GIVEN WITH THE SEED: the statements are not yours to turn. If you find one false, say at which input.
  Laid BY PROGRAM, IN A SANDBOX (cutbox-rows.mjs): the forced cells as the released guide's own fill.sh prints them over the translation f1d53baace3ee5ef… (all of the seat's roots in one cut). By AI agents, Wed Nov 11 2026. No macro, syntax, notation, axiom, sorry.
-/
import Derived.Test.YtfbddldcbjhmiaaChecked
import GoSem.Claim
import GoSem.ClaimJoined
import GoSem.ClaimMapViews
import Derived.JoinedTies
import Derived.KernelRfl
namespace Go.Proofs.Ytfbddldcbjhmiaa
/- THE CELL 'sum', in the pinned program and in every row, IS THE sha256 OF THE DUMP (.gsa) THAT YtfbddldcbjhmiaaProg.lean LOADS. Nothing in Lean hashes anything: it is a label: what it is worth is what the hold of that sum in a sandbox is worth. -/
noncomputable def Try.pinned : Pinned := { name := "ytfbddldcbjhmiaa", sum := "f1d53baace3ee5ef146c07b643d93d5748cf67333708d012d7ffdcf059cca489", checked := Try.checked }
namespace Rows
def none {H : Type} : Left H := { results := [], args := [] }

/-- 'outposttop.WholeBlocks': WHATEVER THE INPUT: true; the input reads as it did. -/
def wholeBlocksSpec : ChangeSpec := { name := "wholeBlocks", fn := fun _ => fun
  | [d1, d2, d3] => { results := [.lit (.bool true)], args := [d1, d2, d3] }
  | _ => none }
def wholeBlocksRow : OpenClaim := { program := "ytfbddldcbjhmiaa", sum := "f1d53baace3ee5ef146c07b643d93d5748cf67333708d012d7ffdcf059cca489", func := "outpost/outposttop.WholeBlocks", spec := "wholeBlocks", unfollowed := true, recurses := true, apart := false }
def WholeBlocksSaid : Prop := wholeBlocksRow.holds Try.pinned (OpenSpec.ofChange wholeBlocksSpec)

/-- ITS FALSE NEIGHBOUR: 'it returns false'. Refute it at one input. -/
def wholeBlocksWrong : ChangeSpec := { name := "wholeBlocks", fn := fun _ => fun
  | [d1, d2, d3] => { results := [.lit (.bool false)], args := [d1, d2, d3] }
  | _ => none }
def WholeBlocksWrongFalsely : Prop := wholeBlocksRow.holds Try.pinned (OpenSpec.ofChange wholeBlocksWrong)

/-- 'outposttop.WholeOnce': WHATEVER THE INPUT: true; the input reads as it did. -/
def wholeOnceSpec : ChangeSpec := { name := "wholeOnce", fn := fun _ => fun
  | [d1, d2, d3] => { results := [.lit (.bool true)], args := [d1, d2, d3] }
  | _ => none }
def wholeOnceRow : OpenClaim := { program := "ytfbddldcbjhmiaa", sum := "f1d53baace3ee5ef146c07b643d93d5748cf67333708d012d7ffdcf059cca489", func := "outpost/outposttop.WholeOnce", spec := "wholeOnce", inPlace := ["slices.overlaps[outpost/cache.answer]"], unfollowed := true, recurses := true, apart := false }
def WholeOnceSaid : Prop := wholeOnceRow.holds Try.pinned (OpenSpec.ofChange wholeOnceSpec)

/-- ITS FALSE NEIGHBOUR: 'it returns false'. Refute it at one input. -/
def wholeOnceWrong : ChangeSpec := { name := "wholeOnce", fn := fun _ => fun
  | [d1, d2, d3] => { results := [.lit (.bool false)], args := [d1, d2, d3] }
  | _ => none }
def WholeOnceWrongFalsely : Prop := wholeOnceRow.holds Try.pinned (OpenSpec.ofChange wholeOnceWrong)

/- THE SECOND FORM. 'bulk': how many values and letters a reading holds, each counted each time it is reached (what is shared counts as often as it is met; a slice's spare places count too). A statement '..UptoSaid' is the law's where the arguments, and the package variables that the reading takes, are together of bulk at most 1048576: NARROWER than '..Said'. Prove '..Said' where nothing that the law and all that it calls make is longer than what came in: it says more and counts as full. Else prove '..UptoSaid'. A law counts once. -/
mutual
def uptoBulk {H : Type} : DataW H → Nat
  | .lit (.string bytes) => bytes.length + 1
  | .lit _ => 1
  | .nil => 1
  | .ptr d => uptoBulk d + 1
  | .slice elems spare => uptoBulkAll elems + uptoBulkAll spare + 1
  | .agg parts => uptoBulkAll parts + 1
  | .iface _ d => uptoBulk d + 1
  | .map entries => uptoBulkEntries entries + 1
  | .held _ => 1
def uptoBulkAll {H : Type} : List (DataW H) → Nat
  | [] => 0
  | d :: r => uptoBulk d + uptoBulkAll r
def uptoBulkEntries {H : Type} : List (Lit × DataW H) → Nat
  | [] => 0
  | x :: r => uptoBulkEntry x + uptoBulkEntries r
def uptoBulkEntry {H : Type} : Lit × DataW H → Nat
  | (.string bytes, d) => bytes.length + uptoBulk d + 1
  | (_, d) => uptoBulk d + 1
 end
def uptoSmall : (H : Type) → List (DataW H) → Bool := fun _ ds => decide (uptoBulkAll ds ≤ 1048576)
def OpenSpec.upto (s : _root_.Go.ChangeSpec) : _root_.Go.OpenSpec := { _root_.Go.OpenSpec.ofChange s with cond := some uptoSmall }

/-- 'outposttop.WholeBlocks', WHERE WHAT IT READS IS OF BULK AT MOST 1048576: true; the input reads as it did. -/
def wholeBlocksUptoRow : OpenClaim := { program := "ytfbddldcbjhmiaa", sum := "f1d53baace3ee5ef146c07b643d93d5748cf67333708d012d7ffdcf059cca489", func := "outpost/outposttop.WholeBlocks", spec := "wholeBlocks", unfollowed := true, recurses := true, apart := false, narrowed := true }
def WholeBlocksUptoSaid : Prop := wholeBlocksUptoRow.holds Try.pinned (OpenSpec.upto wholeBlocksSpec)

/-- 'outposttop.WholeOnce', WHERE WHAT IT READS IS OF BULK AT MOST 1048576: true; the input reads as it did. -/
def wholeOnceUptoRow : OpenClaim := { program := "ytfbddldcbjhmiaa", sum := "f1d53baace3ee5ef146c07b643d93d5748cf67333708d012d7ffdcf059cca489", func := "outpost/outposttop.WholeOnce", spec := "wholeOnce", inPlace := ["slices.overlaps[outpost/cache.answer]"], unfollowed := true, recurses := true, apart := false, narrowed := true }
def WholeOnceUptoSaid : Prop := wholeOnceUptoRow.holds Try.pinned (OpenSpec.upto wholeOnceSpec)

end Rows
end Go.Proofs.Ytfbddldcbjhmiaa
