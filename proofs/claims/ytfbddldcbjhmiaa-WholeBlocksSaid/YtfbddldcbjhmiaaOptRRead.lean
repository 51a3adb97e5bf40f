/-
  The document's reading of options.
-/
import Derived.Test.YtfbddldcbjhmiaaOptRef
namespace Go.Proofs.Ytfbddldcbjhmiaa
open Go.RowKit
set_option maxRecDepth 100000
set_option linter.unusedVariables false
theorem bg_of {x : UInt8} {r : List UInt8} : bg (x :: r) = match jn (x.toNat / 16) r with
    | none => none
    | some (d, k) => match jn (x.toNat % 16) (r.drop k) with
      | none => none
      | some (s, k2) => some (d, s, 1 + k + k2) := rfl
theorem jn_15 (l : List UInt8) : jn 15 l = none := rfl
end Go.Proofs.Ytfbddldcbjhmiaa
