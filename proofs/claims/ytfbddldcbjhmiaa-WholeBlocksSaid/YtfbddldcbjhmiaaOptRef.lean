/-
  The document's reading of options; the same options.
-/
import Derived.Test.YtfbddldcbjhmiaaOptRead
import Derived.Deep.RegionHeld
namespace Go.Proofs.Ytfbddldcbjhmiaa
open Go.RowKit
set_option maxRecDepth 100000
set_option linter.unusedVariables false
theorem below_drew2 (w : World) : Below w.heap.size w w.drew := Below.drew (Below.refl _ _)
def NumPost (f : Nat) (a : Int) (l : List UInt8) (w : World) (e : Ending) (w' : World) : Prop :=
  (∃ m, w' = w.drewN m) ∧ match jn f l with
    | some (v, k) => e = .returned (.tuple #[.int .i64 (v : Int), .int .i64 (a + k), .bool true])
    | none => e = .returned (.tuple #[.int .i64 0, .int .i64 a, .bool false])
theorem ret_31 {a b c a' b' : Value} (h : a = a') (h' : b = b') : Ending.returned (.tuple #[a, b, c]) = .returned (.tuple #[a', b', c]) := by rw [h, h']
end Go.Proofs.Ytfbddldcbjhmiaa
