/-
  OptWrites: all options have the bytes, or the error, that the document says.
-/
import Derived.Test.YtfbddldcbjhmiaaOptAlive
import Derived.Test.YtfbddldcbjhmiaaOptRWrite
namespace Go.Proofs.Ytfbddldcbjhmiaa
open Go.RowKit
set_option maxRecDepth 100000
set_option linter.unusedVariables false
theorem wrP_len (ps : List (Int × List UInt8)) : (wrP ps).1.length ≤ 7320 := by
  unfold wrP
  split
  · rename_i h
    unfold errP at h
    split at h
    · cases h
    · rename_i h24
      split at h
      · cases h
      · split at h
        · cases h
        · rename_i hl
          have hs : ∀ x ∈ sortP ps, x.2.length ≤ 300 := fun x hx => by
            have hx' := sortP_mem ps x hx
            by_cases e : x.2.length ≤ 300
            · exact e
            · exact absurd (List.any_eq_true.2 ⟨x, hx', decide_eq_true (by omega)⟩) hl
          have := wrF_len (ps := sortP ps) hs
          have h2 := sortP_len ps
          show (wrF (sortP ps)).1.length ≤ 7320
          omega
  · exact Nat.zero_le _
end Go.Proofs.Ytfbddldcbjhmiaa
