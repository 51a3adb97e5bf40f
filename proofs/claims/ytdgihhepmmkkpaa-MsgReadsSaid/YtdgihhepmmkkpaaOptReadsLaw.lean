/-
  OptReads: all bytes are the options that the document says.
-/
import Derived.Test.YtdgihhepmmkkpaaOptAlive
import Derived.Test.YtdgihhepmmkkpaaOptRRead
namespace Go.Proofs.Ytdgihhepmmkkpaa
open Go.RowKit
set_option maxRecDepth 100000
set_option linter.unusedVariables false
theorem rdGo_len (l : List UInt8) : ∀ (fuel at_ num : Nat) (acc : List (Int × List UInt8)), acc.length ≤ 24 → (∀ x ∈ acc, x.2.length ≤ 300) → (rdGo l fuel at_ num acc).1.length ≤ 24 ∧ ∀ x ∈ (rdGo l fuel at_ num acc).1, x.2.length ≤ 300
  | 0, at_, num, acc, h1, h2 => ⟨h1, h2⟩
  | fuel + 1, at_, num, acc, h1, h2 => by
    rw [rdGo]
    cases l[at_]? with
    | none => exact ⟨h1, h2⟩
    | some x =>
      simp only
      split
      · exact ⟨h1, h2⟩
      · cases bg (l.drop at_) with
        | none => exact ⟨Nat.zero_le _, fun x hx => by cases hx⟩
        | some p =>
          obtain ⟨d, s, k⟩ := p
          simp only
          split
          · exact ⟨Nat.zero_le _, fun x hx => by cases hx⟩
          · split
            · exact ⟨Nat.zero_le _, fun x hx => by cases hx⟩
            · split
              · exact ⟨Nat.zero_le _, fun x hx => by cases hx⟩
              · split
                · exact ⟨Nat.zero_le _, fun x hx => by cases hx⟩
                · refine rdGo_len l fuel _ _ _ (by rw [List.length_append]; show acc.length + 1 ≤ 24; omega) (fun x hx => ?_)
                  rcases List.mem_append.1 hx with h | h
                  · exact h2 x h
                  · obtain rfl := List.mem_singleton.1 h
                    show ((l.drop (at_ + k)).take s).length ≤ 300
                    rw [List.length_take]; omega
end Go.Proofs.Ytdgihhepmmkkpaa
