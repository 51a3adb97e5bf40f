/-
  How much is read of bytes as a message.
-/
import Derived.Test.YtdgihhepmmkkpaaOptReadsLaw
import Derived.Test.YtdgihhepmmkkpaaMsgRead
namespace Go.Proofs.Ytdgihhepmmkkpaa
open Go.RowKit
set_option maxRecDepth 100000
set_option linter.unusedVariables false
theorem rdM_len (l : List UInt8) : (rdM l).1.tok.length ≤ 15 ∧ (rdM l).1.ps.length ≤ 24 ∧ (∀ x ∈ (rdM l).1.ps, x.2.length ≤ 300) ∧ (rdM l).1.body.length ≤ l.length := by
  have hz : Mq.zero.tok.length ≤ 15 ∧ Mq.zero.ps.length ≤ 24 ∧ (∀ x ∈ Mq.zero.ps, x.2.length ≤ 300) ∧ Mq.zero.body.length ≤ l.length := ⟨Nat.zero_le _, Nat.zero_le _, fun x hx => (by cases hx), Nat.zero_le _⟩
  have hr : (rdO (restM l)).1.length ≤ 24 ∧ ∀ x ∈ (rdO (restM l)).1, x.2.length ≤ 300 := rdGo_len (restM l) ((restM l).length + 1) 0 0 [] (Nat.zero_le _) (fun x hx => by cases hx)
  have hb : ∀ D : List UInt8, (bodyF D).1.length ≤ D.length := fun D => by
    unfold bodyF
    split
    · exact Nat.zero_le _
    · split
      · exact Nat.zero_le _
      · split
        · exact Nat.zero_le _
        · rw [List.length_drop]; exact Nat.sub_le _ _
  unfold rdM
  split
  · exact hz
  · split
    · exact hz
    · split
      · exact hz
      · refine ⟨?_, hr.1, hr.2, Nat.le_trans (hb _) ?_⟩
        · rw [List.length_take]
          exact Nat.le_trans (Nat.min_le_left _ _) (by omega)
        · rw [List.length_drop]
          unfold restM
          rw [List.length_drop]; omega
end Go.Proofs.Ytdgihhepmmkkpaa
