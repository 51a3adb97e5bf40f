/-
  Messages: few; used codes; what asks, what answers, by the document; an answer without options.
-/
import Derived.Test.YtdgihhepmmkkpaaMsgRead
import Derived.Test.YtdgihhepmmkkpaaOptRAdd
namespace Go.Proofs.Ytdgihhepmmkkpaa
open Go.RowKit
set_option maxRecDepth 100000
set_option linter.unusedVariables false
theorem used_f (c : Int) (h0 : 0 ≤ c) (h1 : c ≤ 255) (w : World) : Calls Try.prog 39 #[.int .i64 c] w fun e w' => e = .returned (.bool (codeB c)) ∧ w' = w := by
  have hq : c.tdiv 32 = c / 32 := Int.tdiv_eq_ediv_of_nonneg h0
  obtain ⟨q, hqq⟩ : ∃ q, c / 32 = q := ⟨_, rfl⟩
  rw [hqq] at hq
  have hwq : wrap64 q = q := IntWalk.wrap64_in _ (by omega)
  by_cases hc : q = 1 ∨ q = 6 ∨ q = 7
  · have hr : codeB c = false := by
      cases e : codeB c with
      | false => rfl
      | true => exact absurd ((codeB_iff c).1 e) (by omega)
    have HR := Lib.hid hr
    clear hr h0 h1 hqq
    rcases hc with rfl | rfl | rfl
    all_goals
      go_enter Try.func39, Try.ntmps39
      go_wp2
      go_ret
      exact ⟨retB HR.out.symm, rfl⟩
  · have hr : codeB c = true := (codeB_iff c).2 (by omega)
    have h1' : (q != 1) = true := bne_iff_ne.2 (by omega)
    have h6 : (q != 6) = true := bne_iff_ne.2 (by omega)
    have h7 : (q != 7) = true := bne_iff_ne.2 (by omega)
    have HR := Lib.hid hr
    clear hr h0 h1 hqq hc
    go_enter Try.func39, Try.ntmps39
    go_wp2
    go_ret
    exact ⟨retB HR.out.symm, rfl⟩
def fewM (m : Mq) : Bool := decide (m.tok.length ≤ 100) && decide (m.body.length ≤ 2000) && fewB m.ps
section
variable (kd cd id : Int) (tA : Option Addr) (tn tc : Nat) (oA : Option Addr) (on oc : Nat) (bA : Option Addr) (bn bc : Nat) (vs : List Sv) (tok : List UInt8) (ps : List (Int × List UInt8)) (body : List UInt8) (w : World)
end
/-- A message returned. -/
def RetM (m : Mq) (w : World) (e : Ending) (w' : World) : Prop :=
  ∃ (tA : Option Addr) (tn tc : Nat) (oA : Option Addr) (on oc : Nat) (bA : Option Addr) (bn bc : Nat) (vs : List Sv),
    e = .returned (.agg #[.int .i64 m.kd, .int .i64 m.cd, .int .i64 m.id, .slice tA tn tc, .slice oA on oc, .slice bA bn bc])
    ∧ Hid (tn ≤ tc ∧ tc ≤ maxLen ∧ on ≤ oc ∧ oc ≤ maxLen ∧ bn ≤ bc ∧ bc ≤ maxLen) ∧ Ms w' w'.heap.size tA tn oA on vs bA bn m.tok m.ps m.body ∧ Below w.heap.size w w'
end Go.Proofs.Ytdgihhepmmkkpaa
