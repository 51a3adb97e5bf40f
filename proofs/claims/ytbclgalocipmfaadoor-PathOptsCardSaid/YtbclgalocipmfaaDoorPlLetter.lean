/-
  The document's signs of six bits.
-/
import Derived.Test.YtbclgalocipmfaaDoorBase
import Derived.Test.YtbclgalocipmfaaDoorMem
import Derived.Lib.Hide
import Derived.Below
namespace Go.Proofs.YtbclgalocipmfaaDoor
open Go.RowKit
set_option maxRecDepth 100000
set_option maxRecDepth 100000
set_option linter.unusedVariables false
def letQ (n : Nat) : Nat := if n < 26 then 65 + n else if n < 52 then 71 + n else if n < 62 then n - 4 else if n = 62 then 43 else 47
theorem letQ_lt {n : Nat} (h : n < 64) : letQ n < 128 := by unfold letQ; (repeat' split) <;> omega
theorem letter_f (n : Nat) (w : World) (h : n < 64) : Calls Tryd.prog 102 #[.int .i64 (n : Int)] w fun e w' => e = .returned (.int .u8 (letQ n : Int)) ∧ w' = w := by
  obtain ⟨q, hq⟩ : ∃ q : Int, (letQ n : Int) = q := ⟨_, rfl⟩
  rw [hq]
  unfold letQ at hq
  go_enter Tryd.func102, Tryd.ntmps102
  by_cases c1 : (n : Int) < 26
  · rw [if_pos (by omega)] at hq
    obtain rfl : 65 + (n : Int) = q := by omega
    clear hq
    go_wp2
    go_ret
    exact ⟨by first | rfl | (congr 2; omega), rfl⟩
  by_cases c2 : (n : Int) < 52
  · rw [if_neg (by omega), if_pos (by omega)] at hq
    obtain rfl : 97 + (n : Int) - 26 = q := by omega
    clear hq
    go_wp2
    go_ret
    exact ⟨by first | rfl | (congr 2; omega), rfl⟩
  by_cases c3 : (n : Int) < 62
  · rw [if_neg (by omega), if_neg (by omega), if_pos (by omega)] at hq
    obtain rfl : 48 + (n : Int) - 52 = q := by omega
    clear hq
    go_wp2
    go_ret
    exact ⟨by first | rfl | (congr 2; omega), rfl⟩
  by_cases c4 : (n : Int) = 62
  · rw [if_neg (by omega), if_neg (by omega), if_neg (by omega), if_pos (by omega)] at hq
    obtain rfl : 43 = q := by omega
    have c4b : ((n : Int) == 62) = true := beq_iff_eq.2 c4
    clear hq
    go_wp2
    go_ret
    exact ⟨rfl, rfl⟩
  · rw [if_neg (by omega), if_neg (by omega), if_neg (by omega), if_neg (by omega)] at hq
    obtain rfl : 47 = q := by omega
    have c4b : ((n : Int) == 62) = false := beq_eq_false_iff_ne.2 c4
    clear hq
    go_wp2
    go_ret
    exact ⟨rfl, rfl⟩
/-- The six bits of a sign, -1 of none. -/
def sixI (c : Nat) : Int := if 65 ≤ c ∧ c ≤ 90 then c - 65 else if 97 ≤ c ∧ c ≤ 122 then c - 71 else if 48 ≤ c ∧ c ≤ 57 then c + 4 else if c = 43 then 62 else if c = 47 then 63 else -1
theorem six_of {i c : Nat} (h : i < 64) (e : letQ i = c) : sixI c = i := by
  unfold letQ at e
  unfold sixI
  repeat' split at e
  all_goals (repeat' split) <;> omega
theorem six_none {c : Nat} (h : ∀ i, i < 64 → letQ i ≠ c) : sixI c = -1 := by
  unfold sixI
  by_cases c1 : 65 ≤ c ∧ c ≤ 90
  · exact absurd (by unfold letQ; rw [if_pos (by omega)]; omega) (h (c - 65) (by omega))
  by_cases c2 : 97 ≤ c ∧ c ≤ 122
  · exact absurd (by unfold letQ; rw [if_neg (by omega), if_pos (by omega)]; omega) (h (c - 71) (by omega))
  by_cases c3 : 48 ≤ c ∧ c ≤ 57
  · exact absurd (by unfold letQ; rw [if_neg (by omega), if_neg (by omega), if_pos (by omega)]; omega) (h (c + 4) (by omega))
  by_cases c4 : c = 43
  · exact absurd (by rw [c4]; rfl) (h 62 (by omega))
  by_cases c5 : c = 47
  · exact absurd (by rw [c5]; rfl) (h 63 (by omega))
  · rw [if_neg c1, if_neg c2, if_neg c3, if_neg c4, if_neg c5]
set_option maxHeartbeats 4000000 in
theorem six_f (c : Nat) (hc : c < 256) (w : World) : Calls Tryd.prog 72 #[.int .u8 (c : Int)] w fun e w' => e = .returned (.int .i64 (sixI c)) ∧ ∃ m, w' = w.drewN m := by
  obtain ⟨R, hR⟩ : ∃ R, sixI c = R := ⟨_, rfl⟩
  rw [hR]
  have HR := Lib.hid hR
  clear hR
  go_enter Tryd.func72, Tryd.ntmps72
  go_wp2
  go_loopw [3] (fun iv wr => ∃ i : Nat, i ≤ 64 ∧ iv = .int .i64 (i : Int) ∧ Aside ((∀ j, j < i → letQ j ≠ c) ∧ ∃ m, wr = w.drewN m)) (fun iv _ => 64 - (intOf iv).toNat)
  case atStart => exact ⟨0, by omega, rfl, fun j h => absurd h (by omega), 0, rfl⟩
  case round =>
    obtain ⟨i, hi, rfl, hrel⟩ := hrel
    by_cases hlt : i < 64
    · have hiI : (i : Int) < 64 := by omega
      have hlet := fun W => letter_f i W hlt
      have HL := Lib.hid hlet
      have HN := Lib.hid hrel.out
      clear hlet hrel
      by_cases e : letQ i = c
      · have hr := six_of hlt e
        rw [HR.out] at hr
        subst hr
        rw [e] at HL
        have hcc : ((c : Int) == (c : Int)) = true := beq_self_eq_true _
        go_wp2_with fail
        refine (HL.out _).mono ?_
        rintro e1 w1 ⟨rfl, hw⟩
        obtain rfl := hw.symm
        go_wp2
        go_ret
        exact ⟨rfl, HN.out.2⟩
      · obtain ⟨q, hq⟩ : ∃ q, letQ i = q := ⟨_, rfl⟩
        rw [hq] at HL e
        have HQ := Lib.hid hq
        have hcI : ¬ (q : Int) = (c : Int) := by omega
        have hcc : ((q : Int) == (c : Int)) = false := beq_eq_false_iff_ne.2 hcI
        clear hq
        go_wp2_with fail
        refine (HL.out _).mono ?_
        rintro e1 w1 ⟨rfl, hw⟩
        obtain rfl := hw.symm
        go_wp2
        go_roundw
        case rel =>
          refine ⟨i + 1, by omega, by go_num, (show Aside _ from ⟨fun j hj => ?_, HN.out.2⟩)⟩
          by_cases ej : j = i
          · subst ej; rw [HQ.out]; exact e
          · exact HN.out.1 j (by omega)
        case measure => simp [intOf]; omega
    · obtain rfl : i = 64 := by omega
      have hr := six_none hrel.out.1
      rw [HR.out] at hr
      subst hr
      have HN := Lib.hid hrel.out.2
      clear hrel hlt hi
      go_wp2
      go_ret
      exact ⟨rfl, HN.out⟩
end Go.Proofs.YtbclgalocipmfaaDoor
