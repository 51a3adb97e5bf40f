/-
  The four bits that a sign stands for.
-/
import Derived.Test.YtoagodgiaccadaaDoorShaEnd
namespace Go.Proofs.YtoagodgiaccadaaDoor
open Go.RowKit
/-- The four bits of a sign. -/
def dig? (r : Nat) : Option Nat := if 48 ≤ r ∧ r ≤ 57 then some (r - 48) else if 97 ≤ r ∧ r ≤ 102 then some (r - 87) else if 65 ≤ r ∧ r ≤ 70 then some (r - 55) else none
theorem digit_1 (w : World) (r : Nat) (b1 : (48 : Int) ≤ (r : Int)) (b2 : (r : Int) ≤ 57) : Calls Tryd.prog 20 #[.int .i32 (r : Int)] w fun e w' => e = .returned (.tuple #[.int .u8 ((r : Int) - 48), .bool true]) ∧ w' = w := by
  go_enter Tryd.func20, Tryd.ntmps20
  go_wp2
  go_ret2
  exact ⟨rfl, rfl⟩
theorem digit_2 (w : World) (r : Nat) (b1 : (97 : Int) ≤ (r : Int)) (b2 : (r : Int) ≤ 102) : Calls Tryd.prog 20 #[.int .i32 (r : Int)] w fun e w' => e = .returned (.tuple #[.int .u8 ((r : Int) - 97 + 10), .bool true]) ∧ w' = w := by
  have b0 : (48 : Int) ≤ (r : Int) := by omega
  have b3 : ¬ (r : Int) ≤ 57 := by omega
  go_enter Tryd.func20, Tryd.ntmps20
  go_wp2
  go_ret2
  exact ⟨rfl, rfl⟩
theorem digit_3 (w : World) (r : Nat) (b1 : (65 : Int) ≤ (r : Int)) (b2 : (r : Int) ≤ 70) : Calls Tryd.prog 20 #[.int .i32 (r : Int)] w fun e w' => e = .returned (.tuple #[.int .u8 ((r : Int) - 65 + 10), .bool true]) ∧ w' = w := by
  have b0 : (48 : Int) ≤ (r : Int) := by omega
  have b3 : ¬ (r : Int) ≤ 57 := by omega
  have b4 : ¬ (97 : Int) ≤ (r : Int) := by omega
  go_enter Tryd.func20, Tryd.ntmps20
  go_wp2
  go_ret2
  exact ⟨rfl, rfl⟩
theorem digit_0 (w : World) (r : Int) (h : ¬ (48 ≤ r ∧ r ≤ 57) ∧ ¬ (97 ≤ r ∧ r ≤ 102) ∧ ¬ (65 ≤ r ∧ r ≤ 70)) : Calls Tryd.prog 20 #[.int .i32 r] w fun e w' => e = .returned (.tuple #[.int .u8 0, .bool false]) ∧ w' = w := by
  obtain ⟨h1, h2, h3⟩ := h
  by_cases a1 : 48 ≤ r <;> by_cases a2 : 97 ≤ r <;> by_cases a3 : 65 ≤ r
  all_goals try (exfalso; omega)
  · have c1 : ¬ r ≤ 57 := by omega
    have c2 : ¬ r ≤ 102 := by omega
    have c3 : ¬ r ≤ 70 := by omega
    clear h1 h2 h3
    go_enter Tryd.func20, Tryd.ntmps20
    go_wp2
    go_ret2
    exact ⟨rfl, rfl⟩
  · have c1 : ¬ r ≤ 57 := by omega
    have c3 : ¬ r ≤ 70 := by omega
    clear h1 h2 h3
    go_enter Tryd.func20, Tryd.ntmps20
    go_wp2
    go_ret2
    exact ⟨rfl, rfl⟩
  · have c1 : ¬ r ≤ 57 := by omega
    clear h1 h2 h3
    go_enter Tryd.func20, Tryd.ntmps20
    go_wp2
    go_ret2
    exact ⟨rfl, rfl⟩
  · clear h1 h2 h3
    go_enter Tryd.func20, Tryd.ntmps20
    go_wp2
    go_ret2
    exact ⟨rfl, rfl⟩
theorem digit_yes (w : World) (r n : Nat) (h : dig? r = some n) : Calls Tryd.prog 20 #[.int .i32 (r : Int)] w fun e w' => e = .returned (.tuple #[.int .u8 (n : Int), .bool true]) ∧ w' = w := by
  unfold dig? at h
  split at h
  · rename_i hc
    injection h with h
    rw [show (n : Int) = (r : Int) - 48 by omega]
    exact digit_1 w r (by omega) (by omega)
  · split at h
    · injection h with h
      rw [show (n : Int) = (r : Int) - 97 + 10 by omega]
      exact digit_2 w r (by omega) (by omega)
    · split at h
      · injection h with h
        rw [show (n : Int) = (r : Int) - 65 + 10 by omega]
        exact digit_3 w r (by omega) (by omega)
      · cases h
theorem digit_no (w : World) (r : Nat) (h : dig? r = none) : Calls Tryd.prog 20 #[.int .i32 (r : Int)] w fun e w' => e = .returned (.tuple #[.int .u8 0, .bool false]) ∧ w' = w := by
  unfold dig? at h
  split at h
  · cases h
  · split at h
    · cases h
    · split at h
      · cases h
      · exact digit_0 w r ⟨by omega, by omega, by omega⟩
end Go.Proofs.YtoagodgiaccadaaDoor
