/-
  How many bytes a number has; these bytes; a number out of bytes.
-/
import Derived.Test.YtkacgdhcacclcaaDoorVaOf
import Derived.BigQuiet
import Derived.Laws.Shifts
namespace Go.Proofs.YtkacgdhcacclcaaDoor
open Go.RowKit
set_option maxRecDepth 100000
set_option maxRecDepth 100000
set_option linter.unusedVariables false
def widthQ (n : Int) : Nat := if -128 ≤ n ∧ n < 128 then 1 else if -32768 ≤ n ∧ n < 32768 then 2 else if -2147483648 ≤ n ∧ n < 2147483648 then 4 else 8
theorem bne_no {a b : Int} (h : a = b) : (a != b) = false := by subst h; exact bne_self_eq_false _
theorem bne_yes {a b : Int} (h : a ≠ b) : (a != b) = true := bne_iff_ne.2 h
set_option maxHeartbeats 4000000 in
theorem width_f (n : Int) (w : World) (h0 : -9223372036854775808 ≤ n) (h1 : n ≤ 9223372036854775807) : Calls Tryd.prog 54 #[.int .i64 n] w fun e w' => e = .returned (.int .i64 (widthQ n : Int)) ∧ w = w' := by
  obtain ⟨R, hR⟩ : ∃ R, widthQ n = R := ⟨_, rfl⟩
  rw [hR]
  unfold widthQ at hR
  have HR := Lib.hid hR
  have HN := Lib.hid (And.intro h0 h1)
  clear hR h0 h1
  go_enter Tryd.func54, Tryd.ntmps54
  go_wp2
  go_loop [3] (fun t => ∃ z : Int, t = .int .i64 z ∧ Aside (z = 1 ∨ z = 2 ∧ ¬ (-128 ≤ n ∧ n < 128) ∨ z = 4 ∧ ¬ (-32768 ≤ n ∧ n < 32768) ∧ ¬ (-128 ≤ n ∧ n < 128) ∨ z = 8 ∧ ¬ (-2147483648 ≤ n ∧ n < 2147483648) ∧ ¬ (-32768 ≤ n ∧ n < 32768) ∧ ¬ (-128 ≤ n ∧ n < 128))) (fun t => (8 - intOf t).toNat)
  case atStart => exact ⟨1, rfl, .inl rfl⟩
  case round =>
    obtain ⟨z, rfl, hz⟩ := hrel
    have hn0 := HN.out.1
    have hn1 := HN.out.2
    rcases hz.out with rfl | ⟨rfl, g1⟩ | ⟨rfl, g2, g1⟩ | ⟨rfl, g4, g2, g1⟩
    · clear hz
      by_cases c : -128 ≤ n ∧ n < 128
      · obtain rfl : 1 = R := by rw [← HR.out, if_pos c]
        have t1 : (n / 128 != n / 9223372036854775808) = false := bne_no (by omega)
        clear hn0 hn1 c
        go_wp2
        go_ret
        exact ⟨rfl, rfl⟩
      · have t1 : (n / 128 != n / 9223372036854775808) = true := bne_yes (by omega)
        have C := Lib.hid c
        clear hn0 hn1 c
        go_wp2
        go_round
        case rel => exact ⟨2, rfl, (show Aside _ from .inr (.inl ⟨rfl, C.out⟩))⟩
        case measure => simp [intOf]
    · clear hz
      by_cases c : -32768 ≤ n ∧ n < 32768
      · obtain rfl : 2 = R := by rw [← HR.out, if_neg g1, if_pos c]
        have t1 : (n / 32768 != n / 9223372036854775808) = false := bne_no (by omega)
        clear hn0 hn1 c g1
        go_wp2
        go_ret
        exact ⟨rfl, rfl⟩
      · have t1 : (n / 32768 != n / 9223372036854775808) = true := bne_yes (by omega)
        have C := Lib.hid (And.intro c g1)
        clear hn0 hn1 c g1
        go_wp2
        go_round
        case rel => exact ⟨4, rfl, (show Aside _ from .inr (.inr (.inl ⟨rfl, C.out.1, C.out.2⟩)))⟩
        case measure => simp [intOf]
    · clear hz
      by_cases c : -2147483648 ≤ n ∧ n < 2147483648
      · obtain rfl : 4 = R := by rw [← HR.out, if_neg g1, if_neg g2, if_pos c]
        have t1 : (n / 2147483648 != n / 9223372036854775808) = false := bne_no (by omega)
        clear hn0 hn1 c g1 g2
        go_wp2
        go_ret
        exact ⟨rfl, rfl⟩
      · have t1 : (n / 2147483648 != n / 9223372036854775808) = true := bne_yes (by omega)
        have C := Lib.hid (And.intro c (And.intro g2 g1))
        clear hn0 hn1 c g1 g2
        go_wp2
        go_round
        case rel => exact ⟨8, rfl, (show Aside _ from .inr (.inr (.inr ⟨rfl, C.out.1, C.out.2.1, C.out.2.2⟩)))⟩
        case measure => simp [intOf]
    · obtain rfl : 8 = R := by rw [← HR.out, if_neg g1, if_neg g2, if_neg g4]
      have t1 : (n / 9223372036854775808 != n / 9223372036854775808) = false := bne_no rfl
      clear hn0 hn1 g1 g2 g4 hz
      go_wp2
      go_ret
      exact ⟨rfl, rfl⟩
end Go.Proofs.YtkacgdhcacclcaaDoor
