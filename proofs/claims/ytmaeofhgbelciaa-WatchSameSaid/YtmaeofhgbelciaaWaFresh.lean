/-
  Which number is fresher: the program's and the document's answer.
-/
import Derived.Test.YtmaeofhgbelciaaWaDuo
import Derived.Laws.Bits64
import Derived.IntWalk
namespace Go.Proofs.Ytmaeofhgbelciaa
open Go.RowKit
set_option maxRecDepth 100000
set_option maxRecDepth 100000
set_option linter.unusedVariables false
set_option linter.unusedSimpArgs false
theorem and24_ (x : Int) : bits .and .i64 x 16777215 = x % 16777216 := by
  show IntKind.i64.wrap ((BitVec.ofInt 64 x &&& BitVec.ofInt 64 16777215).toNat : Int) = x % 16777216
  rw [BitVec.toNat_and, show (BitVec.ofInt 64 16777215).toNat = 2 ^ 24 - 1 from rfl, Nat.and_two_pow_sub_one_eq_mod, BitVec.toNat_ofInt, IntWalk.i64_in _ (by omega)]
  omega
/-- By how much the second number is ahead. -/
def farQ (a b : Int) : Int := (b - a) % 16777216
def freshQ (a b s t : Int) : Bool := decide ((0 < farQ a b ∧ farQ a b < 8388608) ∨ 128 < clampQ t - clampQ s)
theorem far_in (a b : Int) : 0 ≤ farQ a b ∧ farQ a b < 16777216 := by unfold farQ; omega
set_option maxHeartbeats 2000000 in
theorem fresh_f (a b s t : Int) (w : World) : Calls Try.prog 8 #[.int .i64 a, .int .i64 b, .int .i64 s, .int .i64 t] w fun e w' => e = .returned (.bool (freshQ a b s t)) ∧ w' = w := by
  have e1 := and24_ a
  have e2 := and24_ b
  have hf : farQ a b = (b % 16777216 - a % 16777216) % 16777216 := by unfold farQ; omega
  obtain ⟨x, hx⟩ : ∃ x, a % 16777216 = x := ⟨_, rfl⟩
  obtain ⟨y, hy⟩ : ∃ y, b % 16777216 = y := ⟨_, rfl⟩
  have hx0 : 0 ≤ x ∧ x < 16777216 := by omega
  have hy0 : 0 ≤ y ∧ y < 16777216 := by omega
  rw [hx] at e1 hf
  rw [hy] at e2 hf
  have k1 := fun W => clamp_f s W
  have k2 := fun W => clamp_f t W
  obtain ⟨p, hp⟩ : ∃ p, clampQ s = p := ⟨_, rfl⟩
  obtain ⟨q, hq⟩ : ∃ q, clampQ t = q := ⟨_, rfl⟩
  have hp0 := clampQ_in s
  have hq0 := clampQ_in t
  rw [hp] at hp0
  rw [hq] at hq0
  simp only [hp] at k1
  simp only [hq] at k2
  obtain ⟨R, hR⟩ : ∃ R, freshQ a b s t = R := ⟨_, rfl⟩
  rw [hR]
  have hR2 : R = decide ((0 < (y - x) % 16777216 ∧ (y - x) % 16777216 < 8388608) ∨ 128 < q - p) := by rw [← hR]; unfold freshQ; rw [hf, hp, hq]
  have hpp := hp0
  have hqq := hq0
  have HK := Lib.hid (And.intro k1 k2)
  clear k1 k2 hp hq hR hx hy hf hp0 hq0
  obtain ⟨p0, p1⟩ := hpp
  obtain ⟨q0, q1⟩ := hqq
  obtain ⟨x0, x1⟩ := hx0
  obtain ⟨y0, y1⟩ := hy0
  rcases (show (y > x ∧ y - x < 8388608) ∨ (y > x ∧ ¬ y - x < 8388608 ∧ ¬ x > y) ∨ (¬ y > x ∧ x > y ∧ x - y > 8388608) ∨ (¬ y > x ∧ x > y ∧ ¬ x - y > 8388608) ∨ (¬ y > x ∧ ¬ x > y) by omega) with ⟨g1, g2⟩ | ⟨g1, g2, g3⟩ | ⟨g1, g2, g3⟩ | ⟨g1, g2, g3⟩ | ⟨g1, g2⟩
  · obtain rfl : R = true := by rw [hR2]; exact decide_eq_true (.inl (by omega))
    clear hR2
    go_enter Try.func8, Try.ntmps8
    go_wp2
    go_ret
    exact ⟨rfl, rfl⟩
  · obtain rfl : R = decide (q > p + 128) := by rw [hR2]; exact decide_eq_decide.2 (by omega)
    clear hR2
    go_enter Try.func8, Try.ntmps8
    go_wp2_with (first | (go_at_call 30; refine (HK.out.2 _).mono ?_; rintro e w' ⟨rfl, hw⟩; obtain rfl := hw.symm) | (go_at_call 30; refine (HK.out.1 _).mono ?_; rintro e w' ⟨rfl, hw⟩; obtain rfl := hw.symm))
    go_ret
    exact ⟨by first | rfl | simp, rfl⟩
  · obtain rfl : R = true := by rw [hR2]; exact decide_eq_true (.inl (by omega))
    clear hR2
    go_enter Try.func8, Try.ntmps8
    go_wp2
    go_ret
    exact ⟨rfl, rfl⟩
  all_goals
    obtain rfl : R = decide (q > p + 128) := by rw [hR2]; exact decide_eq_decide.2 (by omega)
    clear hR2
    go_enter Try.func8, Try.ntmps8
    go_wp2_with (first | (go_at_call 30; refine (HK.out.2 _).mono ?_; rintro e w' ⟨rfl, hw⟩; obtain rfl := hw.symm) | (go_at_call 30; refine (HK.out.1 _).mono ?_; rintro e w' ⟨rfl, hw⟩; obtain rfl := hw.symm))
    go_ret
    exact ⟨by first | rfl | simp, rfl⟩
theorem clock_f (t : Int) (w : World) : Calls Try.prog 31 #[.int .i64 t] w fun e w' => e = .returned (.int .i64 (clampQ t)) ∧ w' = w := by
  obtain ⟨q, hq⟩ : ∃ q, clampQ t = q := ⟨_, rfl⟩
  rw [hq]
  unfold clampQ at hq
  by_cases h0 : t < 0
  · obtain rfl : q = 0 := by omega
    clear hq
    go_enter Try.func31, Try.ntmps31
    go_wp2
    go_ret
    exact ⟨rfl, rfl⟩
  by_cases h1 : t > 1099511627776
  · obtain rfl : q = 1099511627776 := by omega
    clear hq
    go_enter Try.func31, Try.ntmps31
    go_wp2
    go_ret
    exact ⟨rfl, rfl⟩
  · obtain rfl : q = t := by omega
    clear hq
    go_enter Try.func31, Try.ntmps31
    go_wp2
    go_ret
    exact ⟨rfl, rfl⟩
theorem sub24_ (a b : Int) : bits .and .i64 (wrap64 (b - a)) 16777215 = farQ a b := by
  rw [and24_]; unfold farQ wrap64; omega
set_option maxHeartbeats 2000000 in
theorem rfresh_f (a b s t : Int) (w : World) : Calls Try.prog 9 #[.int .i64 a, .int .i64 b, .int .i64 s, .int .i64 t] w fun e w' => e = .returned (.bool (freshQ a b s t)) ∧ w' = w := by
  have e1 := sub24_ a b
  have hf0 := far_in a b
  have k1 := fun W => clock_f s W
  have k2 := fun W => clock_f t W
  obtain ⟨p, hp⟩ : ∃ p, clampQ s = p := ⟨_, rfl⟩
  obtain ⟨q, hq⟩ : ∃ q, clampQ t = q := ⟨_, rfl⟩
  have hp0 := clampQ_in s
  have hq0 := clampQ_in t
  rw [hp] at hp0
  rw [hq] at hq0
  simp only [hp] at k1
  simp only [hq] at k2
  obtain ⟨R, hR⟩ : ∃ R, freshQ a b s t = R := ⟨_, rfl⟩
  rw [hR]
  unfold freshQ at hR
  rw [hp, hq] at hR
  obtain ⟨f, hf⟩ : ∃ f, farQ a b = f := ⟨_, rfl⟩
  rw [hf] at hR hf0 e1
  have HK := Lib.hid (And.intro k1 k2)
  clear k1 k2 hp hq hf
  obtain ⟨p0, p1⟩ := hp0
  obtain ⟨q0, q1⟩ := hq0
  obtain ⟨f0, f1⟩ := hf0
  rcases (show (f > 0 ∧ f < 8388608) ∨ (f > 0 ∧ ¬ f < 8388608) ∨ ¬ f > 0 by omega) with ⟨g1, g2⟩ | ⟨g1, g2⟩ | g1
  · obtain rfl : R = true := by rw [← hR]; exact decide_eq_true (.inl (by omega))
    clear hR
    go_enter Try.func9, Try.ntmps9
    go_wp2
    go_ret
    exact ⟨rfl, rfl⟩
  all_goals
    obtain rfl : R = decide (q - p > 128) := by rw [← hR]; exact decide_eq_decide.2 (by omega)
    clear hR
    go_enter Try.func9, Try.ntmps9
    go_wp2_with (first | (go_at_call 31; refine (HK.out.2 _).mono ?_; rintro e w' ⟨rfl, hw⟩; obtain rfl := hw.symm) | (go_at_call 31; refine (HK.out.1 _).mono ?_; rintro e w' ⟨rfl, hw⟩; obtain rfl := hw.symm))
    go_ret
    exact ⟨by first | rfl | simp, rfl⟩
end Go.Proofs.Ytmaeofhgbelciaa
