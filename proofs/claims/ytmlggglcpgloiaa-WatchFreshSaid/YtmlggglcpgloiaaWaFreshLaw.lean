/-
  WatchFresh: which number is fresher is as the document says; of two unlike ones, at one time, just one is.
-/
import Derived.Test.YtmlggglcpgloiaaWaAlive2
namespace Go.Proofs.Ytmlggglcpgloiaa
open Go.RowKit
set_option maxRecDepth 100000
set_option linter.unusedVariables false
theorem fresh_same (a b s : Int) : freshQ a b s s = decide (0 < farQ a b ∧ farQ a b < 8388608) := by
  unfold freshQ
  exact decide_eq_decide.2 (by omega)
theorem far_back (a b : Int) : farQ b a = if farQ a b = 0 then 0 else 16777216 - farQ a b := by
  unfold farQ
  split <;> omega
set_option maxHeartbeats 4000000 in
theorem wfresh_law (a b s t : Int) (w : World) :
    Calls Try.prog 5 #[.int .i64 a, .int .i64 b, .int .i64 s, .int .i64 t] w fun e w' => e = .returned (.bool true) ∧ Below w.heap.size w w' := by
  have ha := walive_f w
  have e1 := sub24_ a b
  have k1 := fun W => fresh_f a b s t W
  have k2 := fun W => rfresh_f a b s t W
  have k3 := fun W => fresh_f a b s s W
  have k4 := fun W => fresh_f b a s s W
  have hx := fresh_same a b s
  have hy := fresh_same b a s
  rw [far_back] at hy
  have hf := far_in a b
  obtain ⟨f, hff⟩ : ∃ f, farQ a b = f := ⟨_, rfl⟩
  rw [hff] at hx hy hf e1
  obtain ⟨R, hR⟩ : ∃ R, freshQ a b s t = R := ⟨_, rfl⟩
  simp only [hR] at k1 k2
  have hrr : (R == R) = true := beq_self_eq_true _
  obtain ⟨x, hxx⟩ : ∃ x, freshQ a b s s = x := ⟨_, rfl⟩
  obtain ⟨y, hyy⟩ : ∃ y, freshQ b a s s = y := ⟨_, rfl⟩
  simp only [hxx] at k3
  simp only [hyy] at k4
  rw [hxx] at hx
  rw [hyy] at hy
  obtain ⟨f0, f1⟩ := hf
  have HK := Lib.hid (And.intro ha (And.intro k1 (And.intro k2 (And.intro k3 k4))))
  clear ha k1 k2 k3 k4 hff hR hxx hyy
  rcases (show f = 0 ∨ f = 8388608 ∨ (0 < f ∧ f < 8388608) ∨ 8388608 < f by omega) with rfl | rfl | ⟨g1, g2⟩ | g1
  · obtain rfl : x = false := by rw [hx]; rfl
    obtain rfl : y = false := by rw [hy]; rfl
    clear hx hy f0 f1
    go_enter Try.func5, Try.ntmps5
    go_wp2_with fail
    refine HK.out.1.mono ?_
    rintro e w1 ⟨rfl, b1⟩
    have H1 := Lib.hid b1
    clear b1
    try dsimp only
    go_wp2_with fail
    refine (HK.out.2.1 w1).mono ?_
    rintro e w' ⟨rfl, hw⟩
    obtain rfl := hw.symm
    try dsimp only
    go_wp2_with fail
    refine (HK.out.2.2.1 w1).mono ?_
    rintro e w' ⟨rfl, hw⟩
    obtain rfl := hw.symm
    try dsimp only
    go_wp2_with fail
    refine (HK.out.2.2.2.1 w1).mono ?_
    rintro e w' ⟨rfl, hw⟩
    obtain rfl := hw.symm
    try dsimp only
    go_wp2_with fail
    refine (HK.out.2.2.2.2 w1).mono ?_
    rintro e w' ⟨rfl, hw⟩
    obtain rfl := hw.symm
    try dsimp only
    go_wp2
    go_ret
    exact ⟨rfl, H1.out⟩
  · obtain rfl : x = false := by rw [hx]; rfl
    obtain rfl : y = false := by rw [hy]; rfl
    clear hx hy f0 f1
    go_enter Try.func5, Try.ntmps5
    go_wp2_with fail
    refine HK.out.1.mono ?_
    rintro e w1 ⟨rfl, b1⟩
    have H1 := Lib.hid b1
    clear b1
    try dsimp only
    go_wp2_with fail
    refine (HK.out.2.1 w1).mono ?_
    rintro e w' ⟨rfl, hw⟩
    obtain rfl := hw.symm
    try dsimp only
    go_wp2_with fail
    refine (HK.out.2.2.1 w1).mono ?_
    rintro e w' ⟨rfl, hw⟩
    obtain rfl := hw.symm
    try dsimp only
    go_wp2_with fail
    refine (HK.out.2.2.2.1 w1).mono ?_
    rintro e w' ⟨rfl, hw⟩
    obtain rfl := hw.symm
    try dsimp only
    go_wp2_with fail
    refine (HK.out.2.2.2.2 w1).mono ?_
    rintro e w' ⟨rfl, hw⟩
    obtain rfl := hw.symm
    try dsimp only
    go_wp2
    go_ret
    exact ⟨rfl, H1.out⟩
  · obtain rfl : x = true := by rw [hx]; exact decide_eq_true ⟨g1, g2⟩
    obtain rfl : y = false := by rw [hy, if_neg (by omega)]; exact decide_eq_false (by omega)
    have h1 : (f == 0) = false := beq_eq_false_iff_ne.2 (by omega)
    have h2 : (f == 8388608) = false := beq_eq_false_iff_ne.2 (by omega)
    clear hx hy f0 f1 g1 g2
    go_enter Try.func5, Try.ntmps5
    go_wp2_with fail
    refine HK.out.1.mono ?_
    rintro e w1 ⟨rfl, b1⟩
    have H1 := Lib.hid b1
    clear b1
    try dsimp only
    go_wp2_with fail
    refine (HK.out.2.1 w1).mono ?_
    rintro e w' ⟨rfl, hw⟩
    obtain rfl := hw.symm
    try dsimp only
    go_wp2_with fail
    refine (HK.out.2.2.1 w1).mono ?_
    rintro e w' ⟨rfl, hw⟩
    obtain rfl := hw.symm
    try dsimp only
    go_wp2_with fail
    refine (HK.out.2.2.2.1 w1).mono ?_
    rintro e w' ⟨rfl, hw⟩
    obtain rfl := hw.symm
    try dsimp only
    go_wp2_with fail
    refine (HK.out.2.2.2.2 w1).mono ?_
    rintro e w' ⟨rfl, hw⟩
    obtain rfl := hw.symm
    try dsimp only
    go_wp2
    go_ret
    exact ⟨rfl, H1.out⟩
  · obtain rfl : x = false := by rw [hx]; exact decide_eq_false (by omega)
    obtain rfl : y = true := by rw [hy, if_neg (by omega)]; exact decide_eq_true (by omega)
    have h1 : (f == 0) = false := beq_eq_false_iff_ne.2 (by omega)
    have h2 : (f == 8388608) = false := beq_eq_false_iff_ne.2 (by omega)
    clear hx hy f0 f1 g1
    go_enter Try.func5, Try.ntmps5
    go_wp2_with fail
    refine HK.out.1.mono ?_
    rintro e w1 ⟨rfl, b1⟩
    have H1 := Lib.hid b1
    clear b1
    try dsimp only
    go_wp2_with fail
    refine (HK.out.2.1 w1).mono ?_
    rintro e w' ⟨rfl, hw⟩
    obtain rfl := hw.symm
    try dsimp only
    go_wp2_with fail
    refine (HK.out.2.2.1 w1).mono ?_
    rintro e w' ⟨rfl, hw⟩
    obtain rfl := hw.symm
    try dsimp only
    go_wp2_with fail
    refine (HK.out.2.2.2.1 w1).mono ?_
    rintro e w' ⟨rfl, hw⟩
    obtain rfl := hw.symm
    try dsimp only
    go_wp2_with fail
    refine (HK.out.2.2.2.2 w1).mono ?_
    rintro e w' ⟨rfl, hw⟩
    obtain rfl := hw.symm
    try dsimp only
    go_wp2
    go_ret
    exact ⟨rfl, H1.out⟩
end Go.Proofs.Ytmlggglcpgloiaa
