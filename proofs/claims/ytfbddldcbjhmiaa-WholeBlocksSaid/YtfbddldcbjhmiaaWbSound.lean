/-
  A message is written and read at all; nothing waits, nothing is kept.
-/
import Derived.Test.YtfbddldcbjhmiaaWbPure
import Derived.Test.YtfbddldcbjhmiaaMsgRead
import Derived.Test.YtfbddldcbjhmiaaCaLen
import Derived.Test.YtfbddldcbjhmiaaExRow
namespace Go.Proofs.Ytfbddldcbjhmiaa
open Go.RowKit
set_option linter.unusedVariables false
theorem sw_w : mwr 0 1 1 [] [] [] = ([64, 1, 0, 1], 0) := by decide +kernel
theorem sw_r1 : (rdM [64, 1, 0, 1]).1.kd = 0 ∧ (rdM [64, 1, 0, 1]).1.cd = 1 ∧ (rdM [64, 1, 0, 1]).1.id = 1 ∧ (rdM [64, 1, 0, 1]).1.tok = [] ∧ (rdM [64, 1, 0, 1]).1.ps = [] ∧ (rdM [64, 1, 0, 1]).1.body = [] ∧ (rdM [64, 1, 0, 1]).2 = 0 := by decide +kernel
theorem sw_r : rdM [64, 1, 0, 1] = (⟨0, 1, 1, [], [], []⟩, 0) := by
  have h := sw_r1
  generalize rdM [64, 1, 0, 1] = R at h ⊢
  obtain ⟨⟨a, b, c, d, e, f⟩, g⟩ := R
  dsimp only at h
  obtain ⟨rfl, rfl, rfl, rfl, rfl, rfl, rfl⟩ := h
  rfl
set_option maxHeartbeats 4000000 in
theorem sound_any (w : World) : Calls Try.prog 5 #[] w fun e w' => e = .returned (.bool true) ∧ Below w.heap.size w w' := by
  go_enter Try.func5, Try.ntmps5
  go_wp2_with fail
  have hw := fun W => mwrite_f 0 1 1 none 0 0 none 0 0 none 0 0 [] [] [] [] W (Ms.zero _ _) (by omega) (by omega) (by omega)
  rw [sw_w] at hw
  have b0 := alloc_below w (.cells #[.int .i64 0, .int .i64 1, .int .i64 1, .slice none 0 0, .slice none 0 0, .slice none 0 0] 38)
  refine calls_at_world (F := fun W => Below w.heap.size w W) (by first | exact b0 | exact Below.refl _ _) fun W1 b1 => ?_
  refine (hw W1).mono ?_
  rintro e w2 ⟨A2, n2, c2, rfl, ⟨hc2, hm2⟩, hn2, hb2, b2⟩
  obtain rfl : n2 = 4 := hn2.out
  have hrd := mread_f A2 4 c2 [64, 1, 0, 1] w2 _ hb2 (Nat.le_refl _) hc2 (by simp only [maxLen] at hm2; omega) (by omega)
  rw [sw_r] at hrd
  have H2 := Lib.hid (And.intro hrd (b1.trans (b2.mono b1.size)))
  clear hw b0 b1 hc2 hm2 hn2 hb2 b2 hrd
  try dsimp only
  go_wp2_with fail
  refine H2.out.1.mono ?_
  rintro e w3 ⟨tA, tn, tc, oA, on, oc, bA, bn, bc, us, rfl, hcaps, hms, b3⟩
  have H3 := Lib.hid (H2.out.2.trans (b3.mono H2.out.2.size))
  clear hcaps hms b3
  try dsimp only
  go_wp2_with fail
  refine calls_at_world (F := fun W => Below w3.heap.size w3 W) (by first | exact alloc_below _ _ | exact Below.refl _ _) fun W3 p3 => ?_
  refine (exnew_f W3).mono ?_
  rintro e w4 ⟨rfl, t4, b4, s4⟩
  have H4 := Lib.hid (And.intro t4 (H3.out.trans ((p3.trans (b4.mono p3.size)).mono H3.out.size)))
  clear p3 t4 b4 s4
  go_wp2_with fail
  refine (exlen_f H4.out.1).mono ?_
  rintro e w5 ⟨rfl, hw⟩
  obtain rfl := hw.symm
  try dsimp only
  go_wp2_with fail
  refine (canew_f w4).mono ?_
  rintro e w5 ⟨rfl, c5, b5, s5⟩
  have H5 := Lib.hid (And.intro c5 (H4.out.2.trans (b5.mono H4.out.2.size)))
  clear c5 b5 s5
  go_wp2_with fail
  refine (calen_f w4.heap.size (.slice none 0 0) [] [] w5 H5.out.1 0).mono ?_
  rintro e w6 ⟨rfl, b6⟩
  have H6 := Lib.hid (H5.out.2.trans (b6.mono H5.out.2.size))
  clear b6
  try dsimp only
  go_wp2
  go_ret
  exact ⟨rfl, H6.out⟩
end Go.Proofs.Ytfbddldcbjhmiaa
