/-
  The document's examples of options.
-/
import Derived.Test.YtfbddldcbjhmiaaOptPairs
namespace Go.Proofs.Ytfbddldcbjhmiaa
open Go.RowKit
set_option maxRecDepth 100000
set_option linter.unusedVariables false
theorem al_two : addO 1 [] (addO 11 [98] []) = [(1, []), (11, [98])] := by decide +kernel
theorem al_w1 : wrP [(11, [97]), (11, [98])] = ([177, 97, 1, 98], 0) := by decide +kernel
theorem al_w2 : (wrP [(12, List.replicate 269 0)]).2 = 0 ∧ (wrP [(12, List.replicate 269 0)]).1.length = 272 ∧ (wrP [(12, List.replicate 269 0)]).1[0]? = some 206 ∧ (wrP [(12, List.replicate 269 0)]).1[1]? = some 0 ∧ (wrP [(12, List.replicate 269 0)]).1[2]? = some 0 := by decide +kernel
theorem al_e1 : errP [(11, [97]), (11, [98])] = 0 := by decide +kernel
theorem al_get : getB 11 [(11, [97]), (11, [98])] = ([97], true) := by decide +kernel
theorem al_num : numB [1, 0] = (256, true) := by decide +kernel
theorem le_256 : (le 256).reverse.length = 2 := by
  rw [List.length_reverse, le_pos (by omega), le_pos (by omega), show 256 / 256 / 256 = 0 from rfl, le_zero]; rfl
theorem jn_11 : ∀ l, jn 11 l = some (11, 0) := fun l => rfl
theorem al_r1 : rdO [177, 97, 1, 98, 255, 7] = ([(11, [97]), (11, [98])], 4, 0) := by decide +kernel
theorem al_r2 : rdO [240] = ([], 0, 20) := by decide +kernel
end Go.Proofs.Ytfbddldcbjhmiaa
