/-
  The law PlainRunes.
-/
import Derived.Test.YtkacgdhcacclcaaDoorPlAlive
namespace Go.Proofs.YtkacgdhcacclcaaDoor
open Go.RowKit
set_option maxRecDepth 100000
set_option linter.unusedVariables false
set_option maxHeartbeats 4000000 in
theorem prunes_law (s : ByteArray) (w : World) (hT : Tab7 w) : Calls Tryd.prog 5 #[.string s] w fun e w' => e = .returned (.bool true) ∧ Below w.heap.size w w' := by
  have HT := Lib.hid hT
  by_cases h1000 : 1000 < s.size
  · have hI : (1000 : Int) < s.size := by omega
    go_enter Tryd.func5, Tryd.ntmps5
    go_wp2_with (go_at_call 10; refine (palive_f _ HT.out).mono ?_; rintro e w1 ⟨rfl, b1⟩; have H1 := Lib.hid b1; clear b1)
    go_ret
    exact ⟨rfl, H1.out⟩
  have hI : ¬ (1000 : Int) < s.size := by omega
  have hs : s.size ≤ 1000000 := by omega
  obtain ⟨R, hR⟩ : ∃ R, runesQ s.data.toList = R := ⟨_, rfl⟩
  have cP := fun W (h : Below w.heap.size w W) => runes_f s W hs (HT.out.u.below h HT.out.u.size)
  have cR := fun W => rrunes_b s W hs
  rw [hR] at cP cR
  have HC := Lib.hid (And.intro cP cR)
  clear cP cR hR hT h1000 hs
  go_enter Tryd.func5, Tryd.ntmps5
  go_wp2_with fail
  refine (palive_f w HT.out).mono ?_
  rintro e w1 ⟨rfl, b1⟩
  have H1 := Lib.hid b1
  clear b1
  cases R with
  | none =>
    unfold runesEnd at HC
    go_wp2_with fail
    refine (HC.out.1 w1 H1.out).mono ?_
    rintro e w2 ⟨rfl, b2⟩
    have H2 := Lib.hid (H1.out.trans (b2.mono H1.out.size))
    clear b2
    try dsimp only
    go_wp2_with fail
    refine (HC.out.2 w2).mono ?_
    rintro e w3 ⟨rfl, b3⟩
    have H3 := Lib.hid (H2.out.trans (b3.mono H2.out.size))
    clear b3
    try dsimp only
    go_wp2
    go_ret
    exact ⟨rfl, H3.out⟩
  | some n =>
    unfold runesEnd at HC
    have hnn : ((n : Int) == (n : Int)) = true := beq_self_eq_true _
    go_wp2_with fail
    refine (HC.out.1 w1 H1.out).mono ?_
    rintro e w2 ⟨rfl, b2⟩
    have H2 := Lib.hid (H1.out.trans (b2.mono H1.out.size))
    clear b2
    try dsimp only
    go_wp2_with fail
    refine (HC.out.2 w2).mono ?_
    rintro e w3 ⟨rfl, b3⟩
    have H3 := Lib.hid (H2.out.trans (b3.mono H2.out.size))
    clear b3
    try dsimp only
    go_wp2
    go_ret
    exact ⟨rfl, H3.out⟩
end Go.Proofs.YtkacgdhcacclcaaDoor
