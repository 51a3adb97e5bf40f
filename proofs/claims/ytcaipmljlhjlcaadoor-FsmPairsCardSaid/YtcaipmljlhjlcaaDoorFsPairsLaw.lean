/-
  The law FsmPairs.
-/
import Derived.Test.YtcaipmljlhjlcaaDoorFsAlive
namespace Go.Proofs.YtcaipmljlhjlcaaDoor
open Go.RowKit
set_option maxRecDepth 100000
set_option linter.unusedVariables false
set_option linter.unusedSimpArgs false
set_option maxHeartbeats 4000000 in
theorem fpairs_law (st rs to th : Int) (w : World) (hT : Tb w) : Calls Tryd.prog 4 #[.int .i64 st, .int .i64 rs, .int .i64 to, .int .i64 th] w fun e w' => e = .returned (.bool true) ∧ Below w.heap.size w w' := by
  have ha := Lib.hid (alive22_f w hT)
  obtain ⟨q1, hq1⟩ : ∃ q, rmayQ st rs to th = q := ⟨_, rfl⟩
  obtain ⟨q2, hq2⟩ : ∃ q, rpathQ st rs to th = q := ⟨_, rfl⟩
  obtain ⟨q3, hq3⟩ : ∃ q, rrightQ to th = q := ⟨_, rfl⟩
  have k1 := Lib.hid (fun (W : World) (h : Tb W) => by have := may_f st rs to th W h; rw [may_eq, hq1] at this; exact this)
  have k2 := Lib.hid (fun (W : World) (h : Tb W) => by have := path_f st rs to th W h; rw [path_eq, hq2] at this; exact this)
  have k3 := Lib.hid (fun (W : World) (h : Tb W) => by have := right_f to th W h; rw [right_eq, hq3] at this; exact this)
  have m1 := Lib.hid (fun (W : World) => by have := rmay_f st rs to th W; rw [hq1] at this; exact this)
  have m2 := Lib.hid (fun (W : World) => by have := rpath_f st rs to th W; rw [hq2] at this; exact this)
  have m3 := Lib.hid (fun (W : World) => by have := rright_f to th W; rw [hq3] at this; exact this)
  have HT := Lib.hid hT
  clear hT hq1 hq2 hq3
  go_enter Tryd.func4, Tryd.ntmps4
  go_wp2_with fail
  refine ha.out.mono ?_
  rintro e w1 ⟨rfl, hb1⟩
  have H1 := Lib.hid (And.intro (HT.out.up hb1) hb1)
  clear hb1
  try dsimp only
  go_wp2_with fail
  refine (k1.out w1 H1.out.1).mono ?_
  rintro e w2 ⟨rfl, hb2⟩
  have hc2 := H1.out.2.trans (hb2.mono H1.out.2.size)
  have H2 := Lib.hid (And.intro (HT.out.up hc2) hc2)
  clear hb2 hc2
  try dsimp only
  go_wp2_with fail
  refine (m1.out w2).mono ?_
  rintro e w' ⟨rfl, hw'⟩; rw [hw']; clear hw'
  try dsimp only
  go_wp2_with fail
  refine (k2.out w2 H2.out.1).mono ?_
  rintro e w3 ⟨rfl, hb3⟩
  have hc3 := H2.out.2.trans (hb3.mono H2.out.2.size)
  have H3 := Lib.hid (And.intro (HT.out.up hc3) hc3)
  clear hb3 hc3
  try dsimp only
  go_wp2_with fail
  refine (m2.out w3).mono ?_
  rintro e w' ⟨rfl, hw'⟩; rw [hw']; clear hw'
  try dsimp only
  go_wp2_with fail
  refine (k3.out w3 H3.out.1).mono ?_
  rintro e w4 ⟨rfl, hb4⟩
  have H4 := Lib.hid (H3.out.2.trans (hb4.mono H3.out.2.size))
  clear hb4
  try dsimp only
  go_wp2_with fail
  refine (m3.out w4).mono ?_
  rintro e w' ⟨rfl, hw'⟩; rw [hw']; clear hw'
  try dsimp only
  go_wp2
  go_ret
  exact ⟨by first | rfl | simp, H4.out⟩
end Go.Proofs.YtcaipmljlhjlcaaDoor
