/-
  The document's examples.
-/
import Derived.Test.YtcaipmljlhjlcaaDoorFsSame
namespace Go.Proofs.YtcaipmljlhjlcaaDoor
open Go.RowKit
set_option maxRecDepth 100000
set_option linter.unusedVariables false
set_option linter.unusedSimpArgs false
theorem al_1 : nextQ 2 5 0 = some ⟨5, 2, 3, 0⟩ := by decide +kernel
theorem al_2 : nextQ 2 1 0 = none := by decide +kernel
theorem al_3 : pathQ 0 0 0 9 = true := by decide +kernel
theorem al_4 : pathQ 0 0 1 1 = false := by decide +kernel
theorem al_5 : mayQ 1 0 2 0 = true := by decide +kernel
theorem al_6 : mayQ 0 0 2 0 = false := by decide +kernel
theorem al_7 : pathQ 0 0 3 0 = true := by decide +kernel
theorem al_8 : nameQ 1 = ⟨#[68, 111, 119, 110, 108, 111, 97, 100, 105, 110, 103]⟩ := rfl
theorem al_9 : nameQ 4 = ⟨#[]⟩ := rfl
set_option maxHeartbeats 4000000 in
theorem alive22_f (w : World) (hT : Tb w) : Calls Tryd.prog 7 #[] w fun e w' => e = .returned (.bool true) ∧ Below w.heap.size w w' := by
  have HB := Lib.hid (And.intro hT (Below.refl w.heap.size w))
  clear hT
  have k1 := Lib.hid (fun (W : World) (h : Tb W) => by have := next_f 2 5 0 W h; rw [al_1] at this; exact this)
  have k2 := Lib.hid (fun (W : World) (h : Tb W) => by have := next_f 2 1 0 W h; rw [al_2] at this; exact this)
  have k3 := Lib.hid (fun (W : World) (h : Tb W) => by have := right_f 0 9 W h; rw [al_3] at this; exact this)
  have k4 := Lib.hid (fun (W : World) (h : Tb W) => by have := right_f 1 1 W h; rw [al_4] at this; exact this)
  have k5 := Lib.hid (fun (W : World) (h : Tb W) => by have := may_f 1 0 2 0 W h; rw [al_5] at this; exact this)
  have k6 := Lib.hid (fun (W : World) (h : Tb W) => by have := may_f 0 0 2 0 W h; rw [al_6] at this; exact this)
  have k7 := Lib.hid (fun (W : World) (h : Tb W) => by have := path_f 0 0 3 0 W h; rw [al_7] at this; exact this)
  have k8 := Lib.hid (fun (W : World) => by have := name_f 1 W; rw [al_8] at this; exact this)
  have k9 := Lib.hid (fun (W : World) => by have := name_f 4 W; rw [al_9] at this; exact this)
  have ka := Lib.hid (fun (W : World) (h : Tb W) => edges_f W h)
  go_enter Tryd.func7, Tryd.ntmps7
  go_wp2_with fail
  refine (k1.out w HB.out.1).mono ?_
  rintro e w1 ⟨rfl, hb1⟩
  try dsimp only [edOf, Ed.vals, Option.isSome]
  go_wp2_with fail
  obtain ⟨V1, hV1⟩ : ∃ V, w1.alloc (.cells #[.int .i64 5, .int .i64 2, .int .i64 3, .int .i64 0] 24) = V := ⟨_, rfl⟩
  rw [hV1]
  have hx1 : V1.heap[w1.heap.size]? = some (.cells #[.int .i64 5, .int .i64 2, .int .i64 3, .int .i64 0] 24) := by rw [← hV1]; exact heap_alloc_new w1 _
  have hs1 : w1.heap.size < V1.heap.size := by rw [← hV1, alloc_size]; omega
  have hbV1 : Below w.heap.size w V1 := by rw [← hV1]; exact hb1.trans ((alloc_below w1 _).mono hb1.size)
  have HV1 := Lib.hid (And.intro (HB.out.1.up hbV1) (And.intro hbV1 (And.intro hx1 hs1)))
  clear hx1 hs1 hbV1 hb1
  refine (k2.out V1 HV1.out.1).mono ?_
  rintro e w2 ⟨rfl, hb2⟩
  have hxw : w2.heap[w1.heap.size]? = some (.cells #[.int .i64 5, .int .i64 2, .int .i64 3, .int .i64 0] 24) := by rw [hb2.block _ HV1.out.2.2.2]; exact HV1.out.2.2.1
  have d0 : w2.cell? ⟨w1.heap.size, 1, none⟩ = some (.int .i64 2) := by rw [cell_of_row _ _ _ _ _ _ hxw]; rfl
  have d1 : w2.cell? ⟨w1.heap.size, 2, none⟩ = some (.int .i64 3) := by rw [cell_of_row _ _ _ _ _ _ hxw]; rfl
  have d2 : w2.cell? ⟨w1.heap.size, 3, none⟩ = some (.int .i64 0) := by rw [cell_of_row _ _ _ _ _ _ hxw]; rfl
  have dl := World.block_lt_of_cell? w2 ⟨w1.heap.size, 1, none⟩ d0
  clear hxw
  try dsimp only [edOf, Ed.vals, Option.isSome]
  go_wp2_with fail
  obtain ⟨V2, hV2⟩ : ∃ V, w2.alloc (.cells #[.int .i64 0, .int .i64 0, .int .i64 0, .int .i64 0] 24) = V := ⟨_, rfl⟩
  rw [hV2]
  have hq2 : Below V1.heap.size V1 V2 := by rw [← hV2]; exact hb2.trans ((alloc_below w2 _).mono hb2.size)
  have hx2 : V2.heap[w1.heap.size]? = some (.cells #[.int .i64 5, .int .i64 2, .int .i64 3, .int .i64 0] 24) := by rw [hq2.block _ HV1.out.2.2.2]; exact HV1.out.2.2.1
  have c0 : V2.cell? ⟨w1.heap.size, 1, none⟩ = some (.int .i64 2) := by rw [cell_of_row _ _ _ _ _ _ hx2]; rfl
  have c1 : V2.cell? ⟨w1.heap.size, 2, none⟩ = some (.int .i64 3) := by rw [cell_of_row _ _ _ _ _ _ hx2]; rfl
  have c2 : V2.cell? ⟨w1.heap.size, 3, none⟩ = some (.int .i64 0) := by rw [cell_of_row _ _ _ _ _ _ hx2]; rfl
  have hbV2 : Below w.heap.size w V2 := HV1.out.2.1.trans (hq2.mono HV1.out.2.1.size)
  have H2 := Lib.hid (And.intro (HB.out.1.up hbV2) hbV2)
  clear hq2 hx2 hbV2 hb2
  refine (k3.out V2 H2.out.1).mono ?_
  rintro e w3 ⟨rfl, hb3⟩
  have hc3 := H2.out.2.trans (hb3.mono H2.out.2.size)
  have H3 := Lib.hid (And.intro (HB.out.1.up hc3) hc3)
  clear hb3 hc3
  try dsimp only
  go_wp2_with fail
  refine (k4.out w3 H3.out.1).mono ?_
  rintro e w4 ⟨rfl, hb4⟩
  have hc4 := H3.out.2.trans (hb4.mono H3.out.2.size)
  have H4 := Lib.hid (And.intro (HB.out.1.up hc4) hc4)
  clear hb4 hc4
  try dsimp only
  go_wp2_with fail
  refine (k5.out w4 H4.out.1).mono ?_
  rintro e w5 ⟨rfl, hb5⟩
  have hc5 := H4.out.2.trans (hb5.mono H4.out.2.size)
  have H5 := Lib.hid (And.intro (HB.out.1.up hc5) hc5)
  clear hb5 hc5
  try dsimp only
  go_wp2_with fail
  refine (k6.out w5 H5.out.1).mono ?_
  rintro e w6 ⟨rfl, hb6⟩
  have hc6 := H5.out.2.trans (hb6.mono H5.out.2.size)
  have H6 := Lib.hid (And.intro (HB.out.1.up hc6) hc6)
  clear hb6 hc6
  try dsimp only
  go_wp2_with fail
  refine (k7.out w6 H6.out.1).mono ?_
  rintro e w7 ⟨rfl, hb7⟩
  have hc7 := H6.out.2.trans (hb7.mono H6.out.2.size)
  have H7 := Lib.hid (And.intro (HB.out.1.up hc7) hc7)
  clear hb7 hc7
  try dsimp only
  go_wp2_with fail
  refine (k8.out w7).mono ?_
  rintro e w' ⟨rfl, hw'⟩; rw [hw']; clear hw'
  try dsimp only
  go_wp2_with fail
  refine (k9.out w7).mono ?_
  rintro e w' ⟨rfl, hw'⟩; rw [hw']; clear hw'
  try dsimp only
  go_wp2_with fail
  refine (ka.out w7 H7.out.1).mono ?_
  rintro e w9 ⟨A, c, rfl, _, hb9⟩
  have h9 := Lib.hid (H7.out.2.trans (hb9.mono H7.out.2.size))
  clear hb9
  try dsimp only
  go_wp2
  go_ret
  exact ⟨rfl, h9.out⟩
end Go.Proofs.YtcaipmljlhjlcaaDoor
