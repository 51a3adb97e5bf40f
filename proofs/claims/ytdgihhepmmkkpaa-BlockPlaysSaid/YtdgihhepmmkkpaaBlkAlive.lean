/-
  The document's examples of layer 10.
-/
import Derived.Test.YtdgihhepmmkkpaaBlkPut
namespace Go.Proofs.Ytdgihhepmmkkpaa
open Go.RowKit
set_option maxRecDepth 100000
set_option linter.unusedVariables false
theorem ba_1 : blkW 3 64 true = ([58], 0) := by decide +kernel
theorem ba_2 : blkW 0 1024 false = ([6], 0) := by decide +kernel
theorem ba_3 : blkR [58] = ((3, true, 64), 0) := by decide +kernel
theorem ba_4 : blkR [7] = ((0, false, 0), 20) := by decide +kernel
theorem ba_5 : cutF (List.replicate 20 0) 0 16 = (List.replicate 16 0, true, true) := by decide +kernel
theorem ba_6 : jput (mostN 20) [] false 0 16 true (List.replicate 16 0) = ((List.replicate 16 0, false), false, 0) := by decide +kernel
theorem ba_7 : jput (mostN 20) (List.replicate 16 0) false 1 16 false [1, 2, 3, 4] = ((List.replicate 16 0 ++ [1, 2, 3, 4], true), true, 0) := by decide +kernel
theorem three {W : World} {b : Nat} {v0 v1 v2 : Value} (h : W.rangeAt b 0 [v0, v1, v2]) : W.cell? ⟨b, 0, none⟩ = some v0 ∧ W.cell? ⟨b, 1, none⟩ = some v1 ∧ W.cell? ⟨b, 2, none⟩ = some v2 := ⟨h 0 _ rfl, h 1 _ rfl, h 2 _ rfl⟩
def zr20 : Array Value := (U8 (List.replicate 20 0)).toArray
theorem made_zr20 : madeCells (Value.int .u8 0).cells (Int.toNat 20 * 1) = zr20 := by
  apply Array.toList_inj.1
  rw [show Int.toNat 20 * 1 = 20 from rfl, show (Value.int .u8 0).cells = #[.int .u8 0] from rfl, toList_madeCells_one]
  rfl
theorem run_zr20 (w : World) : (Instr.makeSlice 22 (.int .i64 20) (.int .i64 20)).run Try.prog w = .ok (.slice (some ⟨w.heap.size, 0, none⟩) 20 20) (w.alloc (.cells zr20 5)) := by
  obtain ⟨i0, hi0, hz0, hz1, hz2⟩ := info_parts info_u8
  have h := run_make (P := Try.prog) w 22 5 i0 _ Try.underlying22 hi0 hz0 .i64 .i64 20 20 (by omega) (Int.le_refl _) (by rw [hz2]; omega) (by omega)
  rw [hz1, made_zr20] at h
  exact h
set_option maxHeartbeats 8000000 in
theorem balive_any (w : World) : Calls Try.prog 13 #[] w fun e w' => e = .returned (.bool true) ∧ Below w.heap.size w w' := by
  go_enter Try.func13, Try.ntmps13
  go_wp2_with fail
  have h1 := bwrite_f 3 64 true w
  rw [ba_1] at h1
  refine h1.mono ?_
  rintro e w1 ⟨A1, n1, c1, rfl, hc1, hn1, hb1, b1⟩
  obtain rfl : n1 = 1 := hn1.out
  have H1 := Lib.hid (And.intro hb1 b1)
  clear h1 hn1 hb1 b1
  try dsimp only
  go_wp2_with fail
  have h2 := bwrite_f 0 1024 false w1
  rw [ba_2] at h2
  refine h2.mono ?_
  rintro e w2 ⟨A2, n2, c2, rfl, hc2, hn2, hb2, b2⟩
  obtain rfl : n2 = 1 := hn2.out
  have H2 := Lib.hid (And.intro ((H1.out.1.below b2).more b2.size) (And.intro hb2 (H1.out.2.trans (b2.mono H1.out.2.size))))
  clear h2 hn2 hb2 b2
  try dsimp only
  go_wp2_with fail
  have h3 := bread_f A1 1 c1 [58] w2 _ H2.out.1 (Nat.le_refl _)
  rw [ba_3] at h3
  refine h3.mono ?_
  rintro e w3 ⟨rfl, b3⟩
  have H3 := Lib.hid (And.intro ((H2.out.1.below b3).more b3.size) (And.intro ((H2.out.2.1.below b3).more b3.size) (H2.out.2.2.trans (b3.mono H2.out.2.2.size))))
  clear h3 b3
  try dsimp only
  go_wp2_with fail
  refine calls_at_world (F := fun W => Below w3.heap.size w3 W ∧ w3.heap.size + 2 ≤ W.heap.size ∧ W.rangeAt w3.heap.size 0 [.int .i64 3, .bool true, .int .i64 64] ∧ Bs W W.heap.size (some ⟨w3.heap.size + 1, 0, none⟩) 1 [7]) ⟨(alloc_below w3 _).alloc (by rw [alloc_size]; omega) _, by rw [alloc_size, alloc_size]; exact Nat.le_refl _, range_new0 w3 _ _ _ rfl, ?_⟩ fun W3 ⟨p1, p2, p3, p4⟩ => ?_
  · have := Bs.lit_ (w3.alloc (.cells #[.int .i64 3, .bool true, .int .i64 64] 37)) 5 #[.int .u8 7] (0, 0) [7] rfl
    rw [alloc_size] at this
    exact this.more (by rw [alloc_size, alloc_size]; exact Nat.le_refl _)
  have h4 := bread_f (some ⟨w3.heap.size + 1, 0, none⟩) 1 1 [7] W3 _ p4 (Nat.le_refl _)
  rw [ba_4] at h4
  refine h4.mono ?_
  rintro e w4 ⟨rfl, b4⟩
  have q4 := p1.trans (b4.mono p1.size)
  have H4 := Lib.hid (And.intro ((H3.out.1.below q4).more q4.size) (And.intro ((H3.out.2.1.below q4).more q4.size) (And.intro (range_below p3 b4 (by omega)) (And.intro (show w3.heap.size + 2 ≤ w4.heap.size by have := b4.size; omega) (H3.out.2.2.trans (q4.mono H3.out.2.2.size))))))
  have hmk := run_zr20
  clear h4 b4 p1 p2 p3 p4 q4
  try dsimp only
  go_wp2_with fail
  refine calls_at_world (F := fun W => Below w4.heap.size w4 W ∧ w4.heap.size + 2 ≤ W.heap.size ∧ Bs W W.heap.size (some ⟨w4.heap.size + 1, 0, none⟩) 20 (List.replicate 20 0)) ⟨(alloc_below w4 _).alloc (by rw [alloc_size]; omega) _, by rw [alloc_size, alloc_size]; exact Nat.le_refl _, ?_⟩ fun W4 ⟨p1, p2, p3⟩ => ?_
  · have := Bs.lit_ (w4.alloc (.cells #[.int .i64 0, .bool false, .int .i64 0] 37)) 5 zr20 (0, 0) (List.replicate 20 0) rfl
    rw [alloc_size] at this
    exact this.more (by rw [alloc_size, alloc_size]; exact Nat.le_refl _)
  have h5 := bcut_f (some ⟨w4.heap.size + 1, 0, none⟩) 20 20 (List.replicate 20 0) W4 _ p3 (Nat.le_refl _) (Nat.le_refl _) (by omega) (by omega) 0 16
  rw [ba_5] at h5
  refine h5.mono ?_
  rintro e w5 ⟨A5, n5, c5, rfl, hc5, hn5, hb5, b5⟩
  obtain rfl : n5 = 16 := hn5.out
  have q5 := p1.trans (b5.mono p1.size)
  have H5 := Lib.hid (And.intro ((H4.out.1.below q5).more q5.size) (And.intro ((H4.out.2.1.below q5).more q5.size) (And.intro (range_below H4.out.2.2.1 q5 (by have := H4.out.2.2.2.1; omega)) (And.intro (show w3.heap.size + 2 ≤ w5.heap.size by have := H4.out.2.2.2.1; have := q5.size; omega) (And.intro (H4.out.2.2.2.2.trans (q5.mono H4.out.2.2.2.2.size)) hb5)))))
  clear h5 hn5 hb5 b5 p1 p2 p3 q5 hmk
  try dsimp only
  go_wp2_with fail
  refine (newJoin_f 20 w5).mono ?_
  rintro e w6 ⟨rfl, j6, b6, s6⟩
  have H6 := Lib.hid (And.intro (H5.out.1.below b6) (And.intro (H5.out.2.1.below b6) (And.intro (range_below H5.out.2.2.1 b6 (by have := H5.out.2.2.2.1; omega)) (And.intro (H5.out.2.2.2.2.1.trans (b6.mono H5.out.2.2.2.2.1.size)) (And.intro ((H5.out.2.2.2.2.2.below b6).more b6.size) j6)))))
  have hs5 : w3.heap.size + 2 ≤ w5.heap.size := H5.out.2.2.2.1
  have hw5 := H5.out.2.2.2.2.1.size
  clear j6 b6
  try dsimp only
  go_wp2_with fail
  have h7 := jput_f w5.heap.size (mostN 20) _ [] false w6 H6.out.2.2.2.2.2 0 16 true A5 16 c5 _ H6.out.2.2.2.2.1 (by omega)
  rw [ba_6] at h7
  refine h7.mono ?_
  rintro e w7 ⟨v7, rfl, j7, k7, o7⟩
  have q7 : Below w5.heap.size w6 w7 := k7.toBelow (by omega) (Nat.le_refl _) (fun g e => by cases e)
  have H7 := Lib.hid (And.intro (H6.out.1.below q7) (And.intro (H6.out.2.1.below q7) (And.intro (range_below H6.out.2.2.1 q7 (by omega)) (And.intro (H6.out.2.2.2.1.trans (q7.mono hw5)) j7))))
  clear h7 k7 q7 o7 j7
  try dsimp only
  go_wp2_with fail
  refine calls_at_world (F := fun W => Below w7.heap.size w7 W ∧ Bs W W.heap.size (some ⟨w7.heap.size, 0, none⟩) 4 [1, 2, 3, 4]) ⟨alloc_below w7 _, ?_⟩ fun W7 ⟨p1, p2⟩ => ?_
  · have := Bs.lit_ w7 5 #[.int .u8 1, .int .u8 2, .int .u8 3, .int .u8 4] (0, 0) [1, 2, 3, 4] rfl
    exact this.more (by rw [alloc_size]; exact Nat.le_refl _)
  have jl7 := H7.out.2.2.2.2.lt
  have h8 := jput_f w5.heap.size (mostN 20) _ _ false W7 (H7.out.2.2.2.2.below p1) 1 16 false (some ⟨w7.heap.size, 0, none⟩) 4 4 _ p2 (by omega)
  rw [ba_7] at h8
  refine h8.mono ?_
  rintro e w8 ⟨v8, rfl, j8, k8, o8⟩
  have q8 : Below w5.heap.size w7 w8 := (p1.mono (by omega)).trans (k8.toBelow (by have := p1.size; omega) (Nat.le_refl _) (fun g e => by have := own_ge H7.out.2.2.2.2.row g e; omega))
  have H8 := Lib.hid (And.intro (H7.out.1.below q8) (And.intro (H7.out.2.1.below q8) (And.intro (range_below H7.out.2.2.1 q8 (by omega)) (And.intro (H7.out.2.2.2.1.trans (q8.mono hw5)) j8))))
  clear h8 k8 q8 o8 j8 p1 p2 jl7
  try dsimp only
  obtain ⟨d0, d1, d2⟩ := three H8.out.2.2.1
  obtain ⟨xb, xo, rfl, _, hcx⟩ := H8.out.1.place (by omega)
  have hx := hcx 0 58 rfl
  rw [Nat.add_zero] at hx
  obtain ⟨yb, yo, rfl, _, hcy⟩ := H8.out.2.1.place (by omega)
  have hy := hcy 0 6 rfl
  rw [Nat.add_zero] at hy
  have HG := Lib.hid (And.intro (jgot_f w5.heap.size (mostN 20) v8 _ _ w8 H8.out.2.2.2.2) (jbytes_f w5.heap.size (mostN 20) v8 _ _ w8 H8.out.2.2.2.2))
  clear hcx hcy
  go_wp2_with (first
    | (go_at_call 26; refine HG.out.1.mono ?_; rintro e w9 ⟨rfl, hw⟩; obtain rfl := hw.symm)
    | (go_at_call 27; refine HG.out.2.mono ?_; intro e w9 h9; obtain ⟨A9, n9, c9, rfl, hc9, hn9, hb9, b9⟩ := h9.slice_; obtain rfl : n9 = 20 := hn9.out; have H9 := Lib.hid b9; clear h9 hn9 hb9 b9))
  go_ret
  exact ⟨rfl, H8.out.2.2.2.1.trans (H9.out.mono H8.out.2.2.2.1.size)⟩
end Go.Proofs.Ytdgihhepmmkkpaa
