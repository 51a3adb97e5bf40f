/-
  The document's examples of layer 13.
-/
import Derived.Test.YtbclgalocipmfaaDoorPlRead
namespace Go.Proofs.YtbclgalocipmfaaDoor
open Go.RowKit
set_option maxRecDepth 100000
set_option maxRecDepth 100000
set_option linter.unusedVariables false
structure Tab7 (w : World) : Prop where
  u : Tabs w
  d : TabD w
  e : TabE w
theorem Tab7.below {w w' : World} (h : Tab7 w) (hb : Below w.heap.size w w') : Tab7 w' := ⟨h.u.below hb h.u.size, h.d.below hb h.d.size, h.e.below hb h.e.size⟩
theorem itoa_m5 : Lib.itoa (-5) = [45, 53] := by simp [Lib.itoa, Lib.decDigits]
theorem itoa_5 : Lib.itoa 5 = [53] := by simp [Lib.itoa, Lib.decDigits]
theorem itoa_0 : Lib.itoa 0 = [48] := by simp [Lib.itoa, Lib.decDigits]
theorem al_1 : textL 1 (-5) [] [] 0 0 = [45, 53] := by unfold textL; rw [if_neg (by decide), if_neg (by decide), if_neg (by decide), itoa_m5]
theorem al_2 : b64Q [1, 2] = [65, 81, 73, 61] := by decide +kernel
theorem al_p5 : parsed [53] = some 5 := by decide +kernel
theorem al_p0 : parsed [48] = some 0 := by decide +kernel
theorem al_3 : linkQ [53, 58, 48] = some (5, 0) := by
  have e1 : cutA [53, 58, 48] 58 = [53] := by decide +kernel
  have e2 : cutB [53, 58, 48] 58 = [48] := by decide +kernel
  have n1 : numP [53] = some 5 := by unfold numP; rw [if_neg (by decide), al_p5]; show (if Lib.itoa 5 = [53] then some 5 else none) = _; rw [itoa_5, if_pos rfl]
  have n2 : numP [48] = some 0 := by unfold numP; rw [if_neg (by decide), al_p0]; show (if Lib.itoa 0 = [48] then some 0 else none) = _; rw [itoa_0, if_pos rfl]
  unfold linkQ
  rw [e1, e2, n1, n2]
  rfl
theorem al_4 : textE [97, 10] = 20 := by decide +kernel
theorem al_5 : unQ [65, 81, 73, 61] = ([1, 2], 0) := by decide +kernel
theorem al_6 : runesQ [97, 195, 169] = some 2 := by decide +kernel
theorem al_7 : runesQ [255] = none := by decide +kernel
theorem str_yes {t : ByteArray} {L : List UInt8} (h : t.data.toList = L) : (t.toList == L) = true := beq_iff_eq.2 (bytes_is.2 h)
theorem aw_1 (w : World) (hT : Tab7 w) : Calls Tryd.prog 34 #[.agg #[.int .i64 1, .int .i64 (-5), .string ⟨#[]⟩, .slice none 0 0, .int .i64 0, .int .i64 0]] w fun e w' => ∃ t : ByteArray, e = .returned (.tuple #[.string t, .int .i64 0]) ∧ t.data.toList = [45, 53] ∧ Below w.heap.size w w' := by
  refine (write13_f 1 (-5) ⟨#[]⟩ none 0 0 0 0 [] w 0 (Bs.empty _ _ _) (Nat.zero_le _) (by decide) (by decide) (Nat.le_refl _) hT.d hT.u (by decide) (by decide) (by decide) (by decide) (by decide) (by decide)).mono ?_
  rintro e w' ⟨t, rfl, ht, hb⟩
  have he : txtE 1 (-5) (ByteArray.size ⟨#[]⟩) (okN (runesQ (ByteArray.data ⟨#[]⟩).toList)) 0 0 0 = 0 := by decide +kernel
  rw [he] at ht ⊢
  rw [if_pos rfl] at ht
  exact ⟨t, rfl, ht.trans al_1, hb⟩
theorem aw_2 (A : Option Addr) (c : Nat) (w : World) (hT : Tab7 w) (B : Nat) (hb : Bs w B A 2 [1, 2]) (hB : B ≤ w.heap.size) (hc : 2 ≤ c) : Calls Tryd.prog 34 #[.agg #[.int .i64 4, .int .i64 0, .string ⟨#[]⟩, .slice A 2 c, .int .i64 0, .int .i64 0]] w fun e w' => ∃ t : ByteArray, e = .returned (.tuple #[.string t, .int .i64 0]) ∧ t.data.toList = [65, 81, 73, 61] ∧ Below w.heap.size w w' := by
  refine (write13_f 4 0 ⟨#[]⟩ A 2 c 0 0 [1, 2] w B hb hB (by decide) (by decide) hc hT.d hT.u (by decide) (by decide) (by decide) (by decide) (by decide) (by decide)).mono ?_
  rintro e w' ⟨t, rfl, ht, hb⟩
  have he : txtE 4 0 (ByteArray.size ⟨#[]⟩) (okN (runesQ (ByteArray.data ⟨#[]⟩).toList)) 2 0 0 = 0 := by decide +kernel
  rw [he] at ht ⊢
  rw [if_pos rfl] at ht
  exact ⟨t, rfl, ht.trans al_2, hb⟩
theorem aw_9 (w : World) (hT : Tab7 w) : Calls Tryd.prog 34 #[.agg #[.int .i64 9, .int .i64 0, .string ⟨#[]⟩, .slice none 0 0, .int .i64 0, .int .i64 0]] w fun e w' => ∃ t : ByteArray, e = .returned (.tuple #[.string t, .int .i64 70]) ∧ Below w.heap.size w w' := by
  refine (write13_f 9 0 ⟨#[]⟩ none 0 0 0 0 [] w 0 (Bs.empty _ _ _) (Nat.zero_le _) (by decide) (by decide) (Nat.le_refl _) hT.d hT.u (by decide) (by decide) (by decide) (by decide) (by decide) (by decide)).mono ?_
  rintro e w' ⟨t, rfl, ht, hb⟩
  have he : txtE 9 0 (ByteArray.size ⟨#[]⟩) (okN (runesQ (ByteArray.data ⟨#[]⟩).toList)) 0 0 0 = 70 := by decide +kernel
  rw [he]
  exact ⟨t, rfl, hb⟩
theorem ar_6 (w : World) (hT : Tab7 w) : Calls Tryd.prog 9 #[.int .i64 6, .string ⟨#[53, 58, 48]⟩] w (RdRet 6 0 [] [] 5 0 0 w) := by
  have h := read_link ⟨#[53, 58, 48]⟩ (by decide) w hT.e hT.d
  have e : linkQ (ByteArray.data ⟨#[53, 58, 48]⟩).toList = some (5, 0) := al_3
  simp only [e] at h
  exact h
theorem ar_3 (w : World) (hT : Tab7 w) : Calls Tryd.prog 9 #[.int .i64 3, .string ⟨#[97, 10]⟩] w (RdRet 0 0 [] [] 0 0 20 w) := by
  have h := read_text ⟨#[97, 10]⟩ (by decide) w hT.u
  have e : textE (ByteArray.data ⟨#[97, 10]⟩).toList = 20 := al_4
  rw [e, if_neg (by decide)] at h
  exact h
theorem ar_4 (w : World) : Calls Tryd.prog 9 #[.int .i64 4, .string ⟨#[65, 81, 73, 61]⟩] w (RdRet 4 0 [] [1, 2] 0 0 0 w) := by
  have e : unQ (ByteArray.data ⟨#[65, 81, 73, 61]⟩).toList = ([1, 2], 0) := al_5
  have h := read_bytes ⟨#[65, 81, 73, 61]⟩ (by decide) w (by rw [e])
  rw [e] at h
  exact h
theorem an_2 (w : World) (hT : Tab7 w) : Calls Tryd.prog 35 #[.string ⟨#[97, 195, 169]⟩] w fun e w' => e = .returned (.tuple #[.int .i64 2, .bool true]) ∧ Below w.heap.size w w' := by
  have h := runes_f ⟨#[97, 195, 169]⟩ w (by decide) hT.u
  have e : runesQ (ByteArray.data ⟨#[97, 195, 169]⟩).toList = some 2 := al_6
  rw [e] at h
  exact h
theorem an_0 (w : World) (hT : Tab7 w) : Calls Tryd.prog 35 #[.string ⟨#[255]⟩] w fun e w' => e = .returned (.tuple #[.int .i64 0, .bool false]) ∧ Below w.heap.size w w' := by
  have h := runes_f ⟨#[255]⟩ w (by decide) hT.u
  have e : runesQ (ByteArray.data ⟨#[255]⟩).toList = none := al_7
  rw [e] at h
  exact h
theorem ag_1 (n : Int) (q : Bool) (hq : decide (n = 0 ∨ n = 1) = q) (w : World) (hT : Tab7 w) : Calls Tryd.prog 36 #[.agg #[.int .i64 2, .int .i64 n, .string ⟨#[]⟩, .slice none 0 0, .int .i64 0, .int .i64 0]] w fun e w' => e = .returned (.bool q) ∧ Below w.heap.size w w' := by
  have h := right_f 2 n ⟨#[]⟩ none 0 0 0 0 w (by decide) hT.u
  have e : rightB 2 n (ByteArray.size ⟨#[]⟩) (okN (runesQ (ByteArray.data ⟨#[]⟩).toList)) 0 0 0 = q := by
    rw [← hq]
    unfold rightB
    rw [show ByteArray.size ⟨#[]⟩ = 0 from rfl]
    exact decide_eq_decide.2 (by omega)
  rw [e] at h
  exact h
set_option maxHeartbeats 4000000 in
theorem palive_f (w : World) (hT : Tab7 w) : Calls Tryd.prog 8 #[] w fun e w' => e = .returned (.bool true) ∧ Below w.heap.size w w' := by
  have HT := Lib.hid fun W (h : Below w.heap.size w W) => hT.below h
  clear hT
  go_enter Tryd.func8, Tryd.ntmps8
  go_wp2_with fail
  refine (aw_1 w (HT.out w (Below.refl _ _))).mono ?_
  rintro e w1 ⟨t1, rfl, ht1, b1⟩
  have H1 := Lib.hid (And.intro b1 ht1)
  clear b1 ht1
  try dsimp only
  go_wp2_with fail
  have q1 := alloc_below w1 (.cells #[.int .u8 1, .int .u8 2] 5)
  have hbs := Bs.lit_ w1 5 #[.int .u8 1, .int .u8 2] (0, 0) [1, 2] rfl
  have HB := Lib.hid (And.intro q1 hbs)
  clear q1 hbs
  refine (aw_2 (some ⟨w1.heap.size, 0, none⟩) 2 _ (HT.out _ (H1.out.1.trans (HB.out.1.mono H1.out.1.size))) _ HB.out.2 (by rw [alloc_size]; exact Nat.le_refl _) (Nat.le_refl _)).mono ?_
  rintro e w2 ⟨t2, rfl, ht2, b2⟩
  have H2 := Lib.hid (And.intro ((H1.out.1.trans (HB.out.1.mono H1.out.1.size)).trans (b2.mono (by have := H1.out.1.size; rw [alloc_size]; omega))) ht2)
  clear b2 ht2
  try dsimp only
  go_wp2_with fail
  refine (ar_6 w2 (HT.out w2 H2.out.1)).mono ?_
  rintro e w3 ⟨t3, A3, m3, c3, rfl, ht3, hmc3, hml3, hbs3, b3⟩
  have H3 := Lib.hid (H2.out.1.trans (b3.mono H2.out.1.size))
  clear b3 ht3 hmc3 hml3 hbs3
  try dsimp only
  go_wp2_with fail
  refine calls_at_world (F := fun W => Below w3.heap.size w3 W ∧ W.rangeAt w3.heap.size 0 [.int .i64 6, .int .i64 0, .string t3, .slice A3 m3 c3, .int .i64 5, .int .i64 0] ∧ w3.heap.size < W.heap.size) ⟨alloc_below _ _, range_newV w3 _ _ rfl, by rw [alloc_size]; omega⟩ fun W3 p3 => ?_
  have HP := Lib.hid (And.intro (H3.out.trans (p3.1.mono H3.out.size)) p3.2)
  obtain ⟨g3, hg3⟩ : ∃ g3, w3.heap.size = g3 := ⟨_, rfl⟩
  rw [hg3] at HP ⊢
  clear p3 H3 hg3
  refine (ar_3 W3 (HT.out W3 HP.out.1)).mono ?_
  rintro e w4 ⟨t4, A4, m4, c4, rfl, ht4, hmc4, hml4, hbs4, b4⟩
  have H4 := Lib.hid (And.intro (HP.out.1.trans (b4.mono HP.out.1.size)) (And.intro (range_below HP.out.2.1 b4 HP.out.2.2) (Nat.lt_of_lt_of_le HP.out.2.2 b4.size)))
  clear b4 ht4 hmc4 hml4 hbs4 HP
  try dsimp only
  go_wp2_with fail
  refine calls_at_world (F := fun W => Below w4.heap.size w4 W) (alloc_below _ _) fun W4 p4 => ?_
  have HP := Lib.hid (And.intro (H4.out.1.trans (p4.mono H4.out.1.size)) (And.intro (range_below H4.out.2.1 p4 H4.out.2.2) (Nat.lt_of_lt_of_le H4.out.2.2 p4.size)))
  clear p4 H4
  have H4 := HP
  clear HP
  refine (ar_4 W4).mono ?_
  rintro e w5 ⟨t5, A5, m5, c5, rfl, ht5, hmc5, hml5, hbs5, b5⟩
  obtain rfl : m5 = 2 := hml5
  have H5 := Lib.hid (And.intro (H4.out.1.trans (b5.mono H4.out.1.size)) (And.intro (range_below H4.out.2.1 b5 H4.out.2.2) (Nat.lt_of_lt_of_le H4.out.2.2 b5.size)))
  clear b5 ht5 hmc5 hbs5 H4
  try dsimp only
  go_wp2_with fail
  refine calls_at_world (F := fun W => Below w5.heap.size w5 W ∧ W.rangeAt w5.heap.size 0 [.int .i64 4, .int .i64 0, .string t5, .slice A5 2 c5, .int .i64 0, .int .i64 0] ∧ w5.heap.size < W.heap.size) ⟨alloc_below _ _, range_newV w5 _ _ rfl, by rw [alloc_size]; omega⟩ fun W5 p5 => ?_
  have HP := Lib.hid (And.intro (H5.out.1.trans (p5.1.mono H5.out.1.size)) (And.intro (range_below H5.out.2.1 p5.1 H5.out.2.2) (And.intro (Nat.lt_trans H5.out.2.2 p5.2.2) p5.2)))
  obtain ⟨g5, hg5⟩ : ∃ g5, w5.heap.size = g5 := ⟨_, rfl⟩
  rw [hg5] at HP ⊢
  clear p5 H5 hg5
  refine (aw_9 W5 (HT.out W5 HP.out.1)).mono ?_
  rintro e w6 ⟨t6, rfl, b6⟩
  have H6 := Lib.hid (And.intro (HP.out.1.trans (b6.mono HP.out.1.size)) (And.intro (range_below HP.out.2.1 b6 HP.out.2.2.1) (And.intro (Nat.lt_of_lt_of_le HP.out.2.2.1 b6.size) (And.intro (range_below HP.out.2.2.2.1 b6 HP.out.2.2.2.2) (Nat.lt_of_lt_of_le HP.out.2.2.2.2 b6.size)))))
  clear b6 HP
  try dsimp only
  go_wp2_with fail
  refine (an_2 w6 (HT.out w6 H6.out.1)).mono ?_
  rintro e w7 ⟨rfl, b7⟩
  have H7 := Lib.hid (And.intro (H6.out.1.trans (b7.mono H6.out.1.size)) (And.intro (range_below H6.out.2.1 b7 H6.out.2.2.1) (And.intro (Nat.lt_of_lt_of_le H6.out.2.2.1 b7.size) (And.intro (range_below H6.out.2.2.2.1 b7 H6.out.2.2.2.2) (Nat.lt_of_lt_of_le H6.out.2.2.2.2 b7.size)))))
  clear b7 H6
  try dsimp only
  go_wp2_with fail
  refine (an_0 w7 (HT.out w7 H7.out.1)).mono ?_
  rintro e w8 ⟨rfl, b8⟩
  have H8 := Lib.hid (And.intro (H7.out.1.trans (b8.mono H7.out.1.size)) (And.intro (range_below H7.out.2.1 b8 H7.out.2.2.1) (And.intro (Nat.lt_of_lt_of_le H7.out.2.2.1 b8.size) (And.intro (range_below H7.out.2.2.2.1 b8 H7.out.2.2.2.2) (Nat.lt_of_lt_of_le H7.out.2.2.2.2 b8.size)))))
  clear b8 H7
  have x1 := str_yes H1.out.2
  have x2 := str_yes H2.out.2
  have x3 : w8.cell? ⟨g3, 4, none⟩ = some (.int .i64 5) := H8.out.2.1 4 _ rfl
  have x5 : w8.cell? ⟨g5, 3, none⟩ = some (.slice A5 2 c5) := H8.out.2.2.2.1 3 _ rfl
  try dsimp only
  go_wp2_with fail
  refine (ag_1 1 true (by decide) w8 (HT.out w8 H8.out.1)).mono ?_
  rintro e w9 ⟨rfl, b9⟩
  have H9 := Lib.hid (H8.out.1.trans (b9.mono H8.out.1.size))
  clear b9 x1 x2 x3 x5
  try dsimp only
  go_wp2_with fail
  refine (ag_1 2 false (by decide) w9 (HT.out w9 H9.out)).mono ?_
  rintro e w10 ⟨rfl, b10⟩
  have H10 := Lib.hid (H9.out.trans (b10.mono H9.out.size))
  clear b10
  try dsimp only
  go_wp2
  go_ret
  exact ⟨rfl, H10.out⟩
end Go.Proofs.YtbclgalocipmfaaDoor
