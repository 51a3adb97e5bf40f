/-
  The document's examples of messages.
-/
import Derived.Test.YtdgihhepmmkkpaaMsgReply0
import Derived.Test.YtdgihhepmmkkpaaMsgSame2
import Derived.Test.YtdgihhepmmkkpaaOptAlive
namespace Go.Proofs.Ytdgihhepmmkkpaa
open Go.RowKit
set_option maxRecDepth 100000
set_option linter.unusedVariables false
theorem ml_w1 : mwr 0 1 7 [] [(11, [97])] [] = ([64, 1, 0, 7, 177, 97], 0) := by decide +kernel
theorem ml_w2 : mwr 2 0 7 [] [] [] = ([96, 0, 0, 7], 0) := by decide +kernel
theorem ml_w3 : mwr 3 0 258 [] [] [] = ([112, 0, 1, 2], 0) := by decide +kernel
theorem ml_r1 : (rdM [64, 1, 0, 7, 177, 97]).1.kd = 0 ∧ (rdM [64, 1, 0, 7, 177, 97]).1.cd = 1 ∧ (rdM [64, 1, 0, 7, 177, 97]).1.id = 7 ∧ (rdM [64, 1, 0, 7, 177, 97]).1.tok = [] ∧ (rdM [64, 1, 0, 7, 177, 97]).1.ps = [(11, [97])] ∧ (rdM [64, 1, 0, 7, 177, 97]).1.body = [] ∧ (rdM [64, 1, 0, 7, 177, 97]).2 = 0 := by decide +kernel
theorem ml_r : rdM [64, 1, 0, 7, 177, 97] = (⟨0, 1, 7, [], [(11, [97])], []⟩, 0) := by
  have h := ml_r1
  generalize rdM [64, 1, 0, 7, 177, 97] = R at h ⊢
  obtain ⟨⟨a, b, c, d, e, f⟩, g⟩ := R
  dsimp only at h
  obtain ⟨rfl, rfl, rfl, rfl, rfl, rfl, rfl⟩ := h
  rfl
theorem ml_e : rdM [64, 1, 0] = (Mq.zero, 20) := by unfold rdM; rw [if_pos (.inl (by decide))]
theorem ml_s : sniffP [112, 9, 1, 2] = (3, 258, true) := by decide +kernel
theorem ml_q : mqB ⟨0, 1, 7, [], [(11, [97])], []⟩ ⟨0, 1, 7, [], [(11, [97])], []⟩ = true := by decide +kernel
theorem range_new2 (w : World) (A B : Obj) (cs : Array Value) (t : TypeId) {vs : List Value} (h : cs.toList = vs) : (((w.alloc A).alloc B).alloc (.cells cs t)).rangeAt (w.heap.size + 2) 0 vs := by
  have := range_newA ((w.alloc A).alloc B) cs t h
  rwa [alloc_size, alloc_size] at this
set_option maxHeartbeats 4000000 in
theorem malive_any (w : World) : Calls Try.prog 8 #[] w fun e w' => e = .returned (.bool true) ∧ Below w.heap.size w w' := by
  have hml : (1 : Nat) ≤ maxLen := by simp only [maxLen]; omega
  have kc := fun (w : World) (C : Array Value) (n c : Nat) => Lib.run_convert_bytes_const (P := Try.prog) w 22 5 C n c Try.underlying22 Try.underlying5
  go_enter Try.func8, Try.ntmps8
  go_wp2_with fail
  refine calls_at_world (F := fun W => Below w.heap.size w W ∧ W.heap.size = w.heap.size + 3 ∧ W.rangeAt (w.heap.size + 2) 0 [.int .i64 0, .int .i64 1, .int .i64 7, .slice none 0 0, .slice (some ⟨w.heap.size + 1, 0, none⟩) 1 1, .slice none 0 0] ∧ Os W W.heap.size (some ⟨w.heap.size + 1, 0, none⟩) 1 [⟨11, some ⟨w.heap.size, 0, none⟩, 1, 1⟩] [(11, [97])]) ⟨below3 w _ _ _, by rw [alloc_size, alloc_size, alloc_size], range_new2 w _ _ _ _ rfl, ?_⟩ fun W1 ⟨b1, s1, r1, o1⟩ => ?_
  · have ho := os_one (w.alloc (.cells #[.int .u8 97] 5 (1, 2))) 70 (0, 0) ⟨11, some ⟨w.heap.size, 0, none⟩, 1, 1⟩ [97] _ (Bs.lit_ w 5 #[.int .u8 97] (1, 2) [97] rfl) ⟨Nat.le_refl _, hml⟩ (by rw [alloc_size]; exact Nat.le_refl _)
    rw [alloc_size] at ho
    exact (ho.below (by have := alloc_below ((w.alloc (.cells #[.int .u8 97] 5 (1, 2))).alloc (.cells #[.int .i64 11, .slice (some ⟨w.heap.size, 0, none⟩) 1 1] 70 (0, 0))) (.cells #[.int .i64 0, .int .i64 1, .int .i64 7, .slice none 0 0, .slice (some ⟨w.heap.size + 1, 0, none⟩) 1 1, .slice none 0 0] 26); rw [alloc_size, alloc_size] at this; exact this)).more (by rw [alloc_size, alloc_size, alloc_size]; omega)
  have HM := Lib.hid fun W (hb : Below W1.heap.size W1 W) => And.intro (range_below r1 hb (by omega)) (And.intro (Ms.mk (Bs.empty W W.heap.size none) ((o1.below hb).more hb.size) (Bs.empty W W.heap.size none)) (b1.trans (hb.mono b1.size)))
  clear b1 s1 r1 o1
  have hw1 := mwrite_f 0 1 7 none 0 0 (some ⟨w.heap.size + 1, 0, none⟩) 1 1 none 0 0 _ [] _ [] W1 (HM.out W1 (Below.refl _ _)).2.1 (by omega) (by omega) (by omega)
  rw [ml_w1] at hw1
  refine hw1.mono ?_
  rintro e w2 ⟨A2, n2, c2, rfl, ⟨hc2, hm2⟩, hn2, hb2, b2⟩
  obtain rfl : n2 = 6 := hn2.out
  have r2 := (HM.out w2 b2).1
  have H2 := Lib.hid (And.intro hb2 (And.intro hc2 (And.intro hm2 b2)))
  clear hw1 hb2 hc2 hm2 hn2 b2
  try dsimp only
  go_wp2_with (refine wpList_load_mid rfl 26 (.tmp 1) rfl (w.heap.size + 2) 0 rfl [.int .i64 0, .int .i64 1, .int .i64 7, .slice none 0 0, .slice (some ⟨w.heap.size + 1, 0, none⟩) 1 1, .slice none 0 0] _ r2 Try.underlying26 rfl size_msg ?_)
  refine (ack_f 0 1 7 none 0 0 (some ⟨w.heap.size + 1, 0, none⟩) 1 1 none 0 0 w2).mono ?_
  rintro e w3 ⟨rfl, b3⟩
  have H3 := Lib.hid b3
  clear b3 r2
  go_wp2_with fail
  have hw3 := mwrite_f 2 0 7 none 0 0 none 0 0 none 0 0 [] [] [] [] w3 (Ms.zero _ _) (by omega) (by omega) (by omega)
  rw [ml_w2] at hw3
  refine hw3.mono ?_
  rintro e w4 ⟨A4, n4, c4, rfl, ⟨hc4, hm4⟩, hn4, hb4, b4⟩
  obtain rfl : n4 = 4 := hn4.out
  have b24 : Below w2.heap.size w2 w4 := H3.out.trans (b4.mono H3.out.size)
  have H4 := Lib.hid (And.intro hb4 (And.intro ((H2.out.1.below b24).more b24.size) (H2.out.2.2.2.trans (b24.mono H2.out.2.2.2.size))))
  have hrd := mread_f A2 6 c2 [64, 1, 0, 7, 177, 97] w4 _ H4.out.2.1 (Nat.le_refl _) H2.out.2.1 (by have := H2.out.2.2.1; simp only [maxLen] at this; omega) (by omega)
  rw [ml_r] at hrd
  have HR := Lib.hid hrd
  clear hw3 hb4 hc4 hm4 hn4 b4 b24 hrd
  try dsimp only
  go_wp2_with fail
  refine HR.out.mono ?_
  rintro e w5 ⟨tA, tn, tc, oA, on, oc, bA, bn, bc, us, rfl, hcaps, hms, b5⟩
  obtain rfl : tn = 0 := hms.t.len.symm
  obtain rfl : on = 1 := hms.o.plen.symm
  obtain rfl : bn = 0 := hms.b.len.symm
  have H5 := Lib.hid (And.intro hms (And.intro ((H4.out.1.below b5).more b5.size) (And.intro ((H4.out.2.1.below b5).more b5.size) (H4.out.2.2.trans (b5.mono H4.out.2.2.size)))))
  clear hcaps hms b5
  try dsimp only
  go_wp2_with fail
  refine calls_at_world (F := fun W => Below w5.heap.size w5 W ∧ w5.heap.size + 2 ≤ W.heap.size ∧ W.rangeAt w5.heap.size 0 [.int .i64 0, .int .i64 1, .int .i64 7, .slice tA 0 tc, .slice oA 1 oc, .slice bA 0 bc] ∧ Bs W W.heap.size (some ⟨w5.heap.size + 1, 0, none⟩) 3 [64, 1, 0]) ⟨(alloc_below w5 _).alloc (by rw [alloc_size]; omega) _, by rw [alloc_size, alloc_size]; exact Nat.le_refl _, range_below (range_newA w5 _ _ rfl) (alloc_below _ _) (by rw [alloc_size]; omega), ?_⟩ fun W6 ⟨b6, s6, r6, l6⟩ => ?_
  · have := Bs.lit_ (w5.alloc (.cells #[.int .i64 0, .int .i64 1, .int .i64 7, .slice tA 0 tc, .slice oA 1 oc, .slice bA 0 bc] 26)) 5 #[.int .u8 64, .int .u8 1, .int .u8 0] (0, 0) [64, 1, 0] rfl
    rw [alloc_size] at this
    exact this.more (by rw [alloc_size, alloc_size]; exact Nat.le_refl _)
  have hre := mread_f (some ⟨w5.heap.size + 1, 0, none⟩) 3 3 [64, 1, 0] W6 _ l6 (Nat.le_refl _) (Nat.le_refl _) (by omega) (by omega)
  rw [ml_e] at hre
  have H6 := Lib.hid (And.intro b6 (And.intro s6 r6))
  clear b6 s6 r6 l6
  refine hre.mono ?_
  rintro e w7 ⟨tA7, tn7, tc7, oA7, on7, oc7, bA7, bn7, bc7, us7, rfl, hcaps7, hms7, b7⟩
  have H7 := Lib.hid (And.intro (H6.out.1.trans (b7.mono H6.out.1.size)) (And.intro (range_below H6.out.2.2 b7 (by have := H6.out.2.1; omega)) (Nat.le_trans H6.out.2.1 b7.size)))
  clear hre hcaps7 hms7 b7
  try dsimp only
  go_wp2_with fail
  refine calls_at_world (F := fun W => Below w7.heap.size w7 W ∧ Bs W W.heap.size (some ⟨w7.heap.size + 1, 0, none⟩) 4 [112, 9, 1, 2]) ⟨(alloc_below w7 _).alloc (by rw [alloc_size]; omega) _, ?_⟩ fun W8 ⟨b8, l8⟩ => ?_
  · have := Bs.lit_ (w7.alloc (.cells #[.int .i64 Mq.zero.kd, .int .i64 Mq.zero.cd, .int .i64 Mq.zero.id, .slice tA7 tn7 tc7, .slice oA7 on7 oc7, .slice bA7 bn7 bc7] 26)) 5 #[.int .u8 112, .int .u8 9, .int .u8 1, .int .u8 2] (0, 0) [112, 9, 1, 2] rfl
    rw [alloc_size] at this
    exact this.more (by rw [alloc_size, alloc_size]; exact Nat.le_refl _)
  have hsn := sniff_f (some ⟨w7.heap.size + 1, 0, none⟩) 4 4 [112, 9, 1, 2] W8 _ l8 (Nat.le_refl _)
  rw [ml_s] at hsn
  refine hsn.mono ?_
  rintro e w9 ⟨rfl, m9, hw9⟩
  have b79 : Below w7.heap.size w7 w9 := b8.trans ((hw9 ▸ drewN_below _ _ m9 : Below W8.heap.size W8 w9).mono b8.size)
  have B59 : Below w5.heap.size w5 w9 := H7.out.1.trans (b79.mono H7.out.1.size)
  have B9 := H5.out.2.2.2.trans (B59.mono H5.out.2.2.2.size)
  have r9 := (HM.out w9 B9).1
  have H9 := Lib.hid (And.intro B59 (And.intro B9 (And.intro (range_below H7.out.2.1 b79 (by have := H7.out.2.2; omega)) (Nat.le_trans H7.out.2.2 b79.size))))
  clear hsn hw9 b8 l8 b79 B59 B9
  try dsimp only
  go_wp2_with (refine wpList_load_mid rfl 26 (.tmp 1) rfl (w.heap.size + 2) 0 rfl [.int .i64 0, .int .i64 1, .int .i64 7, .slice none 0 0, .slice (some ⟨w.heap.size + 1, 0, none⟩) 1 1, .slice none 0 0] _ r9 Try.underlying26 rfl size_msg ?_)
  refine calls_at_world (F := fun W => Below w9.heap.size w9 W ∧ Bs W W.heap.size (some ⟨w9.heap.size, 0, none⟩) 1 [120]) ⟨alloc_below w9 _, by have := Bs.lit_ w9 5 #[.int .u8 120] (1, 2) [120] rfl; exact this.more (by rw [alloc_size]; exact Nat.le_refl _)⟩ fun W10 ⟨b10, l10⟩ => ?_
  have B10 := H9.out.2.1.trans (b10.mono H9.out.2.1.size)
  have hrp := reply0_f 0 1 7 none 0 0 (some ⟨w.heap.size + 1, 0, none⟩) 1 1 none 0 0 _ [] _ [] 69 9 none 0 (some ⟨w9.heap.size, 0, none⟩) 1 1 [120] W10 (HM.out W10 B10).2.1 l10 (by omega) (by omega)
  have H10 := Lib.hid (And.intro b10 B10)
  clear r9 b10 l10 B10
  refine hrp.mono ?_
  rintro e w11 ⟨tB, tm, td, oB, om, od, bB, bm, bd, ws, rfl, hcapsB, hmsB, b11⟩
  have H11 := Lib.hid (H10.out.1.trans (b11.mono H10.out.1.size))
  clear hrp hcapsB hmsB b11
  try dsimp only
  go_wp2_with fail
  refine calls_at_world (F := fun W => Below w11.heap.size w11 W ∧ w11.heap.size + 1 ≤ W.heap.size ∧ W.rangeAt w11.heap.size 0 [.int .i64 2, .int .i64 69, .int .i64 7, .slice tB tm td, .slice oB om od, .slice bB bm bd]) ⟨alloc_below w11 _, by rw [alloc_size]; exact Nat.le_refl _, range_newA w11 _ _ rfl⟩ fun W12 ⟨b12, s12, r12⟩ => ?_
  refine (reset_f 258 W12).mono ?_
  rintro e w13 ⟨rfl, b13⟩
  have H13 := Lib.hid (And.intro (b12.trans (b13.mono b12.size)) (And.intro (Nat.le_trans s12 b13.size) (range_below r12 b13 (by omega))))
  clear b12 s12 r12 b13
  go_wp2_with fail
  have hw13 := mwrite_f 3 0 258 none 0 0 none 0 0 none 0 0 [] [] [] [] w13 (Ms.zero _ _) (by omega) (by omega) (by omega)
  rw [ml_w3] at hw13
  refine hw13.mono ?_
  rintro e w14 ⟨A14, n14, c14, rfl, ⟨hc14, hm14⟩, hn14, hb14, b14⟩
  obtain rfl : n14 = 4 := hn14.out
  have b11' : Below w11.heap.size w11 w14 := H13.out.1.trans (b14.mono H13.out.1.size)
  have B914 : Below w9.heap.size w9 w14 := H11.out.trans (b11'.mono H11.out.size)
  have B5 : Below w5.heap.size w5 w14 := H9.out.1.trans (B914.mono H9.out.1.size)
  have B14 := H9.out.2.1.trans (B914.mono H9.out.2.1.size)
  have rn := range_below H9.out.2.2.1 B914 (by have := H9.out.2.2.2; omega)
  have rr := range_below H13.out.2.2 b14 (by have := H13.out.2.1; omega)
  have rm := (HM.out w14 B14).1
  have q1 := run_string_bs (P := Try.prog) ((H5.out.2.2.1.below B5)) 22 9 5 c2 Try.underlying22 Try.underlying5 Try.underlying9
  have q2 := run_string_bs (P := Try.prog) ((H5.out.2.1.below B5)) 22 9 5 c4 Try.underlying22 Try.underlying5 Try.underlying9
  have hsm := msame_f ⟨0, 1, 7, [], [(11, [97])], []⟩ ⟨0, 1, 7, [], [(11, [97])], []⟩ tA oA bA none (some ⟨w.heap.size + 1, 0, none⟩) none 0 tc 1 oc 0 bc 0 0 1 1 0 0 us _ w14 ((H5.out.1.below B5).more B5.size) (HM.out w14 B14).2.1 (by omega) (by omega) (by intro x hx; obtain rfl := List.mem_singleton.1 hx; simp) (by intro x hx; obtain rfl := List.mem_singleton.1 hx; simp)
  rw [ml_q] at hsm
  have H14 := Lib.hid (And.intro B14 (And.intro rn (And.intro rr (And.intro (And.intro (show w11.heap.size < w14.heap.size by have := H13.out.2.1; have := b14.size; omega) hb14) hsm))))
  clear hw13 hc14 hm14 hn14 hb14 b14 b11' B914 B5 B14 hsm rr
  try dsimp only
  obtain ⟨x0, x1, x2, x3, x4, x5⟩ := six rn
  obtain ⟨y0, y1, y2, y3, y4, y5⟩ := six rm
  clear rn rm
  go_wp2_with fail
  refine H14.out.2.2.2.2.mono ?_
  rintro e w15 ⟨rfl, b15⟩
  have rr := range_below H14.out.2.2.1 b15 H14.out.2.2.2.1.1
  obtain ⟨d0, _, d2, _, _, _⟩ := six rr
  have B15 := H14.out.1.trans (b15.mono H14.out.1.size)
  have rm := (HM.out w15 B15).1
  have q3 := run_string_bs (P := Try.prog) (H14.out.2.2.2.1.2.below b15) 22 9 5 c14 Try.underlying22 Try.underlying5 Try.underlying9
  have H15 := Lib.hid (And.intro B15 (And.intro rr b15))
  clear b15 rr B15 q1 q2 x0 x1 x2 x3 x4 x5 y0 y1 y2 y3 y4 y5
  obtain ⟨y0, y1, y2, y3, y4, y5⟩ := six rm
  clear rm
  go_wp2_with fail
  refine (request_f 0 1 7 none 0 0 (some ⟨w.heap.size + 1, 0, none⟩) 1 1 none 0 0 w15).mono ?_
  rw [show askB 1 = true from rfl]
  rintro e w16 ⟨rfl, b16⟩
  have B16 := H15.out.1.trans (b16.mono H15.out.1.size)
  have rm := (HM.out w16 B16).1
  have H16 := Lib.hid (And.intro B16 b16)
  clear b16 B16 q3 d0 d2 y0 y1 y2 y3 y4 y5
  obtain ⟨y0, y1, y2, y3, y4, y5⟩ := six rm
  clear rm
  go_wp2_with fail
  refine (answer_f 0 1 7 none 0 0 (some ⟨w.heap.size + 1, 0, none⟩) 1 1 none 0 0 w16).mono ?_
  rw [show ansB 1 = false from rfl]
  rintro e w17 ⟨rfl, b17⟩
  have B17 := H16.out.1.trans (b17.mono H16.out.1.size)
  have rr := range_below (range_below H15.out.2.1 H16.out.2 (Nat.lt_of_lt_of_le H14.out.2.2.2.1.1 H15.out.2.2.size)) b17 (Nat.lt_of_lt_of_le H14.out.2.2.2.1.1 (Nat.le_trans H15.out.2.2.size H16.out.2.size))
  have H17 := Lib.hid B17
  clear b17 B17 y0 y1 y2 y3 y4 y5
  obtain ⟨z0, z1, z2, z3, z4, z5⟩ := six rr
  clear rr
  go_wp2_with fail
  refine (answer_f 2 69 7 tB tm td oB om od bB bm bd w17).mono ?_
  rw [show ansB 69 = true from rfl]
  rintro e w18 ⟨rfl, b18⟩
  have H18 := Lib.hid (H17.out.trans (b18.mono H17.out.size))
  clear b18 z0 z1 z2 z3 z4 z5
  go_wp2
  go_ret
  exact ⟨rfl, (HM.out w18 H18.out).2.2⟩
end Go.Proofs.Ytdgihhepmmkkpaa
