/-
  BlockMixes: blocks of half the size go on where the first one ended.
-/
import Derived.Test.YtdgihhepmmkkpaaBlkAlive
import Derived.Test.YtdgihhepmmkkpaaBlkPure
import Derived.Deep.LoopGhost
namespace Go.Proofs.Ytdgihhepmmkkpaa
open Go.RowKit
set_option maxRecDepth 100000
set_option linter.unusedVariables false
theorem shl32 (s : Nat) (hs : s < 6) : wrap64 ((32 : Int) * 2 ^ s) = ((16 * 2 ^ (s + 1) : Nat) : Int) := by
  match s, hs with
  | 0, _ | 1, _ | 2, _ | 3, _ | 4, _ | 5, _ => decide +kernel
theorem half_of (s : Nat) (hs : s < 6) : 16 * 2 ^ (s + 1) = 2 * (16 * 2 ^ s) := by
  match s, hs with
  | 0, _ | 1, _ | 2, _ | 3, _ | 4, _ | 5, _ => decide
set_option maxHeartbeats 16000000 in
theorem bmixes_law (A : Option Addr) (n c : Nat) (l : List UInt8) (sz : Int) (half : Bool) (w : World) (hb : Bs w w.heap.size A n l) (hc : n ≤ c) (hm : c ≤ maxLen) :
    Calls Try.prog 7 #[.slice A n c, .int .i64 sz, .bool half] w fun e w' => e = .returned (.bool true) ∧ Below w.heap.size w w' := by
  have hcI : (c : Int) ≤ 9223372036854775807 := by simp only [maxLen] at hm; omega
  by_cases hn : (2000 : Int) < n
  · clear hm
    go_enter Try.func7, Try.ntmps7
    go_wp2_with (go_at_call 13; refine (balive_any _).mono ?_; rintro e w1 ⟨rfl, b1⟩)
    go_ret
    exact ⟨rfl, b1⟩
  have hl := hb.len
  obtain ⟨r1, hr1, er1⟩ := and1023 sz
  obtain ⟨s, hs⟩ : ∃ s, r1 % 6 = s := ⟨_, rfl⟩
  have hs6 : s < 6 := by omega
  have hsI : (r1 : Int).tmod 6 = (s : Int) := by rw [Int.tmod_eq_emod_of_nonneg (by omega)]; omega
  have hsI2 : (r1 : Int) % 6 = (s : Int) := by omega
  obtain ⟨Z0, hZ⟩ : ∃ Z0, Z0 = 16 * 2 ^ (s + 1) := ⟨_, rfl⟩
  have hz := size_right (show s + 1 < 7 by omega) hZ
  have hr1I : (r1 : Int) < 1024 := by omega
  have hZ0 : (16 : Int) ≤ Z0 := by omega
  have hZ1 : (Z0 : Int) ≤ 1024 := by omega
  have hcut := fun (i Z : Int) W (b : Below w.heap.size w W) => bcut_f A n c l W _ (hb.below b) b.size hc hcI (by omega) i Z
  have hnI : (n : Int) ≤ 2000 := by omega
  have hsI7 : (s : Int) < 6 := by omega
  have hci := cut_in (l := l) (i := 0) (T := 0) (show s + 1 < 7 by omega) hZ (by omega) (Nat.zero_mul _) (.inl rfl)
  have hpi := put_in (l := l) (most := n) (i := 0) (T := 0) (show s + 1 < 7 by omega) hZ (by omega) (Nat.zero_mul _) (.inl rfl) (by rw [hl]; exact Nat.le_refl _)
  rw [Nat.zero_add, hl] at hci hpi
  rw [List.take_zero, List.drop_zero] at hpi
  rw [List.drop_zero] at hci
  obtain ⟨X, hX⟩ : ∃ X, l.take Z0 = X := ⟨_, rfl⟩
  have hXl : X.length ≤ 2000 := by rw [← hX, List.length_take]; omega
  rw [hX] at hci hpi
  obtain ⟨mr, hmr⟩ : ∃ mr, decide (Z0 < n) = mr := ⟨_, rfl⟩
  rw [hmr] at hci hpi
  have hshl := shl32 s hs6
  rw [← hZ] at hshl
  have HA := Lib.hid (And.intro hcut (And.intro hs6 (And.intro hZ (And.intro hl (And.intro hci (And.intro hpi (And.intro hX (And.intro hmr (And.intro hXl hb)))))))))
  clear hcut hl hb hm hs hs6 hz hr1 hZ hci hpi hX hmr hXl
  go_enter Try.func7, Try.ntmps7
  go_wp2_with fail
  refine (balive_any _).mono ?_
  rintro e w1 ⟨rfl, b1⟩
  have H1 := Lib.hid b1
  clear b1
  go_wp2_with fail
  rw [hshl]
  clear hshl hsI hsI2 hsI7 hr1I
  refine (newJoin_f (n : Int) w1).mono ?_
  rintro e w2 ⟨rfl, j2, b2, s2⟩
  have hmn : mostN (n : Int) = n := by unfold mostN; omega
  rw [hmn] at j2
  have H2 := Lib.hid (And.intro j2 (And.intro (H1.out.trans (b2.mono H1.out.size)) (show w.heap.size ≤ w1.heap.size from H1.out.size)))
  obtain ⟨jb, hjb⟩ : ∃ jb, w1.heap.size = jb := ⟨_, rfl⟩
  rw [hjb] at H2
  rw [hjb]
  clear j2 b2 s2 hmn hjb H1 er1
  try dsimp only
  go_wp2_with fail
  have hct := HA.out.1 ((0 : Nat) : Int) (Z0 : Int) w2 H2.out.2.1
  rw [HA.out.2.2.2.2.1] at hct
  refine hct.mono ?_
  rintro e w3 ⟨xA, xn, xc, rfl, hxc, hxn, hxb, b3⟩
  have H3 := Lib.hid (And.intro hxb (And.intro hxn (And.intro (H2.out.1.below b3) (H2.out.2.1.trans (b3.mono H2.out.2.1.size)))))
  clear hxc hxn hxb b3 hct
  try dsimp only
  go_wp2_with fail
  have hpt := jput_f jb n _ [] false w3 H3.out.2.2.1 ((0 : Nat) : Int) (Z0 : Int) mr xA xn xc X H3.out.1 (by have := H3.out.2.1.out; have h2 := HA.out.2.2.2.2.2.2.2.2.1; (try dsimp only at this); omega)
  rw [HA.out.2.2.2.2.2.1] at hpt
  refine hpt.mono ?_
  rintro e w4 ⟨v4, rfl, j4, k4, o4⟩
  have q4 : Below w.heap.size w3 w4 := k4.toBelow H3.out.2.2.2.size (by have := H2.out.2.2; omega) (fun g e => by cases e)
  rw [← HA.out.2.2.2.2.2.2.1] at j4
  have H4 := Lib.hid (And.intro j4 (H3.out.2.2.2.trans q4))
  clear hpt j4 k4 o4 q4
  try dsimp only
  have hmm : (mr == mr) = true := beq_self_eq_true _
  have hme : ((!mr) == mr) = false := by cases mr <;> rfl
  cases half with
  | true =>
    obtain ⟨Z, hZZ⟩ : ∃ Z, Z = 16 * 2 ^ s := ⟨_, rfl⟩
    have h2 : Z0 = 2 * Z := by rw [HA.out.2.2.1, hZZ]; exact half_of s HA.out.2.1
    have hd1 : (Z0 : Int) / 2 = (Z : Int) := by omega
    have hd2 : (Z0 : Int).tdiv 2 = (Z : Int) := by rw [Int.tdiv_eq_ediv_of_nonneg (by omega)]; exact hd1
    have hz2 := size_right (show s < 7 by have := HA.out.2.1; omega) hZZ
    have hS := Lib.hid (And.intro (show s < 7 by have := HA.out.2.1; omega) (And.intro hZZ (And.intro h2 (And.intro (show 2 * Z = Z0 by omega) hz2))))
    have hZa : (16 : Int) ≤ Z := by omega
    have hZb : (Z : Int) ≤ 1024 := by omega
    clear h2 hz2 hZZ
    go_wp2
    clear hd1 hd2
    go_loopg [12] n (fun gg b wr => ∃ (T i : Nat) (lb : Bool) (v : Value), b = .bool lb ∧ n - T ≤ gg ∧ Aside (i * Z = T ∧ i ≤ 250 ∧ (lb = true → n ≤ T) ∧ (lb = false → T < n) ∧ JnAt wr jb n v (l.take T) lb ∧ Below w.heap.size w wr))
    case atStart => exact ⟨Z0, 2, !mr, v4, rfl, by omega, hS.out.2.2.2.1, by omega, fun e => by have := HA.out.2.2.2.2.2.2.2.1; rw [show mr = false by cases mr; rfl; cases e] at this; have := of_decide_eq_false this; omega, fun e => by have := HA.out.2.2.2.2.2.2.2.1; rw [show mr = true by cases mr; cases e; rfl] at this; exact of_decide_eq_true this, H4.out.1, H4.out.2⟩
    case round =>
      obtain ⟨T, i, lb, v, rfl, hgg, hrel⟩ := hrel
      cases lb with
      | true =>
        have hTn := hrel.out.2.2.1 rfl
        have hjw := hrel.out.2.2.2.2.1
        rw [List.take_of_length_le (show l.length ≤ T by rw [HA.out.2.2.2.1]; exact hTn)] at hjw
        have HJ := Lib.hid (And.intro hjw hrel.out.2.2.2.2.2)
        clear hTn hjw hrel hgg
        go_wp2_with fail
        refine (jbytes_f jb n v l true wr HJ.out.1).mono ?_
        intro e w8 h8
        obtain ⟨A8, n8, c8, rfl, hc8, hn8, hb8, b8⟩ := h8.slice_
        obtain rfl : n8 = n := hn8.out.trans HA.out.2.2.2.1
        have H9 := Lib.hid (And.intro hb8 (HJ.out.2.trans (b8.mono HJ.out.2.size)))
        clear h8 hn8 hb8 b8 hc8
        try dsimp only
        go_wp2_with fail
        have hsa := same_any A8 A n8 c8 n8 c l l w8 _ _ H9.out.1 (HA.out.2.2.2.2.2.2.2.2.2.below H9.out.2) (by omega) (by omega)
        rw [decide_eq_true rfl] at hsa
        refine hsa.mono ?_
        rintro e w9 ⟨rfl, m9, hw9⟩
        have b9 : Below w8.heap.size w8 w9 := hw9 ▸ drewN_below _ _ m9
        have H10 := Lib.hid (H9.out.2.trans (b9.mono H9.out.2.size))
        clear hsa hw9 b9
        try dsimp only
        go_wp2
        go_ret
        exact ⟨rfl, H10.out⟩
      | false =>
        have hTn := hrel.out.2.2.2.1 rfl
        have hiT := hrel.out.1
        have hlT : (l.take T).length = T := by rw [List.length_take, HA.out.2.2.2.1]; omega
        have hgot := jgot_f jb n v _ _ wr hrel.out.2.2.2.2.1
        rw [hlT] at hgot
        have hdv : T / Z = i := by rw [← hiT]; exact Nat.mul_div_cancel i (by omega)
        have hd1 : (T : Int) / (Z : Int) = (i : Int) := by rw [← hdv]; rfl
        have hd2 : (T : Int).tdiv (Z : Int) = (i : Int) := by rw [Int.tdiv_eq_ediv_of_nonneg (by omega)]; exact hd1
        have hi125 : i ≤ 125 := by
          have : 16 * i ≤ i * Z := by rw [Nat.mul_comm]; exact Nat.mul_le_mul_left i (by omega)
          omega
        have hci := cut_in (l := l) hS.out.1 hS.out.2.1 (show i ≤ 1048575 by omega) hiT (.inr (by rw [HA.out.2.2.2.1]; exact hTn))
        rw [HA.out.2.2.2.1] at hci
        have hpi := put_in (l := l) (most := n) hS.out.1 hS.out.2.1 (show i ≤ 1048575 by omega) hiT (.inr (by rw [HA.out.2.2.2.1]; exact hTn)) (by rw [HA.out.2.2.2.1]; exact Nat.le_refl _)
        rw [HA.out.2.2.2.1] at hpi
        have hlk : ((l.drop T).take Z).length ≤ 2000 := by rw [List.length_take, List.length_drop, HA.out.2.2.2.1]; omega
        obtain ⟨X2, hX2⟩ : ∃ X2, (l.drop T).take Z = X2 := ⟨_, rfl⟩
        rw [hX2] at hci hpi hlk
        have hct := HA.out.1 (i : Int) (Z : Int) wr hrel.out.2.2.2.2.2
        rw [hci] at hct
        obtain ⟨mr2, hmr2⟩ : ∃ mr2, decide (T + Z < n) = mr2 := ⟨_, rfl⟩
        rw [hmr2] at hct hpi
        have HB := Lib.hid (And.intro hct (And.intro hpi (And.intro hlk (And.intro hmr2 (And.intro hgot (And.intro hiT (And.intro hrel.out.2.2.2.2.1 hrel.out.2.2.2.2.2)))))))
        have hTI : (T : Int) ≤ 2000 := by omega
        have hiI : (i : Int) ≤ 125 := by omega
        clear hct hpi hlk hmr2 hgot hX2 hci hrel hlT hdv hiT
        go_wp2_with fail
        refine HB.out.2.2.2.2.1.mono ?_
        rintro e w5 ⟨rfl, hw5⟩
        obtain rfl := hw5.symm
        go_wp2_with fail
        clear hd1 hd2
        refine HB.out.1.mono ?_
        rintro e w6 ⟨xA2, xn2, xc2, rfl, hxc, hxn, hxb, b6⟩
        have H6 := Lib.hid (And.intro hxb (And.intro hxn (And.intro (HB.out.2.2.2.2.2.2.1.below b6) (HB.out.2.2.2.2.2.2.2.trans (b6.mono HB.out.2.2.2.2.2.2.2.size)))))
        clear hxc hxn hxb b6
        try dsimp only
        go_wp2_with fail
        have hpt := jput_f jb n v (l.take T) false w6 H6.out.2.2.1 (i : Int) (Z : Int) mr2 xA2 xn2 xc2 X2 H6.out.1 (by have := H6.out.2.1.out; have h2 := HB.out.2.2.1; (try dsimp only at this); omega)
        rw [HB.out.2.1] at hpt
        refine hpt.mono ?_
        rintro e w7 ⟨v7, rfl, j7, k7, o7⟩
        have q7 : Below w.heap.size w6 w7 := k7.toBelow H6.out.2.2.2.size (by have := H2.out.2.2; omega) (fun g e => by have := own_ge H6.out.2.2.1.row g e; have := H2.out.2.2; omega)
        have H7 := Lib.hid (And.intro j7 (H6.out.2.2.2.trans q7))
        clear hpt j7 k7 o7 q7
        try dsimp only
        go_wp2
        go_roundg (n - (T + Z))
        case measure => omega
        case rel =>
          exact ⟨T + Z, i + 1, !mr2, v7, rfl, Nat.le_refl _, by rw [Nat.succ_mul, HB.out.2.2.2.2.2.1], by omega, fun e => by have := HB.out.2.2.2.1; rw [show mr2 = false by cases mr2; rfl; cases e] at this; have := of_decide_eq_false this; omega, fun e => by have := HB.out.2.2.2.1; rw [show mr2 = true by cases mr2; cases e; rfl] at this; exact of_decide_eq_true this, H7.out.1, H7.out.2⟩
  | false =>
    obtain ⟨Z, hZZ⟩ : ∃ Z, Z0 = Z := ⟨_, rfl⟩
    subst hZZ
    have hS := Lib.hid (And.intro (show s + 1 < 7 by have := HA.out.2.1; omega) (And.intro HA.out.2.2.1 (And.intro HA.out.2.2.1 (And.intro (show 1 * Z0 = Z0 by omega) (size_right (show s + 1 < 7 by have := HA.out.2.1; omega) HA.out.2.2.1)))))
    go_wp2
    skip
    go_loopg [12] n (fun gg b wr => ∃ (T i : Nat) (lb : Bool) (v : Value), b = .bool lb ∧ n - T ≤ gg ∧ Aside (i * Z0 = T ∧ i ≤ 250 ∧ (lb = true → n ≤ T) ∧ (lb = false → T < n) ∧ JnAt wr jb n v (l.take T) lb ∧ Below w.heap.size w wr))
    case atStart => exact ⟨Z0, 1, !mr, v4, rfl, by omega, hS.out.2.2.2.1, by omega, fun e => by have := HA.out.2.2.2.2.2.2.2.1; rw [show mr = false by cases mr; rfl; cases e] at this; have := of_decide_eq_false this; omega, fun e => by have := HA.out.2.2.2.2.2.2.2.1; rw [show mr = true by cases mr; cases e; rfl] at this; exact of_decide_eq_true this, H4.out.1, H4.out.2⟩
    case round =>
      obtain ⟨T, i, lb, v, rfl, hgg, hrel⟩ := hrel
      cases lb with
      | true =>
        have hTn := hrel.out.2.2.1 rfl
        have hjw := hrel.out.2.2.2.2.1
        rw [List.take_of_length_le (show l.length ≤ T by rw [HA.out.2.2.2.1]; exact hTn)] at hjw
        have HJ := Lib.hid (And.intro hjw hrel.out.2.2.2.2.2)
        clear hTn hjw hrel hgg
        go_wp2_with fail
        refine (jbytes_f jb n v l true wr HJ.out.1).mono ?_
        intro e w8 h8
        obtain ⟨A8, n8, c8, rfl, hc8, hn8, hb8, b8⟩ := h8.slice_
        obtain rfl : n8 = n := hn8.out.trans HA.out.2.2.2.1
        have H9 := Lib.hid (And.intro hb8 (HJ.out.2.trans (b8.mono HJ.out.2.size)))
        clear h8 hn8 hb8 b8 hc8
        try dsimp only
        go_wp2_with fail
        have hsa := same_any A8 A n8 c8 n8 c l l w8 _ _ H9.out.1 (HA.out.2.2.2.2.2.2.2.2.2.below H9.out.2) (by omega) (by omega)
        rw [decide_eq_true rfl] at hsa
        refine hsa.mono ?_
        rintro e w9 ⟨rfl, m9, hw9⟩
        have b9 : Below w8.heap.size w8 w9 := hw9 ▸ drewN_below _ _ m9
        have H10 := Lib.hid (H9.out.2.trans (b9.mono H9.out.2.size))
        clear hsa hw9 b9
        try dsimp only
        go_wp2
        go_ret
        exact ⟨rfl, H10.out⟩
      | false =>
        have hTn := hrel.out.2.2.2.1 rfl
        have hiT := hrel.out.1
        have hlT : (l.take T).length = T := by rw [List.length_take, HA.out.2.2.2.1]; omega
        have hgot := jgot_f jb n v _ _ wr hrel.out.2.2.2.2.1
        rw [hlT] at hgot
        have hdv : T / Z0 = i := by rw [← hiT]; exact Nat.mul_div_cancel i (by omega)
        have hd1 : (T : Int) / (Z0 : Int) = (i : Int) := by rw [← hdv]; rfl
        have hd2 : (T : Int).tdiv (Z0 : Int) = (i : Int) := by rw [Int.tdiv_eq_ediv_of_nonneg (by omega)]; exact hd1
        have hi125 : i ≤ 125 := by
          have : 16 * i ≤ i * Z0 := by rw [Nat.mul_comm]; exact Nat.mul_le_mul_left i (by omega)
          omega
        have hci := cut_in (l := l) hS.out.1 hS.out.2.1 (show i ≤ 1048575 by omega) hiT (.inr (by rw [HA.out.2.2.2.1]; exact hTn))
        rw [HA.out.2.2.2.1] at hci
        have hpi := put_in (l := l) (most := n) hS.out.1 hS.out.2.1 (show i ≤ 1048575 by omega) hiT (.inr (by rw [HA.out.2.2.2.1]; exact hTn)) (by rw [HA.out.2.2.2.1]; exact Nat.le_refl _)
        rw [HA.out.2.2.2.1] at hpi
        have hlk : ((l.drop T).take Z0).length ≤ 2000 := by rw [List.length_take, List.length_drop, HA.out.2.2.2.1]; omega
        obtain ⟨X2, hX2⟩ : ∃ X2, (l.drop T).take Z0 = X2 := ⟨_, rfl⟩
        rw [hX2] at hci hpi hlk
        have hct := HA.out.1 (i : Int) (Z0 : Int) wr hrel.out.2.2.2.2.2
        rw [hci] at hct
        obtain ⟨mr2, hmr2⟩ : ∃ mr2, decide (T + Z0 < n) = mr2 := ⟨_, rfl⟩
        rw [hmr2] at hct hpi
        have HB := Lib.hid (And.intro hct (And.intro hpi (And.intro hlk (And.intro hmr2 (And.intro hgot (And.intro hiT (And.intro hrel.out.2.2.2.2.1 hrel.out.2.2.2.2.2)))))))
        have hTI : (T : Int) ≤ 2000 := by omega
        have hiI : (i : Int) ≤ 125 := by omega
        clear hct hpi hlk hmr2 hgot hX2 hci hrel hlT hdv hiT
        go_wp2_with fail
        refine HB.out.2.2.2.2.1.mono ?_
        rintro e w5 ⟨rfl, hw5⟩
        obtain rfl := hw5.symm
        go_wp2_with fail
        clear hd1 hd2
        refine HB.out.1.mono ?_
        rintro e w6 ⟨xA2, xn2, xc2, rfl, hxc, hxn, hxb, b6⟩
        have H6 := Lib.hid (And.intro hxb (And.intro hxn (And.intro (HB.out.2.2.2.2.2.2.1.below b6) (HB.out.2.2.2.2.2.2.2.trans (b6.mono HB.out.2.2.2.2.2.2.2.size)))))
        clear hxc hxn hxb b6
        try dsimp only
        go_wp2_with fail
        have hpt := jput_f jb n v (l.take T) false w6 H6.out.2.2.1 (i : Int) (Z0 : Int) mr2 xA2 xn2 xc2 X2 H6.out.1 (by have := H6.out.2.1.out; have h2 := HB.out.2.2.1; (try dsimp only at this); omega)
        rw [HB.out.2.1] at hpt
        refine hpt.mono ?_
        rintro e w7 ⟨v7, rfl, j7, k7, o7⟩
        have q7 : Below w.heap.size w6 w7 := k7.toBelow H6.out.2.2.2.size (by have := H2.out.2.2; omega) (fun g e => by have := own_ge H6.out.2.2.1.row g e; have := H2.out.2.2; omega)
        have H7 := Lib.hid (And.intro j7 (H6.out.2.2.2.trans q7))
        clear hpt j7 k7 o7 q7
        try dsimp only
        go_wp2
        go_roundg (n - (T + Z0))
        case measure => omega
        case rel =>
          exact ⟨T + Z0, i + 1, !mr2, v7, rfl, Nat.le_refl _, by rw [Nat.succ_mul, HB.out.2.2.2.2.2.1], by omega, fun e => by have := HB.out.2.2.2.1; rw [show mr2 = false by cases mr2; rfl; cases e] at this; have := of_decide_eq_false this; omega, fun e => by have := HB.out.2.2.2.1; rw [show mr2 = true by cases mr2; cases e; rfl] at this; exact of_decide_eq_true this, H7.out.1, H7.out.2⟩
end Go.Proofs.Ytdgihhepmmkkpaa
