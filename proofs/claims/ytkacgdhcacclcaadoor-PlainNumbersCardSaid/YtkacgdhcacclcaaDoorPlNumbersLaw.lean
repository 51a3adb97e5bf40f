/-
  The law PlainNumbers.
-/
import Derived.Test.YtkacgdhcacclcaaDoorPlAlive
import Derived.Test.YtkacgdhcacclcaaDoorPlNumPure
namespace Go.Proofs.YtkacgdhcacclcaaDoor
open Go.RowKit
set_option maxRecDepth 100000
set_option linter.unusedVariables false
theorem size_nil : (ByteArray.size ⟨#[]⟩) = 0 := rfl
theorem txtE_num (n : Int) : txtE 1 n (ByteArray.size ⟨#[]⟩) (okN (runesQ (ByteArray.data ⟨#[]⟩).toList)) 0 0 0 = 0 := by
  unfold txtE rightB
  rw [if_neg (by decide), size_nil, decide_eq_true (Or.inl ⟨Or.inl rfl, rfl, rfl, rfl, rfl⟩)]
  rfl
theorem txtE_link (o i : Int) : txtE 6 0 (ByteArray.size ⟨#[]⟩) (okN (runesQ (ByteArray.data ⟨#[]⟩).toList)) 0 o i = (if (0 ≤ o ∧ o ≤ 65535) ∧ 0 ≤ i ∧ i ≤ 65535 then 0 else 1) := by
  unfold txtE rightB
  rw [if_neg (by decide), size_nil]
  by_cases h : (0 ≤ o ∧ o ≤ 65535) ∧ 0 ≤ i ∧ i ≤ 65535
  · rw [if_pos h, decide_eq_true (by omega)]
    rfl
  · rw [if_neg h, decide_eq_false (by omega)]
    rfl
theorem pn_w1 (n : Int) (w : World) (hT : Tab7 w) (h0 : -9223372036854775808 ≤ n) (h1 : n ≤ 9223372036854775807) : Calls Tryd.prog 11 #[.agg #[.int .i64 1, .int .i64 n, .string ⟨#[]⟩, .slice none 0 0, .int .i64 0, .int .i64 0]] w fun e w' => ∃ t : ByteArray, e = .returned (.tuple #[.string t, .int .i64 0]) ∧ t.data.toList = Lib.itoa n ∧ Below w.heap.size w w' := by
  refine (write13_f 1 n ⟨#[]⟩ none 0 0 0 0 [] w 0 (Bs.empty _ _ _) (Nat.zero_le _) (by decide) (by decide) (Nat.le_refl _) hT.d hT.u h0 h1 (by decide) (by decide) (by decide) (by decide)).mono ?_
  rintro e w' ⟨t, rfl, ht, hb⟩
  rw [txtE_num] at ht ⊢
  rw [if_pos rfl] at ht
  exact ⟨t, rfl, ht, hb⟩
theorem pn_wl (o i : Int) (w : World) (hT : Tab7 w) (h0 : -9223372036854775808 ≤ o ∧ o ≤ 9223372036854775807) (h1 : -9223372036854775808 ≤ i ∧ i ≤ 9223372036854775807) : Calls Tryd.prog 11 #[.agg #[.int .i64 6, .int .i64 0, .string ⟨#[]⟩, .slice none 0 0, .int .i64 o, .int .i64 i]] w fun e w' => ∃ t : ByteArray, e = .returned (.tuple #[.string t, .int .i64 (if (0 ≤ o ∧ o ≤ 65535) ∧ 0 ≤ i ∧ i ≤ 65535 then 0 else 1)]) ∧ t.data.toList = (if (0 ≤ o ∧ o ≤ 65535) ∧ 0 ≤ i ∧ i ≤ 65535 then Lib.itoa o ++ 58 :: Lib.itoa i else []) ∧ Below w.heap.size w w' := by
  refine (write13_f 6 0 ⟨#[]⟩ none 0 0 o i [] w 0 (Bs.empty _ _ _) (Nat.zero_le _) (by decide) (by decide) (Nat.le_refl _) hT.d hT.u (by decide) (by decide) h0.1 h0.2 h1.1 h1.2).mono ?_
  rintro e w' ⟨t, rfl, ht, hb⟩
  rw [txtE_link] at ht ⊢
  refine ⟨t, rfl, ht.trans ?_, hb⟩
  by_cases h : (0 ≤ o ∧ o ≤ 65535) ∧ 0 ≤ i ∧ i ≤ 65535
  · rw [if_pos h, if_pos h, if_pos rfl]; rfl
  · rw [if_neg h, if_neg h, if_neg (by decide)]
theorem pn_r1 (n : Int) (t : ByteArray) (ht : t.data.toList = Lib.itoa n) (w : World) (hT : Tab7 w) (h0 : -9223372036854775808 ≤ n) (h1 : n ≤ 9223372036854775807) : Calls Tryd.prog 15 #[.int .i64 1, .string t] w (RdRet 1 n [] [] 0 0 0 w) := by
  have hs : t.size ≤ 1000000 := by
    have := itoa_len n h0 h1
    rw [← ht, Array.length_toList] at this
    exact Nat.le_trans this (by decide)
  have h := read_num1 t hs w hT.e hT.d
  simp only [ht, numP_itoa n h0 h1] at h
  exact h
theorem pn_r5 (n : Int) (t : ByteArray) (ht : t.data.toList = Lib.itoa n) (w : World) (hT : Tab7 w) (h0 : -9223372036854775808 ≤ n) (h1 : n ≤ 9223372036854775807) : Calls Tryd.prog 15 #[.int .i64 5, .string t] w (RdRet 5 n [] [] 0 0 0 w) := by
  have hs : t.size ≤ 1000000 := by
    have := itoa_len n h0 h1
    rw [← ht, Array.length_toList] at this
    exact Nat.le_trans this (by decide)
  have h := read_num5 t hs w hT.e hT.d
  simp only [ht, numP_itoa n h0 h1] at h
  exact h
theorem pn_rl (o i : Int) (h : (0 ≤ o ∧ o ≤ 65535) ∧ 0 ≤ i ∧ i ≤ 65535) (t : ByteArray) (ht : t.data.toList = Lib.itoa o ++ 58 :: Lib.itoa i) (w : World) (hT : Tab7 w) : Calls Tryd.prog 15 #[.int .i64 6, .string t] w (RdRet 6 0 [] [] o i 0 w) := by
  have hs : t.size ≤ 1000000 := by
    have h1 := itoa_len o (by omega) (by omega)
    have h2 := itoa_len i (by omega) (by omega)
    have h3 : t.data.toList.length = t.size := Array.length_toList
    rw [ht, List.length_append, List.length_cons] at h3
    omega
  have hr := read_link t hs w hT.e hT.d
  simp only [ht, linkQ_itoa o i h.1 h.2] at hr
  exact hr
theorem pn_r0 (t : ByteArray) (ht : t.data.toList = []) (w : World) (hT : Tab7 w) : Calls Tryd.prog 15 #[.int .i64 6, .string t] w (RdRet 0 0 [] [] 0 0 20 w) := by
  have hs : t.size ≤ 1000000 := by
    have h3 : t.data.toList.length = t.size := Array.length_toList
    rw [ht] at h3
    have h4 : t.size = 0 := h3.symm
    omega
  have hr := read_link t hs w hT.e hT.d
  simp only [ht, linkQ_nil] at hr
  exact hr
/-- The first sign of a number's text. -/
theorem itoa_first (n : Int) (t : ByteArray) (ht : t.data.toList = Lib.itoa n) : ∃ c : UInt8, t.data.toList.head? = some c ∧ 0 < t.size ∧ ((c.toNat = 45) ↔ n < 0) ∧ (c.toNat = 48 → n = 0) := by
  have h3 : t.data.toList.length = t.size := Array.length_toList
  rw [ht] at h3 ⊢
  unfold Lib.itoa at h3 ⊢
  by_cases hn : n < 0
  · rw [if_pos hn] at h3 ⊢
    have h45 : (45 : UInt8).toNat = 45 := rfl
    exact ⟨45, rfl, by rw [← h3]; simp, ⟨fun _ => hn, fun _ => h45⟩, fun h => by rw [h45] at h; omega⟩
  · rw [if_neg hn] at h3 ⊢
    obtain ⟨c, r, hcr, h0, h1, h2⟩ := dec_first n.toNat
    rw [hcr] at h3 ⊢
    exact ⟨c, rfl, by rw [← h3]; simp, ⟨fun h => by omega, fun h => absurd h hn⟩, fun h => by have := h2 h; omega⟩
theorem first_at {t : ByteArray} {c : UInt8} (h : t.data.toList.head? = some c) (hp : 0 < t.size) : t[0]'hp = c := by
  show t.data[0]'hp = c
  have h2 : t.data.toList[0]? = some c := by rw [← List.head?_eq_getElem?]; exact h
  rw [Array.getElem?_toList, Array.getElem?_eq_getElem hp] at h2
  exact Option.some.inj h2
set_option maxHeartbeats 8000000 in
theorem pnumbers_law (n o i : Int) (w : World) (hn : -9223372036854775808 ≤ n ∧ n ≤ 9223372036854775807) (ho : -9223372036854775808 ≤ o ∧ o ≤ 9223372036854775807) (hi : -9223372036854775808 ≤ i ∧ i ≤ 9223372036854775807) (hT : Tab7 w) :
    Calls Tryd.prog 8 #[.int .i64 n, .int .i64 o, .int .i64 i] w fun e w' => e = .returned (.bool true) ∧ Below w.heap.size w w' := by
  have HT := Lib.hid fun W (h : Below w.heap.size w W) => hT.below h
  have HN := Lib.hid (And.intro hn (And.intro ho hi))
  clear hT hn ho hi
  go_enter Tryd.func8, Tryd.ntmps8
  go_wp2_with fail
  refine (palive_f w (HT.out w (Below.refl _ _))).mono ?_
  rintro e w1 ⟨rfl, b1⟩
  have H1 := Lib.hid b1
  clear b1
  try dsimp only
  go_wp2_with fail
  refine (pn_w1 n _ (HT.out _ H1.out) HN.out.1.1 HN.out.1.2).mono ?_
  rintro e w2 ⟨t, rfl, ht, b2⟩
  have H2 := Lib.hid (And.intro (H1.out.trans (b2.mono H1.out.size)) ht)
  clear b2 ht
  try dsimp only
  go_wp2_with fail
  refine (pn_r1 n t H2.out.2 _ (HT.out _ H2.out.1) HN.out.1.1 HN.out.1.2).mono ?_
  rintro e w3 ⟨t3, A3, m3, c3, rfl, ht3, hmc3, hml3, hbs3, b3⟩
  have H3 := Lib.hid (And.intro (H2.out.1.trans (b3.mono H2.out.1.size)) H2.out.2)
  clear b3 ht3 hmc3 hml3 hbs3 H2
  try dsimp only
  go_wp2_with fail
  refine calls_at_world (F := fun W => Below w3.heap.size w3 W ∧ W.rangeAt w3.heap.size 0 [.int .i64 1, .int .i64 n, .string t3, .slice A3 m3 c3, .int .i64 0, .int .i64 0] ∧ w3.heap.size < W.heap.size) ⟨alloc_below _ _, range_newV w3 _ _ rfl, by rw [alloc_size]; omega⟩ fun W3 p3 => ?_
  have HP := Lib.hid (And.intro (H3.out.1.trans (p3.1.mono H3.out.1.size)) p3.2)
  have HS := Lib.hid H3.out.2
  obtain ⟨g3, hg3⟩ : ∃ g3, w3.heap.size = g3 := ⟨_, rfl⟩
  rw [hg3] at HP ⊢
  clear p3 H3 hg3
  refine (pn_r5 n t HS.out W3 (HT.out W3 HP.out.1) HN.out.1.1 HN.out.1.2).mono ?_
  rintro e w4 ⟨t4, A4, m4, c4, rfl, ht4, hmc4, hml4, hbs4, b4⟩
  have H4 := Lib.hid (And.intro (HP.out.1.trans (b4.mono HP.out.1.size)) (And.intro (range_below HP.out.2.1 b4 HP.out.2.2) (Nat.lt_of_lt_of_le HP.out.2.2 b4.size)))
  clear b4 ht4 hmc4 hml4 hbs4 HP
  try dsimp only
  have q4 := alloc_below w4 (.cells #[.int .i64 5, .int .i64 n, .string t4, .slice A4 m4 c4, .int .i64 0, .int .i64 0] 24)
  obtain ⟨p0, p1, p2, p3, p4, p5⟩ := six (range_below H4.out.2.1 q4 H4.out.2.2)
  obtain ⟨s0, s1, s2, s3, s4, s5⟩ := six (range_newV w4 #[.int .i64 5, .int .i64 n, .string t4, .slice A4 m4 c4, .int .i64 0, .int .i64 0] 24 rfl)
  have H5 := Lib.hid (H4.out.1.trans (q4.mono H4.out.1.size))
  clear q4
  have hnn : (n == n) = true := beq_self_eq_true _
  obtain ⟨c, hc, hpos, hc45, hc48⟩ := itoa_first n t HS.out
  have hu := first_at hc hpos
  have hem : ¬ t = ByteArray.empty := fun e => by rw [e] at hpos; exact absurd hpos (by decide)
  have hz : ((t.size : Int) == 0) = false := beq_eq_false_iff_ne.2 (by omega)
  have h45 : ((t[0].toNat : Int) == 45) = decide (n < 0) := by
    rw [hu]
    by_cases h : n < 0
    · rw [decide_eq_true h, beq_iff_eq]; exact congrArg Int.ofNat (hc45.2 h)
    · rw [decide_eq_false h, beq_eq_false_iff_ne]; intro e; exact h (hc45.1 (by omega))
  have hQ : ¬ ((t[0].toNat : Int) = 48) ∨ n = 0 := by
    rw [hu]
    by_cases h : c.toNat = 48
    · exact Or.inr (hc48 h)
    · exact Or.inl (by omega)
  have HR := Lib.hid hQ
  clear hc hc45 hc48 hu hQ
  by_cases h48 : (t[0].toNat : Int) = 48
  · obtain rfl : n = 0 := by rcases HR.out with h | h; exact absurd h48 h; exact h
    have h48b : ((t[0].toNat : Int) == 48) = true := beq_iff_eq.2 h48
    clear h48
    go_wp2_with fail
    clear p0 p1 p2 p3 p4 p5 s0 s1 s2 s3 s4 s5 h45 hem hz h48b
    refine (pn_wl o i _ (HT.out _ H5.out) HN.out.2.1 HN.out.2.2).mono ?_
    rintro e w6 ⟨x, rfl, hx, b6⟩
    have H6 := Lib.hid (H5.out.trans (b6.mono H5.out.size))
    clear b6
    try dsimp only
    by_cases hr : (0 ≤ o ∧ o ≤ 65535) ∧ 0 ≤ i ∧ i ≤ 65535
    · rw [if_pos hr] at hx
      simp only [if_pos hr]
      have HX := Lib.hid (And.intro hx hr)
      have r0 : ¬ o < 0 := by omega
      have r1 : ¬ 65535 < o := by omega
      have r2 : ¬ i < 0 := by omega
      have r3 : ¬ 65535 < i := by omega
      clear hx hr
      go_wp2_with fail
      refine (pn_rl o i HX.out.2 x HX.out.1 _ (HT.out _ H6.out)).mono ?_
      rintro e w7 ⟨t7, A7, m7, c7, rfl, ht7, hmc7, hml7, hbs7, b7⟩
      have H7 := Lib.hid (H6.out.trans (b7.mono H6.out.size))
      clear b7 ht7 hmc7 hml7 hbs7 H6
      try dsimp only
      have q7 := alloc_below w7 (.cells #[.int .i64 6, .int .i64 0, .string t7, .slice A7 m7 c7, .int .i64 o, .int .i64 i] 24)
      obtain ⟨p0, p1, p2, p3, p4, p5⟩ := six (range_newV w7 #[.int .i64 6, .int .i64 0, .string t7, .slice A7 m7 c7, .int .i64 o, .int .i64 i] 24 rfl)
      have H8 := Lib.hid (H7.out.trans (q7.mono H7.out.size))
      clear q7
      have hoo : (o == o) = true := beq_self_eq_true _
      have hii : (i == i) = true := beq_self_eq_true _
      go_wp2
      go_ret
      exact ⟨rfl, H8.out⟩
    · rw [if_neg hr] at hx
      simp only [if_neg hr]
      have hxe : (x.toList == []) = true := str_yes hx
      obtain rfl : x = ⟨#[]⟩ := by
        have h2 := Array.toList_inj.1 (show x.data.toList = (#[] : Array UInt8).toList from hx)
        cases x; exact congrArg ByteArray.mk h2
      clear hx hxe
      go_wp2_with fail
      refine (pn_r0 ⟨#[]⟩ rfl _ (HT.out _ H6.out)).mono ?_
      rintro e w7 ⟨t7, A7, m7, c7, rfl, ht7, hmc7, hml7, hbs7, b7⟩
      have H7 := Lib.hid (H6.out.trans (b7.mono H6.out.size))
      clear b7 ht7 hmc7 hml7 hbs7 H6
      try dsimp only
      have q7 := alloc_below w7 (.cells #[.int .i64 0, .int .i64 0, .string t7, .slice A7 m7 c7, .int .i64 0, .int .i64 0] 24)
      have H8 := Lib.hid (H7.out.trans (q7.mono H7.out.size))
      clear q7
      rcases (show o < 0 ∨ (¬ o < 0 ∧ 65535 < o) ∨ (¬ o < 0 ∧ ¬ 65535 < o ∧ i < 0) ∨ (¬ o < 0 ∧ ¬ 65535 < o ∧ ¬ i < 0 ∧ 65535 < i) by omega) with r0 | ⟨r0, r1⟩ | ⟨r0, r1, r2⟩ | ⟨r0, r1, r2, r3⟩
      all_goals
        clear hr
        go_wp2
        go_ret
        exact ⟨rfl, H8.out⟩
  · have h48b : ((t[0].toNat : Int) == 48) = false := beq_eq_false_iff_ne.2 h48
    go_wp2_with fail
    clear h48
    clear p0 p1 p2 p3 p4 p5 s0 s1 s2 s3 s4 s5 h45 hem hz h48b
    refine (pn_wl o i _ (HT.out _ H5.out) HN.out.2.1 HN.out.2.2).mono ?_
    rintro e w6 ⟨x, rfl, hx, b6⟩
    have H6 := Lib.hid (H5.out.trans (b6.mono H5.out.size))
    clear b6
    try dsimp only
    by_cases hr : (0 ≤ o ∧ o ≤ 65535) ∧ 0 ≤ i ∧ i ≤ 65535
    · rw [if_pos hr] at hx
      simp only [if_pos hr]
      have HX := Lib.hid (And.intro hx hr)
      have r0 : ¬ o < 0 := by omega
      have r1 : ¬ 65535 < o := by omega
      have r2 : ¬ i < 0 := by omega
      have r3 : ¬ 65535 < i := by omega
      clear hx hr
      go_wp2_with fail
      refine (pn_rl o i HX.out.2 x HX.out.1 _ (HT.out _ H6.out)).mono ?_
      rintro e w7 ⟨t7, A7, m7, c7, rfl, ht7, hmc7, hml7, hbs7, b7⟩
      have H7 := Lib.hid (H6.out.trans (b7.mono H6.out.size))
      clear b7 ht7 hmc7 hml7 hbs7 H6
      try dsimp only
      have q7 := alloc_below w7 (.cells #[.int .i64 6, .int .i64 0, .string t7, .slice A7 m7 c7, .int .i64 o, .int .i64 i] 24)
      obtain ⟨p0, p1, p2, p3, p4, p5⟩ := six (range_newV w7 #[.int .i64 6, .int .i64 0, .string t7, .slice A7 m7 c7, .int .i64 o, .int .i64 i] 24 rfl)
      have H8 := Lib.hid (H7.out.trans (q7.mono H7.out.size))
      clear q7
      have hoo : (o == o) = true := beq_self_eq_true _
      have hii : (i == i) = true := beq_self_eq_true _
      go_wp2
      go_ret
      exact ⟨rfl, H8.out⟩
    · rw [if_neg hr] at hx
      simp only [if_neg hr]
      have hxe : (x.toList == []) = true := str_yes hx
      obtain rfl : x = ⟨#[]⟩ := by
        have h2 := Array.toList_inj.1 (show x.data.toList = (#[] : Array UInt8).toList from hx)
        cases x; exact congrArg ByteArray.mk h2
      clear hx hxe
      go_wp2_with fail
      refine (pn_r0 ⟨#[]⟩ rfl _ (HT.out _ H6.out)).mono ?_
      rintro e w7 ⟨t7, A7, m7, c7, rfl, ht7, hmc7, hml7, hbs7, b7⟩
      have H7 := Lib.hid (H6.out.trans (b7.mono H6.out.size))
      clear b7 ht7 hmc7 hml7 hbs7 H6
      try dsimp only
      have q7 := alloc_below w7 (.cells #[.int .i64 0, .int .i64 0, .string t7, .slice A7 m7 c7, .int .i64 0, .int .i64 0] 24)
      have H8 := Lib.hid (H7.out.trans (q7.mono H7.out.size))
      clear q7
      rcases (show o < 0 ∨ (¬ o < 0 ∧ 65535 < o) ∨ (¬ o < 0 ∧ ¬ 65535 < o ∧ i < 0) ∨ (¬ o < 0 ∧ ¬ 65535 < o ∧ ¬ i < 0 ∧ 65535 < i) by omega) with r0 | ⟨r0, r1⟩ | ⟨r0, r1, r2⟩ | ⟨r0, r1, r2, r3⟩
      all_goals
        clear hr
        go_wp2
        go_ret
        exact ⟨rfl, H8.out⟩
end Go.Proofs.YtkacgdhcacclcaaDoor
