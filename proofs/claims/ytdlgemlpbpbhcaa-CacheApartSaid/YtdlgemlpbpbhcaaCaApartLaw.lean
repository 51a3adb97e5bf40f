/-
  CacheApart: what is kept for an endpoint's message is found for that alone.
-/
import Derived.Test.YtdlgemlpbpbhcaaCaAlive
namespace Go.Proofs.Ytdlgemlpbpbhcaa
open Go.RowKit
set_option linter.unusedVariables false
theorem keepQ_nil (f i now : Int) (l : List UInt8) : keepQ [] f i now l = [⟨f, i, clampN now, l⟩] := rfl
theorem findQ_own (f i now : Int) (l : List UInt8) : findQ [⟨f, i, clampN now, l⟩] f i now = some l := by
  unfold findQ
  rw [List.find?_cons_of_pos (by simp)]
  show (if clampN now - clampN now < 247 then some l else none) = _
  rw [if_pos (by omega)]
theorem findQ_not (f i o a now : Int) (l : List UInt8) (h : ¬ (o = f ∧ a = i)) : findQ [⟨f, i, clampN now, l⟩] o a now = none := by
  unfold findQ
  rw [List.find?_cons_of_neg (by simp; intro e1 e2; exact h ⟨e1.symm, e2.symm⟩)]
  rfl
theorem cntQ_own (f i now : Int) (l : List UInt8) : cntQ now [⟨f, i, clampN now, l⟩] = 1 := by
  unfold cntQ
  rw [List.filter_cons_of_pos (by show decide (clampN now - clampN now < 247) = true; rw [decide_eq_true_eq]; omega)]
  rfl
set_option maxHeartbeats 8000000 in
theorem caapart_law (fr id now : Int) (A : Option Addr) (n c : Nat) (l : List UInt8) (o a : Int) (w : World) (hb : Bs w w.heap.size A n l) (hc : n ≤ c) (hm : c ≤ maxLen) :
    Calls Try.prog 5 #[.int .i64 fr, .int .i64 id, .int .i64 now, .slice A n c, .int .i64 o, .int .i64 a] w fun e w' => e = .returned (.bool true) ∧ Below w.heap.size w w' := by
  by_cases hn : (1000 : Int) < n
  · clear hm
    go_enter Try.func5, Try.ntmps5
    go_wp2_with (go_at_call 6; refine (caalive_any _).mono ?_; rintro e w1 ⟨rfl, b1⟩)
    go_ret
    exact ⟨rfl, b1⟩
  have HB := Lib.hid hb
  clear hb hm
  go_enter Try.func5, Try.ntmps5
  go_wp2_with fail
  refine (caalive_any _).mono ?_
  rintro e w1 ⟨rfl, b1⟩
  have H1 := Lib.hid b1
  clear b1
  go_wp2_with fail
  refine (canew_f w1).mono ?_
  rintro e w2 ⟨rfl, hca, b2, s2⟩
  have H2 := Lib.hid (And.intro hca (And.intro b2 s2))
  clear hca b2 s2
  go_wp2_with fail
  have hbW : ∀ W, KpT w1.heap.size w2 W → Bs W W.heap.size A n l := fun W hW =>
    ((HB.out.below (H1.out.trans ((H2.out.2.1.mono H1.out.size).trans (hW.toBelow H1.out.size))))).more (Nat.le_trans H1.out.size (Nat.le_trans H2.out.2.1.size hW.size))
  have hk := cakeep_f w1.heap.size _ _ _ w2 H2.out.1 fr id now A n c l hbW (by omega)
  rw [keepQ_nil] at hk
  refine hk.mono ?_
  rintro e w3 ⟨rfl, ⟨v3, vs3, hca⟩, kp⟩
  have H3 := Lib.hid (And.intro hca (And.intro (hbW w3 kp) (H1.out.trans ((H2.out.2.1.mono H1.out.size).trans (kp.toBelow H1.out.size)))))
  clear hk hca kp hbW
  go_wp2_with fail
  have h4 := cafind_f w1.heap.size _ _ _ w3 H3.out.1 fr id now
  rw [findQ_own] at h4
  refine h4.mono ?_
  rintro e w4 ⟨A4, n4, c4, rfl, hc4, hn4, hb4, hf4, b4⟩
  obtain rfl : n4 = n := hn4.out.trans H3.out.2.1.len
  have H4 := Lib.hid (And.intro (H3.out.1.below b4) (And.intro hb4 (And.intro ((H3.out.2.1.below b4).more b4.size) (H3.out.2.2.trans (b4.mono H3.out.2.2.size)))))
  clear h4 hn4 hb4 hf4 b4
  try dsimp only
  go_wp2_with fail
  have h5 := cafind_f w1.heap.size _ _ _ w4 H4.out.1 o a now
  have hsam : ∀ w9, Below w4.heap.size w4 w9 → Calls Try.prog 14 #[.slice A4 n4 c4, .slice A n4 c] w9 fun e w' => e = .returned (.bool true) ∧ Below w9.heap.size w9 w' := fun w9 hb9 =>
    (same_any A4 A n4 c4 n4 c l l w9 _ _ (H4.out.2.1.below hb9) (H4.out.2.2.1.below hb9) (by omega) (by omega)).mono (by
      rintro e w' ⟨rfl, m, rfl⟩
      exact ⟨by rw [decide_eq_true rfl], drewN_below _ _ m⟩)
  have hlen : ∀ w9, Below w4.heap.size w4 w9 → Calls Try.prog 15 #[.pointer (some ⟨w1.heap.size, 0, none⟩), .int .i64 now] w9 fun e w' => e = .returned (.int .i64 1) ∧ Below w9.heap.size w9 w' := fun w9 hb9 => by
    have := calen_f w1.heap.size _ _ _ w9 (H4.out.1.below hb9) now
    rw [cntQ_own] at this
    exact this
  have HS := Lib.hid (And.intro hsam hlen)
  clear hsam hlen
  by_cases hoa : o = fr ∧ a = id
  · obtain ⟨rfl, rfl⟩ := hoa
    rw [findQ_own] at h5
    refine h5.mono ?_
    rintro e w5 ⟨A5, n5, c5, rfl, hc5, hn5, hb5, hf5, b5⟩
    have H5 := Lib.hid b5
    clear h5 hn5 hb5 hf5 b5 hc5
    try dsimp only
    go_wp2_with (first
      | (go_at_call 14; refine (HS.out.1 _ H5.out).mono ?_; rintro e w6 ⟨rfl, b6⟩; have H6 := Lib.hid b6; clear b6)
      | (go_at_call 15; refine (HS.out.2 _ (H5.out.trans (H6.out.mono H5.out.size))).mono ?_; rintro e w7 ⟨rfl, b7⟩; have H7 := Lib.hid b7; clear b7))
    go_ret
    exact ⟨rfl, H4.out.2.2.2.trans ((H5.out.trans ((H6.out.trans (H7.out.mono H6.out.size)).mono H5.out.size)).mono H4.out.2.2.2.size)⟩
  · rw [findQ_not _ _ _ _ _ _ hoa] at h5
    refine h5.mono ?_
    rintro e w5 ⟨A5, n5, c5, rfl, hc5, hn5, hb5, hf5, b5⟩
    have H5 := Lib.hid b5
    clear h5 hn5 hb5 hf5 b5 hc5
    try dsimp only
    by_cases ho : o = fr
    · subst ho
      have ha : ¬ a = id := fun e => hoa ⟨rfl, e⟩
      have hab : (a == id) = false := beq_eq_false_iff_ne.2 ha
      have HA := Lib.hid hab
      clear hab
      go_wp2_with (first
        | (go_at_call 14; refine (HS.out.1 _ H5.out).mono ?_; rintro e w6 ⟨rfl, b6⟩; have H6 := Lib.hid b6; clear b6)
        | (go_at_call 15; refine (HS.out.2 _ (H5.out.trans (H6.out.mono H5.out.size))).mono ?_; rintro e w7 ⟨rfl, b7⟩; have H7 := Lib.hid b7; clear b7))
      go_ret
      exact ⟨(by show Ending.returned (.bool (!(a == id))) = _; rw [HA.out]; rfl), H4.out.2.2.2.trans ((H5.out.trans ((H6.out.trans (H7.out.mono H6.out.size)).mono H5.out.size)).mono H4.out.2.2.2.size)⟩
    · go_wp2_with (first
        | (go_at_call 14; refine (HS.out.1 _ H5.out).mono ?_; rintro e w6 ⟨rfl, b6⟩; have H6 := Lib.hid b6; clear b6)
        | (go_at_call 15; refine (HS.out.2 _ (H5.out.trans (H6.out.mono H5.out.size))).mono ?_; rintro e w7 ⟨rfl, b7⟩; have H7 := Lib.hid b7; clear b7))
      go_ret
      exact ⟨rfl, H4.out.2.2.2.trans ((H5.out.trans ((H6.out.trans (H7.out.mono H6.out.size)).mono H5.out.size)).mono H4.out.2.2.2.size)⟩
end Go.Proofs.Ytdlgemlpbpbhcaa
