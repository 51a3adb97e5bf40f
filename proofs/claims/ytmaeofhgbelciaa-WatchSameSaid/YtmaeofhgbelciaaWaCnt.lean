/-
  Whether a change counts.
-/
import Derived.Test.YtmaeofhgbelciaaWaDue
namespace Go.Proofs.Ytmaeofhgbelciaa
open Go.RowKit
set_option maxRecDepth 100000
set_option maxRecDepth 100000
set_option linter.unusedVariables false
set_option maxHeartbeats 8000000 in
theorem counts_f (c : Cq) (a b : Vq) (A1 A2 : Option Addr) (n1 c1 n2 c2 : Nat) (w : World) (ha : In64 a.n) (hb : In64 b.n) :
    Calls Try.prog 52 #[.agg c.vals.toArray, .agg (vvals a A1 n1 c1).toArray, .agg (vvals b A2 n2 c2).toArray] w fun e w' => e = .returned (.bool (countsQ c a b)) ∧ Below w.heap.size w w' := by
  have hi1 := fun W => isnum_f a A1 n1 c1 W
  have hi2 := fun W => isnum_f b A2 n2 c2 W
  have hap := fun W => apart_f a.n b.n W ha hb
  obtain ⟨ca, cb, cha, chb, cg, cl, cs, chg, chl, chs⟩ := c
  obtain ⟨k, m, s, l, o, i⟩ := a
  obtain ⟨k', m', s', l', o', i'⟩ := b
  dsimp only [vvals, Cq.vals, countsQ] at *
  obtain ⟨W, hW⟩ : ∃ W, ((w.alloc (.cells #[.int .i64 ca, .int .i64 cb, .bool cha, .bool chb, .int .i64 cg, .int .i64 cl, .int .i64 cs, .bool chg, .bool chl, .bool chs] 25)).alloc (.cells #[.int .i64 k, .int .i64 m, .string s, .slice A1 n1 c1, .int .i64 o, .int .i64 i] 34)).alloc (.cells #[.int .i64 k', .int .i64 m', .string s', .slice A2 n2 c2, .int .i64 o', .int .i64 i'] 34) = W := ⟨_, rfl⟩
  have hz : W.heap.size = w.heap.size + 3 := by rw [← hW, alloc_size, alloc_size, alloc_size]
  have hbW : Below w.heap.size w W := by rw [← hW]; exact ((alloc_below w _).alloc (by rw [alloc_size]; omega) _).alloc (by rw [alloc_size, alloc_size]; omega) _
  have r0 : W.rangeAt w.heap.size 0 [.int .i64 ca, .int .i64 cb, .bool cha, .bool chb, .int .i64 cg, .int .i64 cl, .int .i64 cs, .bool chg, .bool chl, .bool chs] := by
    have h1 := range_newV w #[.int .i64 ca, .int .i64 cb, .bool cha, .bool chb, .int .i64 cg, .int .i64 cl, .int .i64 cs, .bool chg, .bool chl, .bool chs] 25 rfl
    rw [← hW]
    exact range_below (range_below h1 (alloc_below (w.alloc _) _) (by rw [alloc_size]; omega)) (alloc_below ((w.alloc _).alloc _) _) (by rw [alloc_size, alloc_size]; omega)
  have r1 : W.rangeAt (w.heap.size + 1) 0 [.int .i64 k, .int .i64 m, .string s, .slice A1 n1 c1, .int .i64 o, .int .i64 i] := by
    have h1 := range_newV (w.alloc (.cells #[.int .i64 ca, .int .i64 cb, .bool cha, .bool chb, .int .i64 cg, .int .i64 cl, .int .i64 cs, .bool chg, .bool chl, .bool chs] 25)) #[.int .i64 k, .int .i64 m, .string s, .slice A1 n1 c1, .int .i64 o, .int .i64 i] 34 rfl
    rw [alloc_size] at h1
    rw [← hW]
    exact range_below h1 (alloc_below ((w.alloc _).alloc _) _) (by rw [alloc_size, alloc_size]; omega)
  have r2 : W.rangeAt (w.heap.size + 1 + 1) 0 [.int .i64 k', .int .i64 m', .string s', .slice A2 n2 c2, .int .i64 o', .int .i64 i'] := by
    have h1 := range_newV ((w.alloc (.cells #[.int .i64 ca, .int .i64 cb, .bool cha, .bool chb, .int .i64 cg, .int .i64 cl, .int .i64 cs, .bool chg, .bool chl, .bool chs] 25)).alloc (.cells #[.int .i64 k, .int .i64 m, .string s, .slice A1 n1 c1, .int .i64 o, .int .i64 i] 34)) #[.int .i64 k', .int .i64 m', .string s', .slice A2 n2 c2, .int .i64 o', .int .i64 i'] 34 rfl
    rw [alloc_size, alloc_size] at h1
    rw [← hW]
    exact h1
  have HR := Lib.hid (And.intro hz (And.intro hbW (And.intro r0 (And.intro r1 r2))))
  have HW := Lib.hid hW
  clear hz hbW r0 r1 r2 hW ha hb
  obtain ⟨q1, hq1⟩ : ∃ q, numK k = q := ⟨_, rfl⟩
  obtain ⟨q2, hq2⟩ : ∃ q, numK k' = q := ⟨_, rfl⟩
  obtain ⟨ap, hap2⟩ : ∃ q, apartQ m m' = q := ⟨_, rfl⟩
  obtain ⟨y1, hy1⟩ : ∃ x, (decide (cg < m) == decide (cg < m')) = x := ⟨_, rfl⟩
  obtain ⟨y2, hy2⟩ : ∃ x, (decide (m < cl) == decide (m' < cl)) = x := ⟨_, rfl⟩
  obtain ⟨x3, hx3⟩ : ∃ x, decide (cs ≤ ap) = x := ⟨_, rfl⟩
  rw [hq1] at hi1
  rw [hq2] at hi2
  rw [hap2] at hap
  rw [hq1, hq2, hap2]
  simp only [gt_iff_lt, ge_iff_le, bne, hy1, hy2, hx3]
  obtain ⟨RR, hRR⟩ : ∃ RR : Bool, (if (chg = false ∧ chl = false ∧ chs = false) ∨ q1 = false ∨ q2 = false then true else (chg && !y1) || ((chl && !y2) || (chs && x3))) = RR := ⟨_, rfl⟩
  rw [hRR]
  have HC := Lib.hid (And.intro hi1 (And.intro hi2 hap))
  clear hi1 hi2 hap hq1 hq2 hap2
  cases chg with
  | true =>
    cases q1 with
    | false =>
      obtain rfl : RR = true := by rw [← hRR]; simp
      clear hRR
      go_enter Try.func52, Try.ntmps52
      go_wp2_with fail
      rw [HW.out]
      refine (HC.out.1 _).mono ?_
      rintro e w2 ⟨rfl, b2⟩
      have hz2 : w.heap.size + 3 ≤ w2.heap.size := by have := b2.size; rw [HR.out.1] at this; exact this
      have rB := range_below HR.out.2.2.2.2 b2 (by rw [HR.out.1]; omega)
      have d0 := rB 0 _ rfl
      have d1 := rB 1 _ rfl
      have d2 := rB 2 _ rfl
      have d3 := rB 3 _ rfl
      have d4 := rB 4 _ rfl
      have d5 := rB 5 _ rfl
      rw [Nat.zero_add] at d0 d1 d2 d3 d4 d5
      have H2 := Lib.hid (And.intro b2 hz2)
      clear b2 hz2 rB
      try dsimp only
      go_wp2
      go_ret
      exact ⟨rfl, HR.out.2.1.trans (H2.out.1.mono HR.out.2.1.size)⟩
    | true =>
      cases q2 with
      | false =>
        obtain rfl : RR = true := by rw [← hRR]; simp
        clear hRR
        go_enter Try.func52, Try.ntmps52
        go_wp2_with fail
        rw [HW.out]
        refine (HC.out.1 _).mono ?_
        rintro e w2 ⟨rfl, b2⟩
        have hz2 : w.heap.size + 3 ≤ w2.heap.size := by have := b2.size; rw [HR.out.1] at this; exact this
        have rB := range_below HR.out.2.2.2.2 b2 (by rw [HR.out.1]; omega)
        have d0 := rB 0 _ rfl
        have d1 := rB 1 _ rfl
        have d2 := rB 2 _ rfl
        have d3 := rB 3 _ rfl
        have d4 := rB 4 _ rfl
        have d5 := rB 5 _ rfl
        rw [Nat.zero_add] at d0 d1 d2 d3 d4 d5
        have H2 := Lib.hid (And.intro b2 hz2)
        clear b2 hz2 rB
        try dsimp only
        go_wp2_with fail
        refine (HC.out.2.1 _).mono ?_
        rintro e w3 ⟨rfl, b3⟩
        clear d0 d1 d2 d3 d4 d5
        have rB := range_below (range_below HR.out.2.2.2.2 H2.out.1 (by rw [HR.out.1]; omega)) b3 (by have := H2.out.2; omega)
        have rA := range_below (range_below HR.out.2.2.2.1 H2.out.1 (by rw [HR.out.1]; omega)) b3 (by have := H2.out.2; omega)
        have rC := range_below (range_below HR.out.2.2.1 H2.out.1 (by rw [HR.out.1]; omega)) b3 (by have := H2.out.2; omega)
        have d1 := rB 1 _ rfl
        have e1 := rA 1 _ rfl
        have f4 := rC 4 _ rfl
        have f5 := rC 5 _ rfl
        have f6 := rC 6 _ rfl
        have f7 := rC 7 _ rfl
        have f8 := rC 8 _ rfl
        have f9 := rC 9 _ rfl
        rw [Nat.zero_add] at d1 e1 f4 f5 f6 f7 f8 f9
        have H3 := Lib.hid (HR.out.2.1.trans ((H2.out.1.trans (b3.mono H2.out.1.size)).mono HR.out.2.1.size))
        clear b3 rA rB rC
        try dsimp only
        go_wp2
        go_ret
        exact ⟨rfl, H3.out⟩
      | true =>
        cases y1 with
        | false =>
          obtain rfl : RR = true := by rw [← hRR]; simp
          clear hRR
          go_enter Try.func52, Try.ntmps52
          go_wp2_with fail
          rw [HW.out]
          refine (HC.out.1 _).mono ?_
          rintro e w2 ⟨rfl, b2⟩
          have hz2 : w.heap.size + 3 ≤ w2.heap.size := by have := b2.size; rw [HR.out.1] at this; exact this
          have rB := range_below HR.out.2.2.2.2 b2 (by rw [HR.out.1]; omega)
          have d0 := rB 0 _ rfl
          have d1 := rB 1 _ rfl
          have d2 := rB 2 _ rfl
          have d3 := rB 3 _ rfl
          have d4 := rB 4 _ rfl
          have d5 := rB 5 _ rfl
          rw [Nat.zero_add] at d0 d1 d2 d3 d4 d5
          have H2 := Lib.hid (And.intro b2 hz2)
          clear b2 hz2 rB
          try dsimp only
          go_wp2_with fail
          refine (HC.out.2.1 _).mono ?_
          rintro e w3 ⟨rfl, b3⟩
          clear d0 d1 d2 d3 d4 d5
          have rB := range_below (range_below HR.out.2.2.2.2 H2.out.1 (by rw [HR.out.1]; omega)) b3 (by have := H2.out.2; omega)
          have rA := range_below (range_below HR.out.2.2.2.1 H2.out.1 (by rw [HR.out.1]; omega)) b3 (by have := H2.out.2; omega)
          have rC := range_below (range_below HR.out.2.2.1 H2.out.1 (by rw [HR.out.1]; omega)) b3 (by have := H2.out.2; omega)
          have d1 := rB 1 _ rfl
          have e1 := rA 1 _ rfl
          have f4 := rC 4 _ rfl
          have f5 := rC 5 _ rfl
          have f6 := rC 6 _ rfl
          have f7 := rC 7 _ rfl
          have f8 := rC 8 _ rfl
          have f9 := rC 9 _ rfl
          rw [Nat.zero_add] at d1 e1 f4 f5 f6 f7 f8 f9
          have H3 := Lib.hid (HR.out.2.1.trans ((H2.out.1.trans (b3.mono H2.out.1.size)).mono HR.out.2.1.size))
          clear b3 rA rB rC
          try dsimp only
          go_wp2
          go_quiet ((go_at_call 60; exact Calls.quiet_of_same (HC.out.2.2 _)))
          go_wp2
          go_ret
          exact ⟨rfl, H3.out.trans (drewN_below _ _ _)⟩
        | true =>
          cases chl with
          | false =>
            cases chs with
            | false =>
              obtain rfl : RR = false := by rw [← hRR]; simp
              clear hRR
              go_enter Try.func52, Try.ntmps52
              go_wp2_with fail
              rw [HW.out]
              refine (HC.out.1 _).mono ?_
              rintro e w2 ⟨rfl, b2⟩
              have hz2 : w.heap.size + 3 ≤ w2.heap.size := by have := b2.size; rw [HR.out.1] at this; exact this
              have rB := range_below HR.out.2.2.2.2 b2 (by rw [HR.out.1]; omega)
              have d0 := rB 0 _ rfl
              have d1 := rB 1 _ rfl
              have d2 := rB 2 _ rfl
              have d3 := rB 3 _ rfl
              have d4 := rB 4 _ rfl
              have d5 := rB 5 _ rfl
              rw [Nat.zero_add] at d0 d1 d2 d3 d4 d5
              have H2 := Lib.hid (And.intro b2 hz2)
              clear b2 hz2 rB
              try dsimp only
              go_wp2_with fail
              refine (HC.out.2.1 _).mono ?_
              rintro e w3 ⟨rfl, b3⟩
              clear d0 d1 d2 d3 d4 d5
              have rB := range_below (range_below HR.out.2.2.2.2 H2.out.1 (by rw [HR.out.1]; omega)) b3 (by have := H2.out.2; omega)
              have rA := range_below (range_below HR.out.2.2.2.1 H2.out.1 (by rw [HR.out.1]; omega)) b3 (by have := H2.out.2; omega)
              have rC := range_below (range_below HR.out.2.2.1 H2.out.1 (by rw [HR.out.1]; omega)) b3 (by have := H2.out.2; omega)
              have d1 := rB 1 _ rfl
              have e1 := rA 1 _ rfl
              have f4 := rC 4 _ rfl
              have f5 := rC 5 _ rfl
              have f6 := rC 6 _ rfl
              have f7 := rC 7 _ rfl
              have f8 := rC 8 _ rfl
              have f9 := rC 9 _ rfl
              rw [Nat.zero_add] at d1 e1 f4 f5 f6 f7 f8 f9
              have H3 := Lib.hid (HR.out.2.1.trans ((H2.out.1.trans (b3.mono H2.out.1.size)).mono HR.out.2.1.size))
              clear b3 rA rB rC
              try dsimp only
              go_wp2
              go_quiet ((go_at_call 60; exact Calls.quiet_of_same (HC.out.2.2 _)))
              go_wp2
              go_ret
              exact ⟨rfl, H3.out.trans (drewN_below _ _ _)⟩
            | true =>
              cases x3 with
              | false =>
                obtain rfl : RR = false := by rw [← hRR]; simp
                clear hRR
                go_enter Try.func52, Try.ntmps52
                go_wp2_with fail
                rw [HW.out]
                refine (HC.out.1 _).mono ?_
                rintro e w2 ⟨rfl, b2⟩
                have hz2 : w.heap.size + 3 ≤ w2.heap.size := by have := b2.size; rw [HR.out.1] at this; exact this
                have rB := range_below HR.out.2.2.2.2 b2 (by rw [HR.out.1]; omega)
                have d0 := rB 0 _ rfl
                have d1 := rB 1 _ rfl
                have d2 := rB 2 _ rfl
                have d3 := rB 3 _ rfl
                have d4 := rB 4 _ rfl
                have d5 := rB 5 _ rfl
                rw [Nat.zero_add] at d0 d1 d2 d3 d4 d5
                have H2 := Lib.hid (And.intro b2 hz2)
                clear b2 hz2 rB
                try dsimp only
                go_wp2_with fail
                refine (HC.out.2.1 _).mono ?_
                rintro e w3 ⟨rfl, b3⟩
                clear d0 d1 d2 d3 d4 d5
                have rB := range_below (range_below HR.out.2.2.2.2 H2.out.1 (by rw [HR.out.1]; omega)) b3 (by have := H2.out.2; omega)
                have rA := range_below (range_below HR.out.2.2.2.1 H2.out.1 (by rw [HR.out.1]; omega)) b3 (by have := H2.out.2; omega)
                have rC := range_below (range_below HR.out.2.2.1 H2.out.1 (by rw [HR.out.1]; omega)) b3 (by have := H2.out.2; omega)
                have d1 := rB 1 _ rfl
                have e1 := rA 1 _ rfl
                have f4 := rC 4 _ rfl
                have f5 := rC 5 _ rfl
                have f6 := rC 6 _ rfl
                have f7 := rC 7 _ rfl
                have f8 := rC 8 _ rfl
                have f9 := rC 9 _ rfl
                rw [Nat.zero_add] at d1 e1 f4 f5 f6 f7 f8 f9
                have H3 := Lib.hid (HR.out.2.1.trans ((H2.out.1.trans (b3.mono H2.out.1.size)).mono HR.out.2.1.size))
                clear b3 rA rB rC
                try dsimp only
                go_wp2
                go_quiet ((go_at_call 60; exact Calls.quiet_of_same (HC.out.2.2 _)))
                go_wp2
                go_ret
                exact ⟨rfl, H3.out.trans (drewN_below _ _ _)⟩
              | true =>
                obtain rfl : RR = true := by rw [← hRR]; simp
                clear hRR
                go_enter Try.func52, Try.ntmps52
                go_wp2_with fail
                rw [HW.out]
                refine (HC.out.1 _).mono ?_
                rintro e w2 ⟨rfl, b2⟩
                have hz2 : w.heap.size + 3 ≤ w2.heap.size := by have := b2.size; rw [HR.out.1] at this; exact this
                have rB := range_below HR.out.2.2.2.2 b2 (by rw [HR.out.1]; omega)
                have d0 := rB 0 _ rfl
                have d1 := rB 1 _ rfl
                have d2 := rB 2 _ rfl
                have d3 := rB 3 _ rfl
                have d4 := rB 4 _ rfl
                have d5 := rB 5 _ rfl
                rw [Nat.zero_add] at d0 d1 d2 d3 d4 d5
                have H2 := Lib.hid (And.intro b2 hz2)
                clear b2 hz2 rB
                try dsimp only
                go_wp2_with fail
                refine (HC.out.2.1 _).mono ?_
                rintro e w3 ⟨rfl, b3⟩
                clear d0 d1 d2 d3 d4 d5
                have rB := range_below (range_below HR.out.2.2.2.2 H2.out.1 (by rw [HR.out.1]; omega)) b3 (by have := H2.out.2; omega)
                have rA := range_below (range_below HR.out.2.2.2.1 H2.out.1 (by rw [HR.out.1]; omega)) b3 (by have := H2.out.2; omega)
                have rC := range_below (range_below HR.out.2.2.1 H2.out.1 (by rw [HR.out.1]; omega)) b3 (by have := H2.out.2; omega)
                have d1 := rB 1 _ rfl
                have e1 := rA 1 _ rfl
                have f4 := rC 4 _ rfl
                have f5 := rC 5 _ rfl
                have f6 := rC 6 _ rfl
                have f7 := rC 7 _ rfl
                have f8 := rC 8 _ rfl
                have f9 := rC 9 _ rfl
                rw [Nat.zero_add] at d1 e1 f4 f5 f6 f7 f8 f9
                have H3 := Lib.hid (HR.out.2.1.trans ((H2.out.1.trans (b3.mono H2.out.1.size)).mono HR.out.2.1.size))
                clear b3 rA rB rC
                try dsimp only
                go_wp2
                go_quiet ((go_at_call 60; exact Calls.quiet_of_same (HC.out.2.2 _)))
                go_wp2
                go_ret
                exact ⟨rfl, H3.out.trans (drewN_below _ _ _)⟩
          | true =>
            cases y2 with
            | false =>
              obtain rfl : RR = true := by rw [← hRR]; simp
              clear hRR
              go_enter Try.func52, Try.ntmps52
              go_wp2_with fail
              rw [HW.out]
              refine (HC.out.1 _).mono ?_
              rintro e w2 ⟨rfl, b2⟩
              have hz2 : w.heap.size + 3 ≤ w2.heap.size := by have := b2.size; rw [HR.out.1] at this; exact this
              have rB := range_below HR.out.2.2.2.2 b2 (by rw [HR.out.1]; omega)
              have d0 := rB 0 _ rfl
              have d1 := rB 1 _ rfl
              have d2 := rB 2 _ rfl
              have d3 := rB 3 _ rfl
              have d4 := rB 4 _ rfl
              have d5 := rB 5 _ rfl
              rw [Nat.zero_add] at d0 d1 d2 d3 d4 d5
              have H2 := Lib.hid (And.intro b2 hz2)
              clear b2 hz2 rB
              try dsimp only
              go_wp2_with fail
              refine (HC.out.2.1 _).mono ?_
              rintro e w3 ⟨rfl, b3⟩
              clear d0 d1 d2 d3 d4 d5
              have rB := range_below (range_below HR.out.2.2.2.2 H2.out.1 (by rw [HR.out.1]; omega)) b3 (by have := H2.out.2; omega)
              have rA := range_below (range_below HR.out.2.2.2.1 H2.out.1 (by rw [HR.out.1]; omega)) b3 (by have := H2.out.2; omega)
              have rC := range_below (range_below HR.out.2.2.1 H2.out.1 (by rw [HR.out.1]; omega)) b3 (by have := H2.out.2; omega)
              have d1 := rB 1 _ rfl
              have e1 := rA 1 _ rfl
              have f4 := rC 4 _ rfl
              have f5 := rC 5 _ rfl
              have f6 := rC 6 _ rfl
              have f7 := rC 7 _ rfl
              have f8 := rC 8 _ rfl
              have f9 := rC 9 _ rfl
              rw [Nat.zero_add] at d1 e1 f4 f5 f6 f7 f8 f9
              have H3 := Lib.hid (HR.out.2.1.trans ((H2.out.1.trans (b3.mono H2.out.1.size)).mono HR.out.2.1.size))
              clear b3 rA rB rC
              try dsimp only
              go_wp2
              go_quiet ((go_at_call 60; exact Calls.quiet_of_same (HC.out.2.2 _)))
              go_wp2
              go_ret
              exact ⟨rfl, H3.out.trans (drewN_below _ _ _)⟩
            | true =>
              cases chs with
              | false =>
                obtain rfl : RR = false := by rw [← hRR]; simp
                clear hRR
                go_enter Try.func52, Try.ntmps52
                go_wp2_with fail
                rw [HW.out]
                refine (HC.out.1 _).mono ?_
                rintro e w2 ⟨rfl, b2⟩
                have hz2 : w.heap.size + 3 ≤ w2.heap.size := by have := b2.size; rw [HR.out.1] at this; exact this
                have rB := range_below HR.out.2.2.2.2 b2 (by rw [HR.out.1]; omega)
                have d0 := rB 0 _ rfl
                have d1 := rB 1 _ rfl
                have d2 := rB 2 _ rfl
                have d3 := rB 3 _ rfl
                have d4 := rB 4 _ rfl
                have d5 := rB 5 _ rfl
                rw [Nat.zero_add] at d0 d1 d2 d3 d4 d5
                have H2 := Lib.hid (And.intro b2 hz2)
                clear b2 hz2 rB
                try dsimp only
                go_wp2_with fail
                refine (HC.out.2.1 _).mono ?_
                rintro e w3 ⟨rfl, b3⟩
                clear d0 d1 d2 d3 d4 d5
                have rB := range_below (range_below HR.out.2.2.2.2 H2.out.1 (by rw [HR.out.1]; omega)) b3 (by have := H2.out.2; omega)
                have rA := range_below (range_below HR.out.2.2.2.1 H2.out.1 (by rw [HR.out.1]; omega)) b3 (by have := H2.out.2; omega)
                have rC := range_below (range_below HR.out.2.2.1 H2.out.1 (by rw [HR.out.1]; omega)) b3 (by have := H2.out.2; omega)
                have d1 := rB 1 _ rfl
                have e1 := rA 1 _ rfl
                have f4 := rC 4 _ rfl
                have f5 := rC 5 _ rfl
                have f6 := rC 6 _ rfl
                have f7 := rC 7 _ rfl
                have f8 := rC 8 _ rfl
                have f9 := rC 9 _ rfl
                rw [Nat.zero_add] at d1 e1 f4 f5 f6 f7 f8 f9
                have H3 := Lib.hid (HR.out.2.1.trans ((H2.out.1.trans (b3.mono H2.out.1.size)).mono HR.out.2.1.size))
                clear b3 rA rB rC
                try dsimp only
                go_wp2
                go_quiet ((go_at_call 60; exact Calls.quiet_of_same (HC.out.2.2 _)))
                go_wp2
                go_ret
                exact ⟨rfl, H3.out.trans (drewN_below _ _ _)⟩
              | true =>
                cases x3 with
                | false =>
                  obtain rfl : RR = false := by rw [← hRR]; simp
                  clear hRR
                  go_enter Try.func52, Try.ntmps52
                  go_wp2_with fail
                  rw [HW.out]
                  refine (HC.out.1 _).mono ?_
                  rintro e w2 ⟨rfl, b2⟩
                  have hz2 : w.heap.size + 3 ≤ w2.heap.size := by have := b2.size; rw [HR.out.1] at this; exact this
                  have rB := range_below HR.out.2.2.2.2 b2 (by rw [HR.out.1]; omega)
                  have d0 := rB 0 _ rfl
                  have d1 := rB 1 _ rfl
                  have d2 := rB 2 _ rfl
                  have d3 := rB 3 _ rfl
                  have d4 := rB 4 _ rfl
                  have d5 := rB 5 _ rfl
                  rw [Nat.zero_add] at d0 d1 d2 d3 d4 d5
                  have H2 := Lib.hid (And.intro b2 hz2)
                  clear b2 hz2 rB
                  try dsimp only
                  go_wp2_with fail
                  refine (HC.out.2.1 _).mono ?_
                  rintro e w3 ⟨rfl, b3⟩
                  clear d0 d1 d2 d3 d4 d5
                  have rB := range_below (range_below HR.out.2.2.2.2 H2.out.1 (by rw [HR.out.1]; omega)) b3 (by have := H2.out.2; omega)
                  have rA := range_below (range_below HR.out.2.2.2.1 H2.out.1 (by rw [HR.out.1]; omega)) b3 (by have := H2.out.2; omega)
                  have rC := range_below (range_below HR.out.2.2.1 H2.out.1 (by rw [HR.out.1]; omega)) b3 (by have := H2.out.2; omega)
                  have d1 := rB 1 _ rfl
                  have e1 := rA 1 _ rfl
                  have f4 := rC 4 _ rfl
                  have f5 := rC 5 _ rfl
                  have f6 := rC 6 _ rfl
                  have f7 := rC 7 _ rfl
                  have f8 := rC 8 _ rfl
                  have f9 := rC 9 _ rfl
                  rw [Nat.zero_add] at d1 e1 f4 f5 f6 f7 f8 f9
                  have H3 := Lib.hid (HR.out.2.1.trans ((H2.out.1.trans (b3.mono H2.out.1.size)).mono HR.out.2.1.size))
                  clear b3 rA rB rC
                  try dsimp only
                  go_wp2
                  go_quiet ((go_at_call 60; exact Calls.quiet_of_same (HC.out.2.2 _)))
                  go_wp2
                  go_ret
                  exact ⟨rfl, H3.out.trans (drewN_below _ _ _)⟩
                | true =>
                  obtain rfl : RR = true := by rw [← hRR]; simp
                  clear hRR
                  go_enter Try.func52, Try.ntmps52
                  go_wp2_with fail
                  rw [HW.out]
                  refine (HC.out.1 _).mono ?_
                  rintro e w2 ⟨rfl, b2⟩
                  have hz2 : w.heap.size + 3 ≤ w2.heap.size := by have := b2.size; rw [HR.out.1] at this; exact this
                  have rB := range_below HR.out.2.2.2.2 b2 (by rw [HR.out.1]; omega)
                  have d0 := rB 0 _ rfl
                  have d1 := rB 1 _ rfl
                  have d2 := rB 2 _ rfl
                  have d3 := rB 3 _ rfl
                  have d4 := rB 4 _ rfl
                  have d5 := rB 5 _ rfl
                  rw [Nat.zero_add] at d0 d1 d2 d3 d4 d5
                  have H2 := Lib.hid (And.intro b2 hz2)
                  clear b2 hz2 rB
                  try dsimp only
                  go_wp2_with fail
                  refine (HC.out.2.1 _).mono ?_
                  rintro e w3 ⟨rfl, b3⟩
                  clear d0 d1 d2 d3 d4 d5
                  have rB := range_below (range_below HR.out.2.2.2.2 H2.out.1 (by rw [HR.out.1]; omega)) b3 (by have := H2.out.2; omega)
                  have rA := range_below (range_below HR.out.2.2.2.1 H2.out.1 (by rw [HR.out.1]; omega)) b3 (by have := H2.out.2; omega)
                  have rC := range_below (range_below HR.out.2.2.1 H2.out.1 (by rw [HR.out.1]; omega)) b3 (by have := H2.out.2; omega)
                  have d1 := rB 1 _ rfl
                  have e1 := rA 1 _ rfl
                  have f4 := rC 4 _ rfl
                  have f5 := rC 5 _ rfl
                  have f6 := rC 6 _ rfl
                  have f7 := rC 7 _ rfl
                  have f8 := rC 8 _ rfl
                  have f9 := rC 9 _ rfl
                  rw [Nat.zero_add] at d1 e1 f4 f5 f6 f7 f8 f9
                  have H3 := Lib.hid (HR.out.2.1.trans ((H2.out.1.trans (b3.mono H2.out.1.size)).mono HR.out.2.1.size))
                  clear b3 rA rB rC
                  try dsimp only
                  go_wp2
                  go_quiet ((go_at_call 60; exact Calls.quiet_of_same (HC.out.2.2 _)))
                  go_wp2
                  go_ret
                  exact ⟨rfl, H3.out.trans (drewN_below _ _ _)⟩
  | false =>
    cases chl with
    | true =>
      cases q1 with
      | false =>
        obtain rfl : RR = true := by rw [← hRR]; simp
        clear hRR
        go_enter Try.func52, Try.ntmps52
        go_wp2_with fail
        rw [HW.out]
        refine (HC.out.1 _).mono ?_
        rintro e w2 ⟨rfl, b2⟩
        have hz2 : w.heap.size + 3 ≤ w2.heap.size := by have := b2.size; rw [HR.out.1] at this; exact this
        have rB := range_below HR.out.2.2.2.2 b2 (by rw [HR.out.1]; omega)
        have d0 := rB 0 _ rfl
        have d1 := rB 1 _ rfl
        have d2 := rB 2 _ rfl
        have d3 := rB 3 _ rfl
        have d4 := rB 4 _ rfl
        have d5 := rB 5 _ rfl
        rw [Nat.zero_add] at d0 d1 d2 d3 d4 d5
        have H2 := Lib.hid (And.intro b2 hz2)
        clear b2 hz2 rB
        try dsimp only
        go_wp2
        go_ret
        exact ⟨rfl, HR.out.2.1.trans (H2.out.1.mono HR.out.2.1.size)⟩
      | true =>
        cases q2 with
        | false =>
          obtain rfl : RR = true := by rw [← hRR]; simp
          clear hRR
          go_enter Try.func52, Try.ntmps52
          go_wp2_with fail
          rw [HW.out]
          refine (HC.out.1 _).mono ?_
          rintro e w2 ⟨rfl, b2⟩
          have hz2 : w.heap.size + 3 ≤ w2.heap.size := by have := b2.size; rw [HR.out.1] at this; exact this
          have rB := range_below HR.out.2.2.2.2 b2 (by rw [HR.out.1]; omega)
          have d0 := rB 0 _ rfl
          have d1 := rB 1 _ rfl
          have d2 := rB 2 _ rfl
          have d3 := rB 3 _ rfl
          have d4 := rB 4 _ rfl
          have d5 := rB 5 _ rfl
          rw [Nat.zero_add] at d0 d1 d2 d3 d4 d5
          have H2 := Lib.hid (And.intro b2 hz2)
          clear b2 hz2 rB
          try dsimp only
          go_wp2_with fail
          refine (HC.out.2.1 _).mono ?_
          rintro e w3 ⟨rfl, b3⟩
          clear d0 d1 d2 d3 d4 d5
          have rB := range_below (range_below HR.out.2.2.2.2 H2.out.1 (by rw [HR.out.1]; omega)) b3 (by have := H2.out.2; omega)
          have rA := range_below (range_below HR.out.2.2.2.1 H2.out.1 (by rw [HR.out.1]; omega)) b3 (by have := H2.out.2; omega)
          have rC := range_below (range_below HR.out.2.2.1 H2.out.1 (by rw [HR.out.1]; omega)) b3 (by have := H2.out.2; omega)
          have d1 := rB 1 _ rfl
          have e1 := rA 1 _ rfl
          have f4 := rC 4 _ rfl
          have f5 := rC 5 _ rfl
          have f6 := rC 6 _ rfl
          have f7 := rC 7 _ rfl
          have f8 := rC 8 _ rfl
          have f9 := rC 9 _ rfl
          rw [Nat.zero_add] at d1 e1 f4 f5 f6 f7 f8 f9
          have H3 := Lib.hid (HR.out.2.1.trans ((H2.out.1.trans (b3.mono H2.out.1.size)).mono HR.out.2.1.size))
          clear b3 rA rB rC
          try dsimp only
          go_wp2
          go_ret
          exact ⟨rfl, H3.out⟩
        | true =>
          cases y2 with
          | false =>
            obtain rfl : RR = true := by rw [← hRR]; simp
            clear hRR
            go_enter Try.func52, Try.ntmps52
            go_wp2_with fail
            rw [HW.out]
            refine (HC.out.1 _).mono ?_
            rintro e w2 ⟨rfl, b2⟩
            have hz2 : w.heap.size + 3 ≤ w2.heap.size := by have := b2.size; rw [HR.out.1] at this; exact this
            have rB := range_below HR.out.2.2.2.2 b2 (by rw [HR.out.1]; omega)
            have d0 := rB 0 _ rfl
            have d1 := rB 1 _ rfl
            have d2 := rB 2 _ rfl
            have d3 := rB 3 _ rfl
            have d4 := rB 4 _ rfl
            have d5 := rB 5 _ rfl
            rw [Nat.zero_add] at d0 d1 d2 d3 d4 d5
            have H2 := Lib.hid (And.intro b2 hz2)
            clear b2 hz2 rB
            try dsimp only
            go_wp2_with fail
            refine (HC.out.2.1 _).mono ?_
            rintro e w3 ⟨rfl, b3⟩
            clear d0 d1 d2 d3 d4 d5
            have rB := range_below (range_below HR.out.2.2.2.2 H2.out.1 (by rw [HR.out.1]; omega)) b3 (by have := H2.out.2; omega)
            have rA := range_below (range_below HR.out.2.2.2.1 H2.out.1 (by rw [HR.out.1]; omega)) b3 (by have := H2.out.2; omega)
            have rC := range_below (range_below HR.out.2.2.1 H2.out.1 (by rw [HR.out.1]; omega)) b3 (by have := H2.out.2; omega)
            have d1 := rB 1 _ rfl
            have e1 := rA 1 _ rfl
            have f4 := rC 4 _ rfl
            have f5 := rC 5 _ rfl
            have f6 := rC 6 _ rfl
            have f7 := rC 7 _ rfl
            have f8 := rC 8 _ rfl
            have f9 := rC 9 _ rfl
            rw [Nat.zero_add] at d1 e1 f4 f5 f6 f7 f8 f9
            have H3 := Lib.hid (HR.out.2.1.trans ((H2.out.1.trans (b3.mono H2.out.1.size)).mono HR.out.2.1.size))
            clear b3 rA rB rC
            try dsimp only
            go_wp2
            go_quiet ((go_at_call 60; exact Calls.quiet_of_same (HC.out.2.2 _)))
            go_wp2
            go_ret
            exact ⟨rfl, H3.out.trans (drewN_below _ _ _)⟩
          | true =>
            cases chs with
            | false =>
              obtain rfl : RR = false := by rw [← hRR]; simp
              clear hRR
              go_enter Try.func52, Try.ntmps52
              go_wp2_with fail
              rw [HW.out]
              refine (HC.out.1 _).mono ?_
              rintro e w2 ⟨rfl, b2⟩
              have hz2 : w.heap.size + 3 ≤ w2.heap.size := by have := b2.size; rw [HR.out.1] at this; exact this
              have rB := range_below HR.out.2.2.2.2 b2 (by rw [HR.out.1]; omega)
              have d0 := rB 0 _ rfl
              have d1 := rB 1 _ rfl
              have d2 := rB 2 _ rfl
              have d3 := rB 3 _ rfl
              have d4 := rB 4 _ rfl
              have d5 := rB 5 _ rfl
              rw [Nat.zero_add] at d0 d1 d2 d3 d4 d5
              have H2 := Lib.hid (And.intro b2 hz2)
              clear b2 hz2 rB
              try dsimp only
              go_wp2_with fail
              refine (HC.out.2.1 _).mono ?_
              rintro e w3 ⟨rfl, b3⟩
              clear d0 d1 d2 d3 d4 d5
              have rB := range_below (range_below HR.out.2.2.2.2 H2.out.1 (by rw [HR.out.1]; omega)) b3 (by have := H2.out.2; omega)
              have rA := range_below (range_below HR.out.2.2.2.1 H2.out.1 (by rw [HR.out.1]; omega)) b3 (by have := H2.out.2; omega)
              have rC := range_below (range_below HR.out.2.2.1 H2.out.1 (by rw [HR.out.1]; omega)) b3 (by have := H2.out.2; omega)
              have d1 := rB 1 _ rfl
              have e1 := rA 1 _ rfl
              have f4 := rC 4 _ rfl
              have f5 := rC 5 _ rfl
              have f6 := rC 6 _ rfl
              have f7 := rC 7 _ rfl
              have f8 := rC 8 _ rfl
              have f9 := rC 9 _ rfl
              rw [Nat.zero_add] at d1 e1 f4 f5 f6 f7 f8 f9
              have H3 := Lib.hid (HR.out.2.1.trans ((H2.out.1.trans (b3.mono H2.out.1.size)).mono HR.out.2.1.size))
              clear b3 rA rB rC
              try dsimp only
              go_wp2
              go_quiet ((go_at_call 60; exact Calls.quiet_of_same (HC.out.2.2 _)))
              go_wp2
              go_ret
              exact ⟨rfl, H3.out.trans (drewN_below _ _ _)⟩
            | true =>
              cases x3 with
              | false =>
                obtain rfl : RR = false := by rw [← hRR]; simp
                clear hRR
                go_enter Try.func52, Try.ntmps52
                go_wp2_with fail
                rw [HW.out]
                refine (HC.out.1 _).mono ?_
                rintro e w2 ⟨rfl, b2⟩
                have hz2 : w.heap.size + 3 ≤ w2.heap.size := by have := b2.size; rw [HR.out.1] at this; exact this
                have rB := range_below HR.out.2.2.2.2 b2 (by rw [HR.out.1]; omega)
                have d0 := rB 0 _ rfl
                have d1 := rB 1 _ rfl
                have d2 := rB 2 _ rfl
                have d3 := rB 3 _ rfl
                have d4 := rB 4 _ rfl
                have d5 := rB 5 _ rfl
                rw [Nat.zero_add] at d0 d1 d2 d3 d4 d5
                have H2 := Lib.hid (And.intro b2 hz2)
                clear b2 hz2 rB
                try dsimp only
                go_wp2_with fail
                refine (HC.out.2.1 _).mono ?_
                rintro e w3 ⟨rfl, b3⟩
                clear d0 d1 d2 d3 d4 d5
                have rB := range_below (range_below HR.out.2.2.2.2 H2.out.1 (by rw [HR.out.1]; omega)) b3 (by have := H2.out.2; omega)
                have rA := range_below (range_below HR.out.2.2.2.1 H2.out.1 (by rw [HR.out.1]; omega)) b3 (by have := H2.out.2; omega)
                have rC := range_below (range_below HR.out.2.2.1 H2.out.1 (by rw [HR.out.1]; omega)) b3 (by have := H2.out.2; omega)
                have d1 := rB 1 _ rfl
                have e1 := rA 1 _ rfl
                have f4 := rC 4 _ rfl
                have f5 := rC 5 _ rfl
                have f6 := rC 6 _ rfl
                have f7 := rC 7 _ rfl
                have f8 := rC 8 _ rfl
                have f9 := rC 9 _ rfl
                rw [Nat.zero_add] at d1 e1 f4 f5 f6 f7 f8 f9
                have H3 := Lib.hid (HR.out.2.1.trans ((H2.out.1.trans (b3.mono H2.out.1.size)).mono HR.out.2.1.size))
                clear b3 rA rB rC
                try dsimp only
                go_wp2
                go_quiet ((go_at_call 60; exact Calls.quiet_of_same (HC.out.2.2 _)))
                go_wp2
                go_ret
                exact ⟨rfl, H3.out.trans (drewN_below _ _ _)⟩
              | true =>
                obtain rfl : RR = true := by rw [← hRR]; simp
                clear hRR
                go_enter Try.func52, Try.ntmps52
                go_wp2_with fail
                rw [HW.out]
                refine (HC.out.1 _).mono ?_
                rintro e w2 ⟨rfl, b2⟩
                have hz2 : w.heap.size + 3 ≤ w2.heap.size := by have := b2.size; rw [HR.out.1] at this; exact this
                have rB := range_below HR.out.2.2.2.2 b2 (by rw [HR.out.1]; omega)
                have d0 := rB 0 _ rfl
                have d1 := rB 1 _ rfl
                have d2 := rB 2 _ rfl
                have d3 := rB 3 _ rfl
                have d4 := rB 4 _ rfl
                have d5 := rB 5 _ rfl
                rw [Nat.zero_add] at d0 d1 d2 d3 d4 d5
                have H2 := Lib.hid (And.intro b2 hz2)
                clear b2 hz2 rB
                try dsimp only
                go_wp2_with fail
                refine (HC.out.2.1 _).mono ?_
                rintro e w3 ⟨rfl, b3⟩
                clear d0 d1 d2 d3 d4 d5
                have rB := range_below (range_below HR.out.2.2.2.2 H2.out.1 (by rw [HR.out.1]; omega)) b3 (by have := H2.out.2; omega)
                have rA := range_below (range_below HR.out.2.2.2.1 H2.out.1 (by rw [HR.out.1]; omega)) b3 (by have := H2.out.2; omega)
                have rC := range_below (range_below HR.out.2.2.1 H2.out.1 (by rw [HR.out.1]; omega)) b3 (by have := H2.out.2; omega)
                have d1 := rB 1 _ rfl
                have e1 := rA 1 _ rfl
                have f4 := rC 4 _ rfl
                have f5 := rC 5 _ rfl
                have f6 := rC 6 _ rfl
                have f7 := rC 7 _ rfl
                have f8 := rC 8 _ rfl
                have f9 := rC 9 _ rfl
                rw [Nat.zero_add] at d1 e1 f4 f5 f6 f7 f8 f9
                have H3 := Lib.hid (HR.out.2.1.trans ((H2.out.1.trans (b3.mono H2.out.1.size)).mono HR.out.2.1.size))
                clear b3 rA rB rC
                try dsimp only
                go_wp2
                go_quiet ((go_at_call 60; exact Calls.quiet_of_same (HC.out.2.2 _)))
                go_wp2
                go_ret
                exact ⟨rfl, H3.out.trans (drewN_below _ _ _)⟩
    | false =>
      cases chs with
      | true =>
        cases q1 with
        | false =>
          obtain rfl : RR = true := by rw [← hRR]; simp
          clear hRR
          go_enter Try.func52, Try.ntmps52
          go_wp2_with fail
          rw [HW.out]
          refine (HC.out.1 _).mono ?_
          rintro e w2 ⟨rfl, b2⟩
          have hz2 : w.heap.size + 3 ≤ w2.heap.size := by have := b2.size; rw [HR.out.1] at this; exact this
          have rB := range_below HR.out.2.2.2.2 b2 (by rw [HR.out.1]; omega)
          have d0 := rB 0 _ rfl
          have d1 := rB 1 _ rfl
          have d2 := rB 2 _ rfl
          have d3 := rB 3 _ rfl
          have d4 := rB 4 _ rfl
          have d5 := rB 5 _ rfl
          rw [Nat.zero_add] at d0 d1 d2 d3 d4 d5
          have H2 := Lib.hid (And.intro b2 hz2)
          clear b2 hz2 rB
          try dsimp only
          go_wp2
          go_ret
          exact ⟨rfl, HR.out.2.1.trans (H2.out.1.mono HR.out.2.1.size)⟩
        | true =>
          cases q2 with
          | false =>
            obtain rfl : RR = true := by rw [← hRR]; simp
            clear hRR
            go_enter Try.func52, Try.ntmps52
            go_wp2_with fail
            rw [HW.out]
            refine (HC.out.1 _).mono ?_
            rintro e w2 ⟨rfl, b2⟩
            have hz2 : w.heap.size + 3 ≤ w2.heap.size := by have := b2.size; rw [HR.out.1] at this; exact this
            have rB := range_below HR.out.2.2.2.2 b2 (by rw [HR.out.1]; omega)
            have d0 := rB 0 _ rfl
            have d1 := rB 1 _ rfl
            have d2 := rB 2 _ rfl
            have d3 := rB 3 _ rfl
            have d4 := rB 4 _ rfl
            have d5 := rB 5 _ rfl
            rw [Nat.zero_add] at d0 d1 d2 d3 d4 d5
            have H2 := Lib.hid (And.intro b2 hz2)
            clear b2 hz2 rB
            try dsimp only
            go_wp2_with fail
            refine (HC.out.2.1 _).mono ?_
            rintro e w3 ⟨rfl, b3⟩
            clear d0 d1 d2 d3 d4 d5
            have rB := range_below (range_below HR.out.2.2.2.2 H2.out.1 (by rw [HR.out.1]; omega)) b3 (by have := H2.out.2; omega)
            have rA := range_below (range_below HR.out.2.2.2.1 H2.out.1 (by rw [HR.out.1]; omega)) b3 (by have := H2.out.2; omega)
            have rC := range_below (range_below HR.out.2.2.1 H2.out.1 (by rw [HR.out.1]; omega)) b3 (by have := H2.out.2; omega)
            have d1 := rB 1 _ rfl
            have e1 := rA 1 _ rfl
            have f4 := rC 4 _ rfl
            have f5 := rC 5 _ rfl
            have f6 := rC 6 _ rfl
            have f7 := rC 7 _ rfl
            have f8 := rC 8 _ rfl
            have f9 := rC 9 _ rfl
            rw [Nat.zero_add] at d1 e1 f4 f5 f6 f7 f8 f9
            have H3 := Lib.hid (HR.out.2.1.trans ((H2.out.1.trans (b3.mono H2.out.1.size)).mono HR.out.2.1.size))
            clear b3 rA rB rC
            try dsimp only
            go_wp2
            go_ret
            exact ⟨rfl, H3.out⟩
          | true =>
            cases x3 with
            | false =>
              obtain rfl : RR = false := by rw [← hRR]; simp
              clear hRR
              go_enter Try.func52, Try.ntmps52
              go_wp2_with fail
              rw [HW.out]
              refine (HC.out.1 _).mono ?_
              rintro e w2 ⟨rfl, b2⟩
              have hz2 : w.heap.size + 3 ≤ w2.heap.size := by have := b2.size; rw [HR.out.1] at this; exact this
              have rB := range_below HR.out.2.2.2.2 b2 (by rw [HR.out.1]; omega)
              have d0 := rB 0 _ rfl
              have d1 := rB 1 _ rfl
              have d2 := rB 2 _ rfl
              have d3 := rB 3 _ rfl
              have d4 := rB 4 _ rfl
              have d5 := rB 5 _ rfl
              rw [Nat.zero_add] at d0 d1 d2 d3 d4 d5
              have H2 := Lib.hid (And.intro b2 hz2)
              clear b2 hz2 rB
              try dsimp only
              go_wp2_with fail
              refine (HC.out.2.1 _).mono ?_
              rintro e w3 ⟨rfl, b3⟩
              clear d0 d1 d2 d3 d4 d5
              have rB := range_below (range_below HR.out.2.2.2.2 H2.out.1 (by rw [HR.out.1]; omega)) b3 (by have := H2.out.2; omega)
              have rA := range_below (range_below HR.out.2.2.2.1 H2.out.1 (by rw [HR.out.1]; omega)) b3 (by have := H2.out.2; omega)
              have rC := range_below (range_below HR.out.2.2.1 H2.out.1 (by rw [HR.out.1]; omega)) b3 (by have := H2.out.2; omega)
              have d1 := rB 1 _ rfl
              have e1 := rA 1 _ rfl
              have f4 := rC 4 _ rfl
              have f5 := rC 5 _ rfl
              have f6 := rC 6 _ rfl
              have f7 := rC 7 _ rfl
              have f8 := rC 8 _ rfl
              have f9 := rC 9 _ rfl
              rw [Nat.zero_add] at d1 e1 f4 f5 f6 f7 f8 f9
              have H3 := Lib.hid (HR.out.2.1.trans ((H2.out.1.trans (b3.mono H2.out.1.size)).mono HR.out.2.1.size))
              clear b3 rA rB rC
              try dsimp only
              go_wp2
              go_quiet ((go_at_call 60; exact Calls.quiet_of_same (HC.out.2.2 _)))
              go_wp2
              go_ret
              exact ⟨rfl, H3.out.trans (drewN_below _ _ _)⟩
            | true =>
              obtain rfl : RR = true := by rw [← hRR]; simp
              clear hRR
              go_enter Try.func52, Try.ntmps52
              go_wp2_with fail
              rw [HW.out]
              refine (HC.out.1 _).mono ?_
              rintro e w2 ⟨rfl, b2⟩
              have hz2 : w.heap.size + 3 ≤ w2.heap.size := by have := b2.size; rw [HR.out.1] at this; exact this
              have rB := range_below HR.out.2.2.2.2 b2 (by rw [HR.out.1]; omega)
              have d0 := rB 0 _ rfl
              have d1 := rB 1 _ rfl
              have d2 := rB 2 _ rfl
              have d3 := rB 3 _ rfl
              have d4 := rB 4 _ rfl
              have d5 := rB 5 _ rfl
              rw [Nat.zero_add] at d0 d1 d2 d3 d4 d5
              have H2 := Lib.hid (And.intro b2 hz2)
              clear b2 hz2 rB
              try dsimp only
              go_wp2_with fail
              refine (HC.out.2.1 _).mono ?_
              rintro e w3 ⟨rfl, b3⟩
              clear d0 d1 d2 d3 d4 d5
              have rB := range_below (range_below HR.out.2.2.2.2 H2.out.1 (by rw [HR.out.1]; omega)) b3 (by have := H2.out.2; omega)
              have rA := range_below (range_below HR.out.2.2.2.1 H2.out.1 (by rw [HR.out.1]; omega)) b3 (by have := H2.out.2; omega)
              have rC := range_below (range_below HR.out.2.2.1 H2.out.1 (by rw [HR.out.1]; omega)) b3 (by have := H2.out.2; omega)
              have d1 := rB 1 _ rfl
              have e1 := rA 1 _ rfl
              have f4 := rC 4 _ rfl
              have f5 := rC 5 _ rfl
              have f6 := rC 6 _ rfl
              have f7 := rC 7 _ rfl
              have f8 := rC 8 _ rfl
              have f9 := rC 9 _ rfl
              rw [Nat.zero_add] at d1 e1 f4 f5 f6 f7 f8 f9
              have H3 := Lib.hid (HR.out.2.1.trans ((H2.out.1.trans (b3.mono H2.out.1.size)).mono HR.out.2.1.size))
              clear b3 rA rB rC
              try dsimp only
              go_wp2
              go_quiet ((go_at_call 60; exact Calls.quiet_of_same (HC.out.2.2 _)))
              go_wp2
              go_ret
              exact ⟨rfl, H3.out.trans (drewN_below _ _ _)⟩
      | false =>
        obtain rfl : RR = true := by rw [← hRR]; simp
        clear hRR
        go_enter Try.func52, Try.ntmps52
        go_wp2
        go_ret
        exact ⟨rfl, by have := HR.out.2.1; rw [← HW.out] at this; exact this⟩
end Go.Proofs.Ytmaeofhgbelciaa
