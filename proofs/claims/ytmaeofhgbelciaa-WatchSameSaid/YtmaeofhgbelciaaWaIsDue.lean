/-
  Whether a watch is due.
-/
import Derived.Test.YtmaeofhgbelciaaWaCnt
namespace Go.Proofs.Ytmaeofhgbelciaa
open Go.RowKit
set_option maxRecDepth 100000
set_option maxRecDepth 100000
set_option linter.unusedVariables false
set_option linter.unusedSimpArgs false
set_option maxHeartbeats 8000000 in
theorem isdue_f (s : Wr) (v : Vq) (A2 : Option Addr) (n2 c2 : Nat) (now : Int) (w : World) (h1 : Bs w w.heap.size s.bA s.bn s.q.v.b) (h2 : Bs w w.heap.size A2 n2 v.b) (hn : 0 ≤ now ∧ now ≤ 1099511627776) (ht : 0 ≤ s.q.t ∧ s.q.t ≤ 1099511627776) (ha : In64 s.q.v.n) (hb : In64 v.n) :
    Calls Try.prog 35 #[.agg s.vals.toArray, .agg (vvals v A2 n2 c2).toArray, .int .i64 now] w fun e w' => e = .returned (.bool (dueQ s.q.c s.q.v s.q.t v now)) ∧ Below w.heap.size w w' := by
  have cs1 := fun W (hb : Below w.heap.size w W) => vsame_f s.q.v v s.bA A2 s.bn s.bc n2 c2 W _ _ (h1.below hb) (h2.below hb) hb.size hb.size
  have cs2 := fun W => counts_f s.q.c s.q.v v s.bA A2 s.bn s.bc n2 c2 W ha hb
  obtain ⟨⟨sv, tok, pa, ⟨ca, cb, cha, chb, cg, cl, cs, chg, chl, chs⟩, ⟨k, m, str, l, o, i⟩, t, sq⟩, tA, tn, tc, pA, pn, pc, bA, bn, bc⟩ := s
  obtain ⟨k', m', s', l', o', i'⟩ := v
  obtain ⟨RR, hRR⟩ : ∃ RR, dueQ ⟨ca, cb, cha, chb, cg, cl, cs, chg, chl, chs⟩ ⟨k, m, str, l, o, i⟩ t ⟨k', m', s', l', o', i'⟩ now = RR := ⟨_, rfl⟩
  dsimp only [Wr.vals, vvals, Cq.vals] at *
  rw [hRR]
  unfold dueQ at hRR
  obtain ⟨q1, hq1⟩ : ∃ q, vsame ⟨k, m, str, l, o, i⟩ ⟨k', m', s', l', o', i'⟩ = q := ⟨_, rfl⟩
  obtain ⟨q2, hq2⟩ : ∃ q, countsQ ⟨ca, cb, cha, chb, cg, cl, cs, chg, chl, chs⟩ ⟨k, m, str, l, o, i⟩ ⟨k', m', s', l', o', i'⟩ = q := ⟨_, rfl⟩
  rw [hq1, hq2] at hRR
  rw [hq1] at cs1
  rw [hq2] at cs2
  try dsimp only at hRR
  obtain ⟨W, hW⟩ : ∃ W, ((((w.alloc (.cells #[.int .i64 sv, .slice tA tn tc, .slice pA pn pc, .int .i64 ca, .int .i64 cb, .bool cha, .bool chb, .int .i64 cg, .int .i64 cl, .int .i64 cs, .bool chg, .bool chl, .bool chs, .int .i64 k, .int .i64 m, .string str, .slice bA bn bc, .int .i64 o, .int .i64 i, .int .i64 t, .int .i64 sq] 37)).alloc (.cells #[.int .i64 k', .int .i64 m', .string s', .slice A2 n2 c2, .int .i64 o', .int .i64 i'] 34)).alloc (.cells #[.int .i64 ca, .int .i64 cb, .bool cha, .bool chb, .int .i64 cg, .int .i64 cl, .int .i64 cs, .bool chg, .bool chl, .bool chs] 25))).drew = W := ⟨_, rfl⟩
  have hz : W.heap.size = w.heap.size + 3 := by rw [← hW, show ∀ x : World, x.drew.heap.size = x.heap.size from fun _ => rfl, alloc_size, alloc_size, alloc_size]
  have hbW : Below w.heap.size w W := by rw [← hW]; exact Below.drew (((alloc_below w _).alloc (by rw [alloc_size]; omega) _).alloc (by rw [alloc_size, alloc_size]; omega) _)
  have r0 : W.rangeAt w.heap.size 0 [.int .i64 sv, .slice tA tn tc, .slice pA pn pc, .int .i64 ca, .int .i64 cb, .bool cha, .bool chb, .int .i64 cg, .int .i64 cl, .int .i64 cs, .bool chg, .bool chl, .bool chs, .int .i64 k, .int .i64 m, .string str, .slice bA bn bc, .int .i64 o, .int .i64 i, .int .i64 t, .int .i64 sq] := by
    have h1 := range_newV w #[.int .i64 sv, .slice tA tn tc, .slice pA pn pc, .int .i64 ca, .int .i64 cb, .bool cha, .bool chb, .int .i64 cg, .int .i64 cl, .int .i64 cs, .bool chg, .bool chl, .bool chs, .int .i64 k, .int .i64 m, .string str, .slice bA bn bc, .int .i64 o, .int .i64 i, .int .i64 t, .int .i64 sq] 37 rfl
    have h3 := range_below (range_below h1 (alloc_below (w.alloc _) (.cells #[.int .i64 k', .int .i64 m', .string s', .slice A2 n2 c2, .int .i64 o', .int .i64 i'] 34)) (by rw [alloc_size]; omega)) (alloc_below ((w.alloc _).alloc _) (.cells #[.int .i64 ca, .int .i64 cb, .bool cha, .bool chb, .int .i64 cg, .int .i64 cl, .int .i64 cs, .bool chg, .bool chl, .bool chs] 25)) (by rw [alloc_size, alloc_size]; omega)
    rw [← hW]
    exact h3
  have r1 : W.rangeAt (w.heap.size + 1) 0 [.int .i64 k', .int .i64 m', .string s', .slice A2 n2 c2, .int .i64 o', .int .i64 i'] := by
    have h1 := range_newV (w.alloc (.cells #[.int .i64 sv, .slice tA tn tc, .slice pA pn pc, .int .i64 ca, .int .i64 cb, .bool cha, .bool chb, .int .i64 cg, .int .i64 cl, .int .i64 cs, .bool chg, .bool chl, .bool chs, .int .i64 k, .int .i64 m, .string str, .slice bA bn bc, .int .i64 o, .int .i64 i, .int .i64 t, .int .i64 sq] 37)) #[.int .i64 k', .int .i64 m', .string s', .slice A2 n2 c2, .int .i64 o', .int .i64 i'] 34 rfl
    rw [alloc_size] at h1
    have h3 := range_below h1 (alloc_below ((w.alloc _).alloc _) (.cells #[.int .i64 ca, .int .i64 cb, .bool cha, .bool chb, .int .i64 cg, .int .i64 cl, .int .i64 cs, .bool chg, .bool chl, .bool chs] 25)) (by rw [alloc_size, alloc_size]; omega)
    rw [← hW]
    exact h3
  have r2 : W.rangeAt (w.heap.size + 1 + 1) 0 [.int .i64 ca, .int .i64 cb, .bool cha, .bool chb, .int .i64 cg, .int .i64 cl, .int .i64 cs, .bool chg, .bool chl, .bool chs] := by
    have h1 := range_newV ((w.alloc (.cells #[.int .i64 sv, .slice tA tn tc, .slice pA pn pc, .int .i64 ca, .int .i64 cb, .bool cha, .bool chb, .int .i64 cg, .int .i64 cl, .int .i64 cs, .bool chg, .bool chl, .bool chs, .int .i64 k, .int .i64 m, .string str, .slice bA bn bc, .int .i64 o, .int .i64 i, .int .i64 t, .int .i64 sq] 37)).alloc (.cells #[.int .i64 k', .int .i64 m', .string s', .slice A2 n2 c2, .int .i64 o', .int .i64 i'] 34)) #[.int .i64 ca, .int .i64 cb, .bool cha, .bool chb, .int .i64 cg, .int .i64 cl, .int .i64 cs, .bool chg, .bool chl, .bool chs] 25 rfl
    rw [alloc_size, alloc_size] at h1
    rw [← hW]
    exact h1
  have HR := Lib.hid (And.intro hz (And.intro hbW (And.intro r0 (And.intro r1 r2))))
  have HW := Lib.hid hW
  have HC := Lib.hid (And.intro cs1 cs2)
  clear hz hbW r0 r1 r2 hW cs1 cs2 ha hb h1 h2 hq1 hq2
  by_cases g1 : now - t < 1
  · obtain rfl : RR = false := by rw [← hRR]; simp [g1]
    clear hRR
    go_enter Try.func35, Try.ntmps35
    go_wp2
    go_region
    go_wp2
    go_ret
    exact ⟨rfl, by have := HR.out.2.1; rw [← HW.out] at this; exact this⟩
  cases cha with
  | true =>
    by_cases g2 : now - t < ca
    · obtain rfl : RR = false := by rw [← hRR]; simp [g2]
      clear hRR
      go_enter Try.func35, Try.ntmps35
      go_wp2
      go_region
      go_wp2
      go_ret
      exact ⟨rfl, by have := HR.out.2.1; rw [← HW.out] at this; exact this⟩
    rw [if_neg (by rintro (h | ⟨_, h⟩); exact g1 h; exact g2 h)] at hRR
    by_cases hm : chb = true ∧ cb > 0 ∧ now - t ≥ cb
    · obtain ⟨rfl, hm1, hm2⟩ := hm
      obtain rfl : RR = true := by rw [← hRR]; simp [g1, hm1, hm2]
      clear hRR
      go_enter Try.func35, Try.ntmps35
      go_wp2
      go_region
      go_wp2
      go_ret
      exact ⟨rfl, by have := HR.out.2.1; rw [← HW.out] at this; exact this⟩
    rw [if_neg hm] at hRR
    rcases (show chb = false ∨ (chb = true ∧ ¬ cb > 0) ∨ (chb = true ∧ cb > 0 ∧ ¬ now - t ≥ cb) by
      cases chb with
      | false => exact .inl rfl
      | true =>
        by_cases hc : cb > 0
        · exact .inr (.inr ⟨rfl, hc, fun hd => hm ⟨rfl, hc, hd⟩⟩)
        · exact .inr (.inl ⟨rfl, hc⟩)) with rfl | ⟨rfl, hm1⟩ | ⟨rfl, hm1, hm2⟩
    all_goals
      clear hm
      cases q1 with
      | true =>
        obtain rfl : RR = false := by rw [← hRR]; simp []
        clear hRR
        go_enter Try.func35, Try.ntmps35
        go_wp2
        go_region
        go_wp2_with fail
        rw [HW.out]
        refine (HC.out.1 _ HR.out.2.1).mono ?_
        rintro e w2 ⟨rfl, b2⟩
        have rA := range_below HR.out.2.2.1 b2 (by rw [HR.out.1]; omega)
        have rB := range_below HR.out.2.2.2.1 b2 (by rw [HR.out.1]; omega)
        have rC := range_below HR.out.2.2.2.2 b2 (by rw [HR.out.1]; omega)
        have a13 := rA 13 _ rfl
        have a14 := rA 14 _ rfl
        have a15 := rA 15 _ rfl
        have a16 := rA 16 _ rfl
        have a17 := rA 17 _ rfl
        have a18 := rA 18 _ rfl
        have p0 := rB 0 _ rfl
        have p1 := rB 1 _ rfl
        have p2 := rB 2 _ rfl
        have p3 := rB 3 _ rfl
        have p4 := rB 4 _ rfl
        have p5 := rB 5 _ rfl
        have d0 := rC 0 _ rfl
        have d1 := rC 1 _ rfl
        have d2 := rC 2 _ rfl
        have d3 := rC 3 _ rfl
        have d4 := rC 4 _ rfl
        have d5 := rC 5 _ rfl
        have d6 := rC 6 _ rfl
        have d7 := rC 7 _ rfl
        have d8 := rC 8 _ rfl
        have d9 := rC 9 _ rfl
        rw [Nat.zero_add] at a13 a14 a15 a16 a17 a18 p0 p1 p2 p3 p4 p5 d0 d1 d2 d3 d4 d5 d6 d7 d8 d9
        have H2 := Lib.hid (HR.out.2.1.trans (b2.mono HR.out.2.1.size))
        clear b2 rA rB rC
        try dsimp only
        go_wp2
        go_ret
        exact ⟨rfl, H2.out⟩
      | false =>
        obtain rfl : RR = q2 := by rw [← hRR]; simp []
        clear hRR
        go_enter Try.func35, Try.ntmps35
        go_wp2
        go_region
        go_wp2_with fail
        rw [HW.out]
        refine (HC.out.1 _ HR.out.2.1).mono ?_
        rintro e w2 ⟨rfl, b2⟩
        have rA := range_below HR.out.2.2.1 b2 (by rw [HR.out.1]; omega)
        have rB := range_below HR.out.2.2.2.1 b2 (by rw [HR.out.1]; omega)
        have rC := range_below HR.out.2.2.2.2 b2 (by rw [HR.out.1]; omega)
        have a13 := rA 13 _ rfl
        have a14 := rA 14 _ rfl
        have a15 := rA 15 _ rfl
        have a16 := rA 16 _ rfl
        have a17 := rA 17 _ rfl
        have a18 := rA 18 _ rfl
        have p0 := rB 0 _ rfl
        have p1 := rB 1 _ rfl
        have p2 := rB 2 _ rfl
        have p3 := rB 3 _ rfl
        have p4 := rB 4 _ rfl
        have p5 := rB 5 _ rfl
        have d0 := rC 0 _ rfl
        have d1 := rC 1 _ rfl
        have d2 := rC 2 _ rfl
        have d3 := rC 3 _ rfl
        have d4 := rC 4 _ rfl
        have d5 := rC 5 _ rfl
        have d6 := rC 6 _ rfl
        have d7 := rC 7 _ rfl
        have d8 := rC 8 _ rfl
        have d9 := rC 9 _ rfl
        rw [Nat.zero_add] at a13 a14 a15 a16 a17 a18 p0 p1 p2 p3 p4 p5 d0 d1 d2 d3 d4 d5 d6 d7 d8 d9
        have H2 := Lib.hid (HR.out.2.1.trans (b2.mono HR.out.2.1.size))
        clear b2 rA rB rC
        try dsimp only
        go_wp2_with fail
        refine (HC.out.2 _).mono ?_
        rintro e w3 ⟨rfl, b3⟩
        have H3 := Lib.hid (H2.out.trans (b3.mono H2.out.size))
        clear b3 a13 a14 a15 a16 a17 a18 p0 p1 p2 p3 p4 p5 d0 d1 d2 d3 d4 d5 d6 d7 d8 d9
        try dsimp only
        go_wp2
        go_ret
        exact ⟨rfl, H3.out⟩
  | false =>
    rw [if_neg (by rintro (h | ⟨h, _⟩); exact g1 h; cases h)] at hRR
    by_cases hm : chb = true ∧ cb > 0 ∧ now - t ≥ cb
    · obtain ⟨rfl, hm1, hm2⟩ := hm
      obtain rfl : RR = true := by rw [← hRR]; simp [g1, hm1, hm2]
      clear hRR
      go_enter Try.func35, Try.ntmps35
      go_wp2
      go_region
      go_wp2
      go_ret
      exact ⟨rfl, by have := HR.out.2.1; rw [← HW.out] at this; exact this⟩
    rw [if_neg hm] at hRR
    rcases (show chb = false ∨ (chb = true ∧ ¬ cb > 0) ∨ (chb = true ∧ cb > 0 ∧ ¬ now - t ≥ cb) by
      cases chb with
      | false => exact .inl rfl
      | true =>
        by_cases hc : cb > 0
        · exact .inr (.inr ⟨rfl, hc, fun hd => hm ⟨rfl, hc, hd⟩⟩)
        · exact .inr (.inl ⟨rfl, hc⟩)) with rfl | ⟨rfl, hm1⟩ | ⟨rfl, hm1, hm2⟩
    all_goals
      clear hm
      cases q1 with
      | true =>
        obtain rfl : RR = false := by rw [← hRR]; simp []
        clear hRR
        go_enter Try.func35, Try.ntmps35
        go_wp2
        go_region
        go_wp2_with fail
        rw [HW.out]
        refine (HC.out.1 _ HR.out.2.1).mono ?_
        rintro e w2 ⟨rfl, b2⟩
        have rA := range_below HR.out.2.2.1 b2 (by rw [HR.out.1]; omega)
        have rB := range_below HR.out.2.2.2.1 b2 (by rw [HR.out.1]; omega)
        have rC := range_below HR.out.2.2.2.2 b2 (by rw [HR.out.1]; omega)
        have a13 := rA 13 _ rfl
        have a14 := rA 14 _ rfl
        have a15 := rA 15 _ rfl
        have a16 := rA 16 _ rfl
        have a17 := rA 17 _ rfl
        have a18 := rA 18 _ rfl
        have p0 := rB 0 _ rfl
        have p1 := rB 1 _ rfl
        have p2 := rB 2 _ rfl
        have p3 := rB 3 _ rfl
        have p4 := rB 4 _ rfl
        have p5 := rB 5 _ rfl
        have d0 := rC 0 _ rfl
        have d1 := rC 1 _ rfl
        have d2 := rC 2 _ rfl
        have d3 := rC 3 _ rfl
        have d4 := rC 4 _ rfl
        have d5 := rC 5 _ rfl
        have d6 := rC 6 _ rfl
        have d7 := rC 7 _ rfl
        have d8 := rC 8 _ rfl
        have d9 := rC 9 _ rfl
        rw [Nat.zero_add] at a13 a14 a15 a16 a17 a18 p0 p1 p2 p3 p4 p5 d0 d1 d2 d3 d4 d5 d6 d7 d8 d9
        have H2 := Lib.hid (HR.out.2.1.trans (b2.mono HR.out.2.1.size))
        clear b2 rA rB rC
        try dsimp only
        go_wp2
        go_ret
        exact ⟨rfl, H2.out⟩
      | false =>
        obtain rfl : RR = q2 := by rw [← hRR]; simp []
        clear hRR
        go_enter Try.func35, Try.ntmps35
        go_wp2
        go_region
        go_wp2_with fail
        rw [HW.out]
        refine (HC.out.1 _ HR.out.2.1).mono ?_
        rintro e w2 ⟨rfl, b2⟩
        have rA := range_below HR.out.2.2.1 b2 (by rw [HR.out.1]; omega)
        have rB := range_below HR.out.2.2.2.1 b2 (by rw [HR.out.1]; omega)
        have rC := range_below HR.out.2.2.2.2 b2 (by rw [HR.out.1]; omega)
        have a13 := rA 13 _ rfl
        have a14 := rA 14 _ rfl
        have a15 := rA 15 _ rfl
        have a16 := rA 16 _ rfl
        have a17 := rA 17 _ rfl
        have a18 := rA 18 _ rfl
        have p0 := rB 0 _ rfl
        have p1 := rB 1 _ rfl
        have p2 := rB 2 _ rfl
        have p3 := rB 3 _ rfl
        have p4 := rB 4 _ rfl
        have p5 := rB 5 _ rfl
        have d0 := rC 0 _ rfl
        have d1 := rC 1 _ rfl
        have d2 := rC 2 _ rfl
        have d3 := rC 3 _ rfl
        have d4 := rC 4 _ rfl
        have d5 := rC 5 _ rfl
        have d6 := rC 6 _ rfl
        have d7 := rC 7 _ rfl
        have d8 := rC 8 _ rfl
        have d9 := rC 9 _ rfl
        rw [Nat.zero_add] at a13 a14 a15 a16 a17 a18 p0 p1 p2 p3 p4 p5 d0 d1 d2 d3 d4 d5 d6 d7 d8 d9
        have H2 := Lib.hid (HR.out.2.1.trans (b2.mono HR.out.2.1.size))
        clear b2 rA rB rC
        try dsimp only
        go_wp2_with fail
        refine (HC.out.2 _).mono ?_
        rintro e w3 ⟨rfl, b3⟩
        have H3 := Lib.hid (H2.out.trans (b3.mono H2.out.size))
        clear b3 a13 a14 a15 a16 a17 a18 p0 p1 p2 p3 p4 p5 d0 d1 d2 d3 d4 d5 d6 d7 d8 d9
        try dsimp only
        go_wp2
        go_ret
        exact ⟨rfl, H3.out⟩
end Go.Proofs.Ytmaeofhgbelciaa
