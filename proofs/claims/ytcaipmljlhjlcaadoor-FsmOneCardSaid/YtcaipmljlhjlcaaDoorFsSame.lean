/-
  The program's answers and the document's are the same; the document's examples.
-/
import Derived.Test.YtcaipmljlhjlcaaDoorFsRef
namespace Go.Proofs.YtcaipmljlhjlcaaDoor
open Go.RowKit
set_option maxRecDepth 100000
set_option linter.unusedVariables false
set_option linter.unusedSimpArgs false
theorem rpath_f (st rs to th : Int) (w : World) : Calls Tryd.prog 14 #[.int .i64 st, .int .i64 rs, .int .i64 to, .int .i64 th] w fun e w' => e = .returned (.bool (rpathQ st rs to th)) ∧ w' = w := by
  have hp1 := Lib.hid (known_f st rs w)
  have hp2 := Lib.hid (known_f to th w)
  have hp3 := Lib.hid (rright_f to th w)
  unfold rpathQ
  obtain ⟨q1, hq1⟩ : ∃ q, isP st rs = q := ⟨_, rfl⟩
  obtain ⟨q2, hq2⟩ : ∃ q, isP to th = q := ⟨_, rfl⟩
  obtain ⟨q3, hq3⟩ : ∃ q, rrightQ to th = q := ⟨_, rfl⟩
  rw [hq1] at hp1 ⊢
  rw [hq2] at hp2 ⊢
  rw [hq3] at hp3 ⊢
  clear hq1 hq2 hq3
  cases q1
  · rw [Bool.false_and]
    go_enter Tryd.func14, Tryd.ntmps14
    go_wp2_with fail
    refine hp1.out.mono ?_
    rintro e w1 ⟨rfl, hw1⟩; rw [hw1]; clear hw1
    try dsimp only
    go_wp2
    go_ret
    exact ⟨rfl, rfl⟩
  · cases q2
    · rw [Bool.false_and, Bool.and_false]
      go_enter Tryd.func14, Tryd.ntmps14
      go_wp2_with fail
      refine hp1.out.mono ?_
      rintro e w1 ⟨rfl, hw1⟩; rw [hw1]; clear hw1
      try dsimp only
      go_wp2_with fail
      refine hp2.out.mono ?_
      rintro e w1 ⟨rfl, hw1⟩; rw [hw1]; clear hw1
      try dsimp only
      go_wp2
      go_ret
      exact ⟨rfl, rfl⟩
    · rw [Bool.true_and, Bool.true_and]
      by_cases e1 : st = to
      · subst e1
        by_cases e2 : rs = th
        · subst e2
          rw [beq_self_eq_true, beq_self_eq_true, Bool.true_and, Bool.true_or]
          go_enter Tryd.func14, Tryd.ntmps14
          go_wp2_with fail
          refine hp1.out.mono ?_
          rintro e w1 ⟨rfl, hw1⟩; rw [hw1]; clear hw1
          try dsimp only
          go_wp2_with fail
          refine hp2.out.mono ?_
          rintro e w1 ⟨rfl, hw1⟩; rw [hw1]; clear hw1
          try dsimp only
          go_wp2
          go_ret
          exact ⟨rfl, rfl⟩
        · have he2 : (rs == th) = false := beq_eq_false_iff_ne.2 e2
          rw [he2, Bool.and_false, Bool.false_or]
          go_enter Tryd.func14, Tryd.ntmps14
          go_wp2_with fail
          refine hp1.out.mono ?_
          rintro e w1 ⟨rfl, hw1⟩; rw [hw1]; clear hw1
          try dsimp only
          go_wp2_with fail
          refine hp2.out.mono ?_
          rintro e w1 ⟨rfl, hw1⟩; rw [hw1]; clear hw1
          try dsimp only
          go_wp2_with fail
          refine hp3.out.mono ?_
          rintro e w1 ⟨rfl, hw1⟩; rw [hw1]; clear hw1
          try dsimp only
          go_wp2
          go_ret
          exact ⟨rfl, rfl⟩
      · have he1 : (st == to) = false := beq_eq_false_iff_ne.2 e1
        rw [he1, Bool.false_and, Bool.false_or]
        go_enter Tryd.func14, Tryd.ntmps14
        go_wp2_with fail
        refine hp1.out.mono ?_
        rintro e w1 ⟨rfl, hw1⟩; rw [hw1]; clear hw1
        try dsimp only
        go_wp2_with fail
        refine hp2.out.mono ?_
        rintro e w1 ⟨rfl, hw1⟩; rw [hw1]; clear hw1
        try dsimp only
        go_wp2_with fail
        refine hp3.out.mono ?_
        rintro e w1 ⟨rfl, hw1⟩; rw [hw1]; clear hw1
        try dsimp only
        go_wp2
        go_ret
        exact ⟨rfl, rfl⟩
theorem isP_fin {st rs : Int} (h : isP st rs = true) : (∃ a : Fin 4, st = (a.val : Int)) ∧ ∃ b : Fin 10, rs = (b.val : Int) := by
  have := of_decide_eq_true h
  exact ⟨⟨⟨st.toNat, by omega⟩, by dsimp only; omega⟩, ⟨⟨rs.toNat, by omega⟩, by dsimp only; omega⟩⟩
theorem may_all : ∀ (a c : Fin 4) (d : Fin 10), Es.any (mayP (a.val : Int) (c.val : Int) (d.val : Int)) = (List.range 8).any (stepR (a.val : Int) (c.val : Int) (d.val : Int)) := by decide +kernel
theorem path_all : ∀ (a c : Fin 4) (d : Fin 10), Es.any (pathP (reachM a.val) (c.val : Int) (d.val : Int)) = rrightQ (c.val : Int) (d.val : Int) := by decide +kernel
theorem may_eq (st rs to th : Int) : mayQ st rs to th = rmayQ st rs to th := by
  unfold mayQ rmayQ
  cases h1 : isP st rs
  · rw [Bool.false_and, Bool.false_and]
  cases h2 : isP to th
  · rw [Bool.false_and, Bool.false_and]
  obtain ⟨⟨a, rfl⟩, ⟨b, rfl⟩⟩ := isP_fin h1
  obtain ⟨⟨c, rfl⟩, ⟨d, rfl⟩⟩ := isP_fin h2
  rw [may_all]
theorem path_eq (st rs to th : Int) : pathQ st rs to th = rpathQ st rs to th := by
  unfold pathQ rpathQ
  cases h1 : isP st rs
  · rw [Bool.false_and, Bool.false_and]
  cases h2 : isP to th
  · rw [Bool.false_and, Bool.false_and]
  obtain ⟨⟨a, rfl⟩, ⟨b, rfl⟩⟩ := isP_fin h1
  obtain ⟨⟨c, rfl⟩, ⟨d, rfl⟩⟩ := isP_fin h2
  rw [Int.toNat_natCast, path_all]
theorem right_eq (st rs : Int) : pathQ 0 0 st rs = rrightQ st rs := by
  rw [path_eq]
  unfold rpathQ
  rw [show isP 0 0 = true from rfl, Bool.true_and]
  by_cases h : isP st rs = true
  · rw [h, Bool.true_and]
    by_cases h0 : (0 : Int) = st ∧ (0 : Int) = rs
    · obtain ⟨rfl, rfl⟩ := h0; decide
    · have : ((0 : Int) == st && (0 : Int) == rs) = false := by
        by_cases e1 : (0 : Int) = st
        · rw [show ((0 : Int) == rs) = false from beq_eq_false_iff_ne.2 (fun e2 => h0 ⟨e1, e2⟩), Bool.and_false]
        · rw [show ((0 : Int) == st) = false from beq_eq_false_iff_ne.2 e1, Bool.false_and]
      rw [this, Bool.false_or]
  · have hf : isP st rs = false := by cases h' : isP st rs <;> simp_all
    rw [hf, Bool.false_and]
    unfold rrightQ
    symm
    apply decide_eq_false
    have h9 : ¬ (0 ≤ st ∧ st < 4 ∧ 0 ≤ rs ∧ rs < 10) := fun hp => h (decide_eq_true hp)
    omega
theorem Es_next : ∀ s ∈ Es, rnextQ s.fr s.ev s.rs = (s.to, s.rs, true) := by decide +kernel
theorem Es_one : ∀ s ∈ Es, ∀ t ∈ Es, s.fr = t.fr → s.ev = t.ev → (s.ev ≠ 3 ∨ s.rs = t.rs) → s = t := by decide +kernel
/-- Where there is an edge, the document says so too, and back. -/
theorem next_eq (st ev rs : Int) : (rnextQ st ev rs).2.2 = (nextQ st ev rs).isSome ∧ ((nextQ st ev rs).isSome = true → ∃ s, nextQ st ev rs = some s ∧ s ∈ Es ∧ s.fr = st ∧ s.ev = ev ∧ (ev ≠ 3 ∨ s.rs = rs) ∧ s.to = (rnextQ st ev rs).1 ∧ s.rs = (rnextQ st ev rs).2.1) := by
  cases hn : nextQ st ev rs with
  | none =>
    refine ⟨?_, fun h => absurd h (by decide)⟩
    show _ = false
    have hm : ∀ s ∈ Es, hitE st ev rs s = false := fun s hs => by
      have := List.find?_eq_none.1 hn s hs
      cases h : hitE st ev rs s
      · rfl
      · exact absurd h this
    by_cases hr : (rnextQ st ev rs).2.2 = true
    · exfalso
      unfold rnextQ at hr
      by_cases h1 : ev = 1
      · subst h1
        obtain rfl : st = 0 := eq_of_beq hr
        exact absurd (hm ⟨1, 0, 1, 0⟩ (by decide +kernel)) (by unfold hitE; simp)
      rw [if_neg h1] at hr
      by_cases h2 : ev = 2
      · subst h2
        obtain rfl : st = 1 := eq_of_beq hr
        exact absurd (hm ⟨2, 1, 2, 0⟩ (by decide +kernel)) (by unfold hitE; simp)
      rw [if_neg h2] at hr
      by_cases h3 : ev = 3
      · subst h3
        have h := of_decide_eq_true hr
        obtain ⟨rfl, h2, h3⟩ := h
        have h4 : rs = 2 ∨ rs = 3 ∨ rs = 4 ∨ rs = 5 ∨ rs = 6 ∨ rs = 7 ∨ rs = 8 ∨ rs = 9 := by omega
        rcases h4 with rfl | rfl | rfl | rfl | rfl | rfl | rfl | rfl
        · exact absurd (hm ⟨3, 1, 0, 2⟩ (by decide +kernel)) (by unfold hitE; simp)
        · exact absurd (hm ⟨3, 1, 0, 3⟩ (by decide +kernel)) (by unfold hitE; simp)
        · exact absurd (hm ⟨3, 1, 0, 4⟩ (by decide +kernel)) (by unfold hitE; simp)
        · exact absurd (hm ⟨3, 1, 0, 5⟩ (by decide +kernel)) (by unfold hitE; simp)
        · exact absurd (hm ⟨3, 1, 0, 6⟩ (by decide +kernel)) (by unfold hitE; simp)
        · exact absurd (hm ⟨3, 1, 0, 7⟩ (by decide +kernel)) (by unfold hitE; simp)
        · exact absurd (hm ⟨3, 1, 0, 8⟩ (by decide +kernel)) (by unfold hitE; simp)
        · exact absurd (hm ⟨3, 1, 0, 9⟩ (by decide +kernel)) (by unfold hitE; simp)
      rw [if_neg h3] at hr
      by_cases h4 : ev = 4
      · subst h4
        have h : st = 0 ∨ st = 1 ∨ st = 2 := of_decide_eq_true hr
        rcases h with rfl | rfl | rfl
        · exact absurd (hm ⟨4, 0, 0, 0⟩ (by decide +kernel)) (by unfold hitE; simp)
        · exact absurd (hm ⟨4, 1, 0, 0⟩ (by decide +kernel)) (by unfold hitE; simp)
        · exact absurd (hm ⟨4, 2, 0, 0⟩ (by decide +kernel)) (by unfold hitE; simp)
      rw [if_neg h4] at hr
      by_cases h5 : ev = 5
      · subst h5
        obtain rfl : st = 2 := eq_of_beq hr
        exact absurd (hm ⟨5, 2, 3, 0⟩ (by decide +kernel)) (by unfold hitE; simp)
      rw [if_neg h5] at hr
      by_cases h6 : ev = 6
      · subst h6
        obtain rfl : st = 3 := eq_of_beq hr
        exact absurd (hm ⟨6, 3, 0, 1⟩ (by decide +kernel)) (by unfold hitE; simp)
      rw [if_neg h6] at hr
      by_cases h7 : ev = 7
      · subst h7
        obtain rfl : st = 3 := eq_of_beq hr
        exact absurd (hm ⟨7, 3, 0, 8⟩ (by decide +kernel)) (by unfold hitE; simp)
      rw [if_neg h7] at hr
      by_cases h8 : ev = 8
      · subst h8
        obtain rfl : st = 2 := eq_of_beq hr
        exact absurd (hm ⟨8, 2, 0, 5⟩ (by decide +kernel)) (by unfold hitE; simp)
      rw [if_neg h8] at hr
      exact absurd hr (by decide)
    · cases h : (rnextQ st ev rs).2.2
      · rfl
      · exact absurd h hr
  | some s =>
    have hmem := List.mem_of_find?_eq_some hn
    have hh : hitE st ev rs s = true := List.find?_some hn
    unfold hitE at hh
    simp only [Bool.and_eq_true, Bool.or_eq_true, beq_iff_eq, bne_iff_ne, ne_eq] at hh
    obtain ⟨h1, h2, h3⟩ := hh
    have hx := Es_next s hmem
    have hx2 : rnextQ st ev rs = (s.to, s.rs, true) := by
      rcases h3 with h3 | h3
      · rw [← hx, h1, h2]
        unfold rnextQ
        simp only [if_neg h3]
      · rw [← hx, h1, h2, h3]
    rw [hx2]
    exact ⟨rfl, fun _ => ⟨s, rfl, hmem, h1, h2, h3, rfl, rfl⟩⟩
end Go.Proofs.YtcaipmljlhjlcaaDoor
