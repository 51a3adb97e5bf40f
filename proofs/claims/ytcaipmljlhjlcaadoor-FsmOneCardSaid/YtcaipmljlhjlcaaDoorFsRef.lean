/-
  The document's answers: where an event leads, what may follow a pair, which pair can be.
-/
import Derived.Test.YtcaipmljlhjlcaaDoorFsLast
namespace Go.Proofs.YtcaipmljlhjlcaaDoor
open Go.RowKit
set_option maxRecDepth 100000
set_option linter.unusedVariables false
set_option linter.unusedSimpArgs false
def rnextQ (st ev rs : Int) : Int × Int × Bool :=
  if ev = 1 then (1, 0, st == 0) else if ev = 2 then (2, 0, st == 1) else if ev = 3 then (0, rs, decide (st = 1 ∧ 2 ≤ rs ∧ rs ≤ 9)) else if ev = 4 then (0, 0, decide (st = 0 ∨ st = 1 ∨ st = 2))
  else if ev = 5 then (3, 0, st == 2) else if ev = 6 then (0, 1, st == 3) else if ev = 7 then (0, 8, st == 3) else if ev = 8 then (0, 5, st == 2) else (0, 0, false)
def rtup (x : Int × Int × Bool) : Value := .tuple #[.int .i64 x.1, .int .i64 x.2.1, .bool x.2.2]
theorem rnext_f (st ev rs : Int) (w : World) : Calls Tryd.prog 9 #[.int .i64 st, .int .i64 ev, .int .i64 rs] w fun e w' => e = .returned (rtup (rnextQ st ev rs)) ∧ w' = w := by
  unfold rnextQ
  by_cases h1 : ev = 1
  · subst h1
    rw [if_pos rfl]
    go_enter Tryd.func9, Tryd.ntmps9
    go_wp2
    go_ret3
    first | exact ⟨rfl, rfl⟩ | exact ⟨by simp [rtup, *], rfl⟩
  rw [if_neg h1]
  by_cases h2 : ev = 2
  · subst h2
    rw [if_pos rfl]
    go_enter Tryd.func9, Tryd.ntmps9
    go_wp2
    go_ret3
    first | exact ⟨rfl, rfl⟩ | exact ⟨by simp [rtup, *], rfl⟩
  rw [if_neg h2]
  by_cases h3 : ev = 3
  · subst h3
    rw [if_pos rfl]
    by_cases c1 : st = 1 <;> by_cases c2 : 2 ≤ rs <;> by_cases c3 : rs ≤ 9
    all_goals by_cases hP : st = 1 ∧ 2 ≤ rs ∧ rs ≤ 9
    all_goals first | (exfalso; omega) | skip
    all_goals
      first | rw [decide_eq_true hP] | rw [decide_eq_false hP]
      clear hP
      go_enter Tryd.func9, Tryd.ntmps9
      go_wp2
      go_ret3
      first | exact ⟨rfl, rfl⟩ | exact ⟨by simp [rtup, *], rfl⟩
  rw [if_neg h3]
  by_cases h4 : ev = 4
  · subst h4
    rw [if_pos rfl]
    by_cases c1 : st = 0 <;> by_cases c2 : st = 1 <;> by_cases c3 : st = 2
    all_goals first
      | (exfalso; omega)
      | skip
    all_goals by_cases hP : st = 0 ∨ st = 1 ∨ st = 2
    all_goals first | (exfalso; omega) | skip
    all_goals
      first | rw [decide_eq_true hP] | rw [decide_eq_false hP]
      clear hP
      go_enter Tryd.func9, Tryd.ntmps9
      go_wp2
      go_ret3
      first | exact ⟨rfl, rfl⟩ | exact ⟨by simp [rtup, *], rfl⟩
  rw [if_neg h4]
  by_cases h5 : ev = 5
  · subst h5
    rw [if_pos rfl]
    go_enter Tryd.func9, Tryd.ntmps9
    go_wp2
    go_ret3
    first | exact ⟨rfl, rfl⟩ | exact ⟨by simp [rtup, *], rfl⟩
  rw [if_neg h5]
  by_cases h6 : ev = 6
  · subst h6
    rw [if_pos rfl]
    go_enter Tryd.func9, Tryd.ntmps9
    go_wp2
    go_ret3
    first | exact ⟨rfl, rfl⟩ | exact ⟨by simp [rtup, *], rfl⟩
  rw [if_neg h6]
  by_cases h7 : ev = 7
  · subst h7
    rw [if_pos rfl]
    go_enter Tryd.func9, Tryd.ntmps9
    go_wp2
    go_ret3
    first | exact ⟨rfl, rfl⟩ | exact ⟨by simp [rtup, *], rfl⟩
  rw [if_neg h7]
  by_cases h8 : ev = 8
  · subst h8
    rw [if_pos rfl]
    go_enter Tryd.func9, Tryd.ntmps9
    go_wp2
    go_ret3
    first | exact ⟨rfl, rfl⟩ | exact ⟨by simp [rtup, *], rfl⟩
  rw [if_neg h8]
  go_enter Tryd.func9, Tryd.ntmps9
  go_wp2
  go_ret3
  first | exact ⟨rfl, rfl⟩ | exact ⟨by simp [rtup, *], rfl⟩
theorem known_f (st rs : Int) (w : World) : Calls Tryd.prog 21 #[.int .i64 st, .int .i64 rs] w fun e w' => e = .returned (.bool (isP st rs)) ∧ w' = w := by
  unfold isP
  by_cases h1 : 0 ≤ st <;> by_cases h2 : st ≤ 3 <;> by_cases h3 : 0 ≤ rs <;> by_cases h4 : rs ≤ 9
  all_goals by_cases hP : 0 ≤ st ∧ st < 4 ∧ 0 ≤ rs ∧ rs < 10
  all_goals first | (exfalso; omega) | skip
  all_goals
    first | rw [decide_eq_true hP] | rw [decide_eq_false hP]
    clear hP
    go_enter Tryd.func21, Tryd.ntmps21
    go_wp2
    go_ret
    exact ⟨rfl, rfl⟩
def rrightQ (st rs : Int) : Bool := decide ((st = 0 ∧ 0 ≤ rs ∧ rs ≤ 9) ∨ (1 ≤ st ∧ st ≤ 3 ∧ rs = 0))
theorem rright_f (st rs : Int) (w : World) : Calls Tryd.prog 16 #[.int .i64 st, .int .i64 rs] w fun e w' => e = .returned (.bool (rrightQ st rs)) ∧ w' = w := by
  unfold rrightQ
  by_cases h1 : st = 0
  · subst h1
    by_cases h3 : 0 ≤ rs <;> by_cases h4 : rs ≤ 9
    all_goals by_cases hP : ((0 : Int) = 0 ∧ 0 ≤ rs ∧ rs ≤ 9) ∨ (1 ≤ (0 : Int) ∧ (0 : Int) ≤ 3 ∧ rs = 0)
    all_goals first | (exfalso; omega) | skip
    all_goals
      first | rw [decide_eq_true hP] | rw [decide_eq_false hP]
      clear hP
      go_enter Tryd.func16, Tryd.ntmps16
      go_wp2
      go_ret
      exact ⟨rfl, rfl⟩
  · by_cases h2 : 1 ≤ st <;> by_cases h3 : st ≤ 3 <;> by_cases h4 : rs = 0
    all_goals by_cases hP : (st = 0 ∧ 0 ≤ rs ∧ rs ≤ 9) ∨ (1 ≤ st ∧ st ≤ 3 ∧ rs = 0)
    all_goals first | (exfalso; omega) | skip
    all_goals
      first | rw [decide_eq_true hP] | rw [decide_eq_false hP]
      clear hP
      go_enter Tryd.func16, Tryd.ntmps16
      go_wp2
      go_ret
      exact ⟨by first | rfl | simp [*], rfl⟩
/-- One event that leads there. -/
def stepR (st to th : Int) (k : Nat) : Bool := (rnextQ st ((k : Int) + 1) th).2.2 && ((rnextQ st ((k : Int) + 1) th).1 == to && (rnextQ st ((k : Int) + 1) th).2.1 == th)
def rmayQ (st rs to th : Int) : Bool := isP st rs && (isP to th && ((st == to && rs == th) || (List.range 8).any (stepR st to th)))
def rpathQ (st rs to th : Int) : Bool := isP st rs && (isP to th && ((st == to && rs == th) || rrightQ to th))
theorem any_hit {p : Nat → Bool} {k : Nat} (hk : k < 8) (h : p k = true) : (List.range 8).any p = true := List.any_eq_true.2 ⟨k, List.mem_range.2 hk, h⟩
theorem any_miss {p : Nat → Bool} (h : ∀ j, j < 8 → p j = false) : (List.range 8).any p = false := by
  rw [List.any_eq_false]
  intro x hx
  rw [h x (List.mem_range.1 hx)]; decide
theorem hit_next {st to th : Int} {k : Nat} (h : ∀ j, j < k → stepR st to th j = false) (hk : stepR st to th k = false) : Aside (∀ j, j < k + 1 → stepR st to th j = false) := fun j hj => by
  by_cases e : j = k
  · rw [e]; exact hk
  · exact h j (by omega)
set_option maxHeartbeats 4000000 in
theorem rmay_f (st rs to th : Int) (w : World) : Calls Tryd.prog 12 #[.int .i64 st, .int .i64 rs, .int .i64 to, .int .i64 th] w fun e w' => e = .returned (.bool (rmayQ st rs to th)) ∧ w' = w := by
  have hp1 := Lib.hid (known_f st rs w)
  have hp2 := Lib.hid (known_f to th w)
  unfold rmayQ
  obtain ⟨q1, hq1⟩ : ∃ q, isP st rs = q := ⟨_, rfl⟩
  obtain ⟨q2, hq2⟩ : ∃ q, isP to th = q := ⟨_, rfl⟩
  rw [hq1] at hp1 ⊢
  rw [hq2] at hp2 ⊢
  clear hq1 hq2
  cases q1
  · rw [Bool.false_and]
    go_enter Tryd.func12, Tryd.ntmps12
    go_wp2_with fail
    refine hp1.out.mono ?_
    rintro e w1 ⟨rfl, hw1⟩; rw [hw1]; clear hw1
    try dsimp only
    go_wp2
    go_ret
    exact ⟨rfl, rfl⟩
  · cases q2
    · rw [Bool.false_and, Bool.and_false]
      go_enter Tryd.func12, Tryd.ntmps12
      go_wp2_with fail
      refine hp1.out.mono ?_
      rintro e w1 ⟨rfl, hw1⟩; rw [hw1]; clear hw1
      try dsimp only
      go_wp2_with fail
      refine hp2.out.mono ?_
      rintro e w1 ⟨rfl, hw1⟩; rw [hw1]; clear hw1
      try dsimp only
      go_wp2
      go_ret
      exact ⟨rfl, rfl⟩
    · rw [Bool.true_and, Bool.true_and]
      by_cases e12 : st = to ∧ rs = th
      · obtain ⟨e1, e2⟩ := e12
        subst e1 e2
        rw [beq_self_eq_true, beq_self_eq_true, Bool.true_and, Bool.true_or]
        go_enter Tryd.func12, Tryd.ntmps12
        go_wp2_with fail
        refine hp1.out.mono ?_
        rintro e w1 ⟨rfl, hw1⟩; rw [hw1]; clear hw1
        try dsimp only
        go_wp2_with fail
        refine hp2.out.mono ?_
        rintro e w1 ⟨rfl, hw1⟩; rw [hw1]; clear hw1
        try dsimp only
        go_wp2
        go_ret
        exact ⟨rfl, rfl⟩
      · have he : (st == to && rs == th) = false := by
          by_cases e1 : st = to
          · rw [show (rs == th) = false from beq_eq_false_iff_ne.2 (fun e2 => e12 ⟨e1, e2⟩), Bool.and_false]
          · rw [show (st == to) = false from beq_eq_false_iff_ne.2 e1, Bool.false_and]
        rw [he, Bool.false_or]
        obtain ⟨Q, hQ⟩ : ∃ Q, (List.range 8).any (stepR st to th) = Q := ⟨_, rfl⟩
        rw [hQ]
        have HQ := Lib.hid hQ
        clear hQ
        have HN := Lib.hid (fun (k : Nat) => rnext_f st ((k : Int) + 1) th w)
        have H12 := Lib.hid e12
        go_enter Tryd.func12, Tryd.ntmps12
        go_wp2_with fail
        refine hp1.out.mono ?_
        rintro e w1 ⟨rfl, hw1⟩; rw [hw1]; clear hw1
        try dsimp only
        go_wp2_with fail
        refine hp2.out.mono ?_
        rintro e w1 ⟨rfl, hw1⟩; rw [hw1]; clear hw1
        try dsimp only
        clear e12
        by_cases e1 : st = to
        · subst e1
          have e2 : ¬ rs = th := fun e2 => H12.out ⟨rfl, e2⟩
          go_wp2
          go_loopw [9] (fun v9 wr => ∃ k : Nat, k ≤ 8 ∧ v9 = .int .i64 ((k : Int) + 1) ∧ wr = w ∧ Aside (∀ j, j < k → stepR st st th j = false)) (fun v9 _ => 9 - (intOf v9).toNat)
          case atStart => exact ⟨0, by decide, rfl, rfl, (show Aside _ from fun j hj => absurd hj (Nat.not_lt_zero _))⟩
          case round =>
            obtain ⟨k, hk, rfl, rfl, hrel⟩ := hrel
            by_cases hlt : k < 8
            · have hltI : (k : Int) + 1 ≤ 8 := by omega
              have hcl := HN.out k
              obtain ⟨⟨a, b, c⟩, hx⟩ : ∃ x, rnextQ st ((k : Int) + 1) th = x := ⟨_, rfl⟩
              have hsr : stepR st st th k = (c && (a == st && b == th)) := by unfold stepR; rw [hx]
              rw [hx] at hcl
              have HX := Lib.hid (And.intro hcl (And.intro hsr hrel))
              clear hcl hx hsr hrel
              cases c
              · go_wp2_with fail
                refine HX.out.1.mono ?_
                rintro e w1 ⟨rfl, hw1⟩; rw [hw1]; clear hw1
                try dsimp only [rtup]
                go_wp2
                go_roundw
                case rel => exact ⟨k + 1, by omega, by go_num, trivial, hit_next HX.out.2.2.out (by rw [HX.out.2.1, Bool.false_and])⟩
                case measure => simp [intOf]; omega
              · by_cases ha : a = st
                · have ha' := ha; subst ha
                  by_cases hb : b = th
                  · subst hb
                    go_wp2_with fail
                    refine HX.out.1.mono ?_
                    rintro e w1 ⟨rfl, hw1⟩; rw [hw1]; clear hw1
                    try dsimp only [rtup]
                    go_wp2
                    go_ret
                    exact ⟨by rw [← HQ.out, any_hit hlt (by rw [HX.out.2.1, beq_self_eq_true, beq_self_eq_true]; rfl)]; rfl, rfl⟩
                  · go_wp2_with fail
                    refine HX.out.1.mono ?_
                    rintro e w1 ⟨rfl, hw1⟩; rw [hw1]; clear hw1
                    try dsimp only [rtup]
                    go_wp2
                    go_roundw
                    case rel => exact ⟨k + 1, by omega, by go_num, trivial, hit_next HX.out.2.2.out (by rw [HX.out.2.1, show (b == th) = false from beq_eq_false_iff_ne.2 hb, Bool.and_false, Bool.and_false])⟩
                    case measure => simp [intOf]; omega
                · go_wp2_with fail
                  refine HX.out.1.mono ?_
                  rintro e w1 ⟨rfl, hw1⟩; rw [hw1]; clear hw1
                  try dsimp only [rtup]
                  go_wp2
                  go_roundw
                  case rel => exact ⟨k + 1, by omega, by go_num, trivial, hit_next HX.out.2.2.out (by rw [HX.out.2.1, show (a == st) = false from beq_eq_false_iff_ne.2 ha, Bool.false_and, Bool.and_false])⟩
                  case measure => simp [intOf]; omega
            · obtain rfl : k = 8 := by omega
              have hltI : ¬ ((8 : Nat) : Int) + 1 ≤ 8 := by decide
              have hmiss := any_miss hrel.out
              clear hrel
              go_wp2
              go_ret
              exact ⟨by rw [← HQ.out, hmiss]; rfl, rfl⟩
        · go_wp2
          go_loopw [9] (fun v9 wr => ∃ k : Nat, k ≤ 8 ∧ v9 = .int .i64 ((k : Int) + 1) ∧ wr = w ∧ Aside (∀ j, j < k → stepR st to th j = false)) (fun v9 _ => 9 - (intOf v9).toNat)
          case atStart => exact ⟨0, by decide, rfl, rfl, (show Aside _ from fun j hj => absurd hj (Nat.not_lt_zero _))⟩
          case round =>
            obtain ⟨k, hk, rfl, rfl, hrel⟩ := hrel
            by_cases hlt : k < 8
            · have hltI : (k : Int) + 1 ≤ 8 := by omega
              have hcl := HN.out k
              obtain ⟨⟨a, b, c⟩, hx⟩ : ∃ x, rnextQ st ((k : Int) + 1) th = x := ⟨_, rfl⟩
              have hsr : stepR st to th k = (c && (a == to && b == th)) := by unfold stepR; rw [hx]
              rw [hx] at hcl
              have HX := Lib.hid (And.intro hcl (And.intro hsr hrel))
              clear hcl hx hsr hrel
              cases c
              · go_wp2_with fail
                refine HX.out.1.mono ?_
                rintro e w1 ⟨rfl, hw1⟩; rw [hw1]; clear hw1
                try dsimp only [rtup]
                go_wp2
                go_roundw
                case rel => exact ⟨k + 1, by omega, by go_num, trivial, hit_next HX.out.2.2.out (by rw [HX.out.2.1, Bool.false_and])⟩
                case measure => simp [intOf]; omega
              · by_cases ha : a = to
                · subst ha
                  by_cases hb : b = th
                  · subst hb
                    go_wp2_with fail
                    refine HX.out.1.mono ?_
                    rintro e w1 ⟨rfl, hw1⟩; rw [hw1]; clear hw1
                    try dsimp only [rtup]
                    go_wp2
                    go_ret
                    exact ⟨by rw [← HQ.out, any_hit hlt (by rw [HX.out.2.1, beq_self_eq_true, beq_self_eq_true]; rfl)]; rfl, rfl⟩
                  · go_wp2_with fail
                    refine HX.out.1.mono ?_
                    rintro e w1 ⟨rfl, hw1⟩; rw [hw1]; clear hw1
                    try dsimp only [rtup]
                    go_wp2
                    go_roundw
                    case rel => exact ⟨k + 1, by omega, by go_num, trivial, hit_next HX.out.2.2.out (by rw [HX.out.2.1, show (b == th) = false from beq_eq_false_iff_ne.2 hb, Bool.and_false, Bool.and_false])⟩
                    case measure => simp [intOf]; omega
                · go_wp2_with fail
                  refine HX.out.1.mono ?_
                  rintro e w1 ⟨rfl, hw1⟩; rw [hw1]; clear hw1
                  try dsimp only [rtup]
                  go_wp2
                  go_roundw
                  case rel => exact ⟨k + 1, by omega, by go_num, trivial, hit_next HX.out.2.2.out (by rw [HX.out.2.1, show (a == to) = false from beq_eq_false_iff_ne.2 ha, Bool.false_and, Bool.and_false])⟩
                  case measure => simp [intOf]; omega
            · obtain rfl : k = 8 := by omega
              have hltI : ¬ ((8 : Nat) : Int) + 1 ≤ 8 := by decide
              have hmiss := any_miss hrel.out
              clear hrel
              go_wp2
              go_ret
              exact ⟨by rw [← HQ.out, hmiss]; rfl, rfl⟩
end Go.Proofs.YtcaipmljlhjlcaaDoor
