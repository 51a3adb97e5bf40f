/-
  What may follow a pair at once.
-/
import Derived.Test.YtcaipmljlhjlcaaDoorFsPath
namespace Go.Proofs.YtcaipmljlhjlcaaDoor
open Go.RowKit
set_option maxRecDepth 100000
set_option linter.unusedVariables false
set_option linter.unusedSimpArgs false
theorem Es_fr : ∀ s ∈ Es, 0 ≤ s.fr ∧ s.fr < 4 ∧ 0 ≤ s.to ∧ s.to < 4 := by decide
theorem edges_at {w w' : World} {A : Option Addr} {c : Nat} (h : w'.ownsRow w.heap.size 24 4 (.slice A 17 c) 17 (edK.all Es)) : edK.At w' w'.heap.size A 17 Es := by
  obtain ⟨A', c', e0, _, _, hat, _⟩ := RowK.At.of_own h
  injection e0 with e1 e2 e3
  subst e1
  exact hat
def mayQ (st rs to th : Int) : Bool := isP st rs && (isP to th && ((st == to && rs == th) || Es.any (mayP st to th)))
/-- Three boxes. -/
def Box3 (w W : World) (a b c : Int) : Prop := Below w.heap.size w W ∧ w.heap.size + 3 = W.heap.size ∧ W.cell? ⟨w.heap.size, 0, none⟩ = some (.int .i64 a) ∧ W.cell? ⟨w.heap.size + 1, 0, none⟩ = some (.int .i64 b) ∧ W.cell? ⟨w.heap.size + 2, 0, none⟩ = some (.int .i64 c)
theorem box3 (w : World) (a b c : Int) : Box3 w (((w.alloc (.cells #[.int .i64 a] 3)).alloc (.cells #[.int .i64 b] 3)).alloc (.cells #[.int .i64 c] 3)) a b c := by
  have s1 : (w.alloc (.cells #[.int .i64 a] 3)).heap.size = w.heap.size + 1 := alloc_size ..
  have s2 : ((w.alloc (.cells #[.int .i64 a] 3)).alloc (.cells #[.int .i64 b] 3)).heap.size = w.heap.size + 2 := by rw [alloc_size, s1]
  refine ⟨((alloc_below w _).trans ((alloc_below _ _).mono (by omega))).trans ((alloc_below _ _).mono (by omega)), by rw [alloc_size, s2], ?_, ?_, ?_⟩
  · rw [cell_of_row _ _ _ _ _ _ (by rw [heap_alloc_old _ _ (by omega), heap_alloc_old _ _ (by omega)]; exact heap_alloc_new w _)]; rfl
  · rw [cell_of_row _ _ _ _ _ _ (by rw [heap_alloc_old _ _ (by omega), ← s1]; exact heap_alloc_new _ _)]; rfl
  · rw [cell_of_row _ _ _ _ _ _ (by rw [← s2]; exact heap_alloc_new _ _)]; rfl
theorem app3 (a b c d : Value) : (#[a] ++ #[b, c, d] : Array Value) = #[a, b, c, d] := rfl
set_option maxHeartbeats 4000000 in
theorem may_f (st rs to th : Int) (w : World) (hT : Tb w) : Calls Tryd.prog 11 #[.int .i64 st, .int .i64 rs, .int .i64 to, .int .i64 th] w fun e w' => e = .returned (.bool (mayQ st rs to th)) ∧ Below w.heap.size w w' := by
  obtain ⟨W, hW⟩ : ∃ W, ((w.alloc (.cells #[.int .i64 st] 3)).alloc (.cells #[.int .i64 to] 3)).alloc (.cells #[.int .i64 th] 3) = W := ⟨_, rfl⟩
  have hB := box3 w st to th
  rw [hW] at hB
  obtain ⟨hb, hsz, c1, c2, c3⟩ := hB
  have HT := Lib.hid (hT.up hb)
  have hp1 := Lib.hid (ispair_f st rs W)
  have hp2 := Lib.hid (ispair_f to th W)
  have HB := Lib.hid (And.intro hb (And.intro hsz (And.intro c1 (And.intro c2 c3))))
  unfold mayQ
  clear hb hsz hT
  obtain ⟨q1, hq1⟩ : ∃ q, isP st rs = q := ⟨_, rfl⟩
  obtain ⟨q2, hq2⟩ : ∃ q, isP to th = q := ⟨_, rfl⟩
  rw [hq1] at hp1 ⊢
  rw [hq2] at hp2 ⊢
  clear hq1 hq2
  cases q1
  · rw [Bool.false_and]
    go_enter Tryd.func11, Tryd.ntmps11
    go_wp2_with fail
    refine hp1.out.mono ?_
    rintro e w1 ⟨rfl, hw1⟩; rw [hw1]; clear hw1
    try dsimp only
    go_wp2
    go_ret
    exact ⟨rfl, HB.out.1⟩
  · cases q2
    · rw [Bool.false_and, Bool.and_false]
      go_enter Tryd.func11, Tryd.ntmps11
      go_wp2_with fail
      refine hp1.out.mono ?_
      rintro e w1 ⟨rfl, hw1⟩; rw [hw1]; clear hw1
      try dsimp only
      go_wp2_with fail
      refine hp2.out.mono ?_
      rintro e w1 ⟨rfl, hw1⟩; rw [hw1]; clear hw1
      try dsimp only
      go_wp2
      go_ret
      exact ⟨rfl, HB.out.1⟩
    · rw [Bool.true_and, Bool.true_and]
      have HE := Lib.hid (edges_f W HT.out)
      by_cases e1 : st = to
      · by_cases e2 : rs = th
        · subst e1 e2
          rw [beq_self_eq_true, beq_self_eq_true, Bool.true_and, Bool.true_or]
          go_enter Tryd.func11, Tryd.ntmps11
          go_wp2_with fail
          refine hp1.out.mono ?_
          rintro e w1 ⟨rfl, hw1⟩; rw [hw1]; clear hw1
          try dsimp only
          go_wp2_with fail
          refine hp2.out.mono ?_
          rintro e w1 ⟨rfl, hw1⟩; rw [hw1]; clear hw1
          try dsimp only
          go_wp2
          go_ret
          exact ⟨rfl, HB.out.1⟩
        · subst e1
          have he2 : (rs == th) = false := beq_eq_false_iff_ne.2 e2
          rw [he2, Bool.and_false, Bool.false_or]
          go_enter Tryd.func11, Tryd.ntmps11
          go_wp2_with fail
          refine hp1.out.mono ?_
          rintro e w1 ⟨rfl, hw1⟩; rw [hw1]; clear hw1
          try dsimp only
          go_wp2_with fail
          refine hp2.out.mono ?_
          rintro e w1 ⟨rfl, hw1⟩; rw [hw1]; clear hw1
          try dsimp only
          go_wp2_with fail
          refine HE.out.mono ?_
          rintro e w4 ⟨A, c, rfl, hown, hbel⟩
          have k1 : ∀ W' : World, Below w4.heap.size w4 W' → W'.cell? ⟨w.heap.size, 0, none⟩ = some (.int .i64 st) ∧ W'.cell? ⟨w.heap.size + 1, 0, none⟩ = some (.int .i64 st) ∧ W'.cell? ⟨w.heap.size + 2, 0, none⟩ = some (.int .i64 th) := by
            intro W' hW'
            have hs1 := hbel.size
            have hs2 := HB.out.2.1
            refine ⟨?_, ?_, ?_⟩
            · rw [hW'.cell (p := ⟨w.heap.size, 0, none⟩) (show w.heap.size < w4.heap.size by omega), hbel.cell (p := ⟨w.heap.size, 0, none⟩) (show w.heap.size < W.heap.size by omega)]; exact HB.out.2.2.1
            · rw [hW'.cell (p := ⟨w.heap.size + 1, 0, none⟩) (show w.heap.size + 1 < w4.heap.size by omega), hbel.cell (p := ⟨w.heap.size + 1, 0, none⟩) (show w.heap.size + 1 < W.heap.size by omega)]; exact HB.out.2.2.2.1
            · rw [hW'.cell (p := ⟨w.heap.size + 2, 0, none⟩) (show w.heap.size + 2 < w4.heap.size by omega), hbel.cell (p := ⟨w.heap.size + 2, 0, none⟩) (show w.heap.size + 2 < W.heap.size by omega)]; exact HB.out.2.2.2.2
          have hct := Lib.hid (contains_f 20 #[.pointer (some ⟨w.heap.size, 0, none⟩), .pointer (some ⟨w.heap.size + 1, 0, none⟩), .pointer (some ⟨w.heap.size + 2, 0, none⟩)] (mayP st st th) fn_may1 A 17 c Es w4 (edges_at hown) (by decide) (fun W' s hW' hs => by rw [app3]; exact may1_f _ _ _ st st th s W' (k1 W' hW').1 (k1 W' hW').2.1 (k1 W' hW').2.2))
          clear k1
          have H4 := Lib.hid (HB.out.1.trans (hbel.mono (by have := HB.out.2.1; omega)))
          have h4s := Lib.hid hbel.size
          clear hown hbel
          try dsimp only
          go_wp2_with fail
          refine hct.out.mono ?_
          rintro e w5 ⟨rfl, hb5⟩
          try dsimp only
          go_wp2
          go_ret
          exact ⟨rfl, H4.out.trans (hb5.mono (by have := h4s.out; have := HB.out.2.1; omega))⟩
      · rw [show (st == to) = false from beq_eq_false_iff_ne.2 e1, Bool.false_and, Bool.false_or]
        go_enter Tryd.func11, Tryd.ntmps11
        go_wp2_with fail
        refine hp1.out.mono ?_
        rintro e w1 ⟨rfl, hw1⟩; rw [hw1]; clear hw1
        try dsimp only
        go_wp2_with fail
        refine hp2.out.mono ?_
        rintro e w1 ⟨rfl, hw1⟩; rw [hw1]; clear hw1
        try dsimp only
        go_wp2_with fail
        refine HE.out.mono ?_
        rintro e w4 ⟨A, c, rfl, hown, hbel⟩
        have k1 : ∀ W' : World, Below w4.heap.size w4 W' → W'.cell? ⟨w.heap.size, 0, none⟩ = some (.int .i64 st) ∧ W'.cell? ⟨w.heap.size + 1, 0, none⟩ = some (.int .i64 to) ∧ W'.cell? ⟨w.heap.size + 2, 0, none⟩ = some (.int .i64 th) := by
          intro W' hW'
          have hs1 := hbel.size
          have hs2 := HB.out.2.1
          refine ⟨?_, ?_, ?_⟩
          · rw [hW'.cell (p := ⟨w.heap.size, 0, none⟩) (show w.heap.size < w4.heap.size by omega), hbel.cell (p := ⟨w.heap.size, 0, none⟩) (show w.heap.size < W.heap.size by omega)]; exact HB.out.2.2.1
          · rw [hW'.cell (p := ⟨w.heap.size + 1, 0, none⟩) (show w.heap.size + 1 < w4.heap.size by omega), hbel.cell (p := ⟨w.heap.size + 1, 0, none⟩) (show w.heap.size + 1 < W.heap.size by omega)]; exact HB.out.2.2.2.1
          · rw [hW'.cell (p := ⟨w.heap.size + 2, 0, none⟩) (show w.heap.size + 2 < w4.heap.size by omega), hbel.cell (p := ⟨w.heap.size + 2, 0, none⟩) (show w.heap.size + 2 < W.heap.size by omega)]; exact HB.out.2.2.2.2
        have hct := Lib.hid (contains_f 20 #[.pointer (some ⟨w.heap.size, 0, none⟩), .pointer (some ⟨w.heap.size + 1, 0, none⟩), .pointer (some ⟨w.heap.size + 2, 0, none⟩)] (mayP st to th) fn_may1 A 17 c Es w4 (edges_at hown) (by decide) (fun W' s hW' hs => by rw [app3]; exact may1_f _ _ _ st to th s W' (k1 W' hW').1 (k1 W' hW').2.1 (k1 W' hW').2.2))
        clear k1
        have H4 := Lib.hid (HB.out.1.trans (hbel.mono (by have := HB.out.2.1; omega)))
        have h4s := Lib.hid hbel.size
        clear hown hbel
        try dsimp only
        go_wp2_with fail
        refine hct.out.mono ?_
        rintro e w5 ⟨rfl, hb5⟩
        try dsimp only
        go_wp2
        go_ret
        exact ⟨rfl, H4.out.trans (hb5.mono (by have := h4s.out; have := HB.out.2.1; omega))⟩
end Go.Proofs.YtcaipmljlhjlcaaDoor
