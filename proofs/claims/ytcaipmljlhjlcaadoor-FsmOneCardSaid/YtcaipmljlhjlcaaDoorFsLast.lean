/-
  What may follow a pair at last; which pair can be at all; a state's name.
-/
import Derived.Test.YtcaipmljlhjlcaaDoorFsReach
namespace Go.Proofs.YtcaipmljlhjlcaaDoor
open Go.RowKit
set_option maxRecDepth 100000
set_option linter.unusedVariables false
set_option linter.unusedSimpArgs false
def pathQ (st rs to th : Int) : Bool := isP st rs && (isP to th && ((st == to && rs == th) || Es.any (pathP (reachM st.toNat) to th)))
def Box2 (w W : World) (a b : Int) : Prop := Below w.heap.size w W ∧ w.heap.size + 2 = W.heap.size ∧ W.cell? ⟨w.heap.size, 0, none⟩ = some (.int .i64 a) ∧ W.cell? ⟨w.heap.size + 1, 0, none⟩ = some (.int .i64 b)
theorem box2 (w : World) (a b : Int) : Box2 w ((w.alloc (.cells #[.int .i64 a] 3)).alloc (.cells #[.int .i64 b] 3)) a b := by
  have s1 : (w.alloc (.cells #[.int .i64 a] 3)).heap.size = w.heap.size + 1 := alloc_size ..
  refine ⟨(alloc_below w _).trans ((alloc_below _ _).mono (by omega)), by rw [alloc_size, s1], ?_, ?_⟩
  · rw [cell_of_row _ _ _ _ _ _ (by rw [heap_alloc_old _ _ (by omega)]; exact heap_alloc_new w _)]; rfl
  · rw [cell_of_row _ _ _ _ _ _ (by rw [← s1]; exact heap_alloc_new _ _)]; rfl
theorem reachM_len (n : Nat) : (reachM n).length = 4 := by
  unfold reachM roundsM roundsM roundsM roundsM roundsM roundM
  rw [foldM_len, foldM_len, foldM_len, foldM_len, List.length_set, List.length_replicate]
set_option maxHeartbeats 4000000 in
theorem path_f (st rs to th : Int) (w : World) (hT : Tb w) : Calls Tryd.prog 13 #[.int .i64 st, .int .i64 rs, .int .i64 to, .int .i64 th] w fun e w' => e = .returned (.bool (pathQ st rs to th)) ∧ Below w.heap.size w w' := by
  obtain ⟨W, hW⟩ : ∃ W, (w.alloc (.cells #[.int .i64 to] 3)).alloc (.cells #[.int .i64 th] 3) = W := ⟨_, rfl⟩
  have hB := box2 w to th
  rw [hW] at hB
  obtain ⟨hb, hsz, c2, c3⟩ := hB
  have HT := Lib.hid (hT.up hb)
  have hp1 := Lib.hid (ispair_f st rs W)
  have hp2 := Lib.hid (ispair_f to th W)
  have HB := Lib.hid (And.intro hb (And.intro hsz (And.intro c2 c3)))
  unfold pathQ
  clear hb hsz hT
  obtain ⟨q1, hq1⟩ : ∃ q, isP st rs = q := ⟨_, rfl⟩
  obtain ⟨q2, hq2⟩ : ∃ q, isP to th = q := ⟨_, rfl⟩
  rw [hq1] at hp1 ⊢
  rw [hq2] at hp2 ⊢
  clear hq2
  cases q1
  · rw [Bool.false_and]
    clear hq1
    go_enter Tryd.func13, Tryd.ntmps13
    go_wp2_with fail
    refine hp1.out.mono ?_
    rintro e w1 ⟨rfl, hw1⟩; rw [hw1]; clear hw1
    try dsimp only
    go_wp2
    go_ret
    exact ⟨rfl, HB.out.1⟩
  · cases q2
    · rw [Bool.false_and, Bool.and_false]
      clear hq1
      go_enter Tryd.func13, Tryd.ntmps13
      go_wp2_with fail
      refine hp1.out.mono ?_
      rintro e w1 ⟨rfl, hw1⟩; rw [hw1]; clear hw1
      try dsimp only
      go_wp2_with fail
      refine hp2.out.mono ?_
      rintro e w1 ⟨rfl, hw1⟩; rw [hw1]; clear hw1
      try dsimp only
      go_wp2
      go_ret
      exact ⟨rfl, HB.out.1⟩
    · rw [Bool.true_and, Bool.true_and]
      have hst := of_decide_eq_true hq1
      clear hq1
      obtain ⟨n, rfl⟩ : ∃ n : Nat, st = n := ⟨st.toNat, by omega⟩
      have hn : n < 4 := by omega
      clear hst
      rw [Int.toNat_natCast]
      have HQ := Lib.hid (reached_f n hn W HT.out)
      have hml := reachM_len n
      obtain ⟨m, hm⟩ : ∃ m, reachM n = m := ⟨_, rfl⟩
      rw [hm] at HQ hml ⊢
      clear hm
      match m, hml with
      | [r0, r1, r2, r3], hml =>
      by_cases e1 : (n : Int) = to
      · subst e1
        by_cases e2 : rs = th
        · subst e2
          rw [beq_self_eq_true, beq_self_eq_true, Bool.true_and, Bool.true_or]
          go_enter Tryd.func13, Tryd.ntmps13
          go_wp2_with fail
          refine hp1.out.mono ?_
          rintro e w1 ⟨rfl, hw1⟩; rw [hw1]; clear hw1
          try dsimp only
          go_wp2_with fail
          refine hp2.out.mono ?_
          rintro e w1 ⟨rfl, hw1⟩; rw [hw1]; clear hw1
          try dsimp only
          go_wp2_with fail
          refine HQ.out.mono ?_
          rintro e w2 ⟨rfl, hb2⟩
          have hs2 := hb2.size
          obtain ⟨V, hV⟩ : ∃ V, w2.alloc (.cells #[.bool r0, .bool r1, .bool r2, .bool r3] 42) = V := ⟨_, rfl⟩
          have hbV : Below W.heap.size W V := by rw [← hV]; exact hb2.trans ((alloc_below w2 _).mono hs2)
          have hx : V.heap[w2.heap.size]? = some (.cells #[.bool r0, .bool r1, .bool r2, .bool r3] 42) := by rw [← hV]; exact heap_alloc_new w2 _
          have hlt : w2.heap.size < V.heap.size := by rw [← hV, alloc_size]; omega
          have v2 : V.cell? ⟨w.heap.size, 0, none⟩ = some (.int .i64 (n : Int)) := by rw [hbV.cell (p := ⟨w.heap.size, 0, none⟩) (show w.heap.size < W.heap.size by have := HB.out.2.1; omega)]; exact c2
          have v3 : V.cell? ⟨w.heap.size + 1, 0, none⟩ = some (.int .i64 rs) := by rw [hbV.cell (p := ⟨w.heap.size + 1, 0, none⟩) (show w.heap.size + 1 < W.heap.size by have := HB.out.2.1; omega)]; exact c3
          have HE := Lib.hid (edges_f V (HT.out.up hbV))
          have HV := Lib.hid (And.intro hbV (And.intro hx hlt))
          clear hb2 hs2 hbV hx hlt
          try dsimp only
          go_wp2
          go_ret
          exact ⟨rfl, HB.out.1.trans (HV.out.1.mono (by have := HB.out.2.1; omega))⟩
        · have he2 : (rs == th) = false := beq_eq_false_iff_ne.2 e2
          rw [he2, Bool.and_false, Bool.false_or]
          go_enter Tryd.func13, Tryd.ntmps13
          go_wp2_with fail
          refine hp1.out.mono ?_
          rintro e w1 ⟨rfl, hw1⟩; rw [hw1]; clear hw1
          try dsimp only
          go_wp2_with fail
          refine hp2.out.mono ?_
          rintro e w1 ⟨rfl, hw1⟩; rw [hw1]; clear hw1
          try dsimp only
          go_wp2_with fail
          refine HQ.out.mono ?_
          rintro e w2 ⟨rfl, hb2⟩
          have hs2 := hb2.size
          obtain ⟨V, hV⟩ : ∃ V, w2.alloc (.cells #[.bool r0, .bool r1, .bool r2, .bool r3] 42) = V := ⟨_, rfl⟩
          have hbV : Below W.heap.size W V := by rw [← hV]; exact hb2.trans ((alloc_below w2 _).mono hs2)
          have hx : V.heap[w2.heap.size]? = some (.cells #[.bool r0, .bool r1, .bool r2, .bool r3] 42) := by rw [← hV]; exact heap_alloc_new w2 _
          have hlt : w2.heap.size < V.heap.size := by rw [← hV, alloc_size]; omega
          have v2 : V.cell? ⟨w.heap.size, 0, none⟩ = some (.int .i64 (n : Int)) := by rw [hbV.cell (p := ⟨w.heap.size, 0, none⟩) (show w.heap.size < W.heap.size by have := HB.out.2.1; omega)]; exact c2
          have v3 : V.cell? ⟨w.heap.size + 1, 0, none⟩ = some (.int .i64 th) := by rw [hbV.cell (p := ⟨w.heap.size + 1, 0, none⟩) (show w.heap.size + 1 < W.heap.size by have := HB.out.2.1; omega)]; exact c3
          have HE := Lib.hid (edges_f V (HT.out.up hbV))
          have HV := Lib.hid (And.intro hbV (And.intro hx hlt))
          clear hb2 hs2 hbV hx hlt
          try dsimp only
          go_wp2_with fail
          refine HE.out.mono ?_
          rintro e w4 ⟨A, c, rfl, hown, hbel⟩
          have k1 : ∀ W' : World, Below w4.heap.size w4 W' → W'.rangeAt w2.heap.size 0 (([r0, r1, r2, r3] : List Bool).map Value.bool) ∧ W'.cell? ⟨w.heap.size, 0, none⟩ = some (.int .i64 (n : Int)) ∧ W'.cell? ⟨w.heap.size + 1, 0, none⟩ = some (.int .i64 th) := by
            intro W' hW'
            have hs1 := hbel.size
            have hs2 := HB.out.2.1
            have hs3 := HV.out.1.size
            have hs4 := HV.out.2.2
            refine ⟨fun j u hj => ?_, ?_, ?_⟩
            · rw [hW'.cell (p := ⟨w2.heap.size, 0 + j, none⟩) (show w2.heap.size < w4.heap.size by omega), hbel.cell (p := ⟨w2.heap.size, 0 + j, none⟩) (show w2.heap.size < V.heap.size by omega), Nat.zero_add, cell_of_row _ _ _ _ _ _ HV.out.2.1]
              rw [← Array.getElem?_toList]; exact hj
            · rw [hW'.cell (p := ⟨w.heap.size, 0, none⟩) (show w.heap.size < w4.heap.size by omega), hbel.cell (p := ⟨w.heap.size, 0, none⟩) (show w.heap.size < V.heap.size by omega)]; exact v2
            · rw [hW'.cell (p := ⟨w.heap.size + 1, 0, none⟩) (show w.heap.size + 1 < w4.heap.size by omega), hbel.cell (p := ⟨w.heap.size + 1, 0, none⟩) (show w.heap.size + 1 < V.heap.size by omega)]; exact v3
          have hct := Lib.hid (contains_f 23 #[.pointer (some ⟨w2.heap.size, 0, none⟩), .pointer (some ⟨w.heap.size, 0, none⟩), .pointer (some ⟨w.heap.size + 1, 0, none⟩)] (pathP [r0, r1, r2, r3] (n : Int) th) fn_path1 A 17 c Es w4 (edges_at hown) (by decide) (fun W' s hW' hs => by rw [app3]; exact path1_f _ _ _ _ (n : Int) th s W' rfl (k1 W' hW').1 (k1 W' hW').2.1 (k1 W' hW').2.2 ⟨(Es_fr s hs).1, (Es_fr s hs).2.1⟩))
          have H4 := Lib.hid (HB.out.1.trans ((HV.out.1.trans (hbel.mono HV.out.1.size)).mono (by have := HB.out.2.1; omega)))
          have h4s := Lib.hid (And.intro hbel.size HV.out.1.size)
          clear hown hbel k1
          try dsimp only
          go_wp2_with fail
          refine hct.out.mono ?_
          rintro e w5 ⟨rfl, hb5⟩
          try dsimp only
          go_wp2
          go_ret
          exact ⟨rfl, H4.out.trans (hb5.mono (by have := h4s.out.1; have := h4s.out.2; have := HB.out.2.1; omega))⟩
      · have he1 : ((n : Int) == to) = false := beq_eq_false_iff_ne.2 e1
        rw [he1, Bool.false_and, Bool.false_or]
        go_enter Tryd.func13, Tryd.ntmps13
        go_wp2_with fail
        refine hp1.out.mono ?_
        rintro e w1 ⟨rfl, hw1⟩; rw [hw1]; clear hw1
        try dsimp only
        go_wp2_with fail
        refine hp2.out.mono ?_
        rintro e w1 ⟨rfl, hw1⟩; rw [hw1]; clear hw1
        try dsimp only
        go_wp2_with fail
        refine HQ.out.mono ?_
        rintro e w2 ⟨rfl, hb2⟩
        have hs2 := hb2.size
        obtain ⟨V, hV⟩ : ∃ V, w2.alloc (.cells #[.bool r0, .bool r1, .bool r2, .bool r3] 42) = V := ⟨_, rfl⟩
        have hbV : Below W.heap.size W V := by rw [← hV]; exact hb2.trans ((alloc_below w2 _).mono hs2)
        have hx : V.heap[w2.heap.size]? = some (.cells #[.bool r0, .bool r1, .bool r2, .bool r3] 42) := by rw [← hV]; exact heap_alloc_new w2 _
        have hlt : w2.heap.size < V.heap.size := by rw [← hV, alloc_size]; omega
        have v2 : V.cell? ⟨w.heap.size, 0, none⟩ = some (.int .i64 to) := by rw [hbV.cell (p := ⟨w.heap.size, 0, none⟩) (show w.heap.size < W.heap.size by have := HB.out.2.1; omega)]; exact c2
        have v3 : V.cell? ⟨w.heap.size + 1, 0, none⟩ = some (.int .i64 th) := by rw [hbV.cell (p := ⟨w.heap.size + 1, 0, none⟩) (show w.heap.size + 1 < W.heap.size by have := HB.out.2.1; omega)]; exact c3
        have HE := Lib.hid (edges_f V (HT.out.up hbV))
        have HV := Lib.hid (And.intro hbV (And.intro hx hlt))
        clear hb2 hs2 hbV hx hlt
        try dsimp only
        go_wp2_with fail
        refine HE.out.mono ?_
        rintro e w4 ⟨A, c, rfl, hown, hbel⟩
        have k1 : ∀ W' : World, Below w4.heap.size w4 W' → W'.rangeAt w2.heap.size 0 (([r0, r1, r2, r3] : List Bool).map Value.bool) ∧ W'.cell? ⟨w.heap.size, 0, none⟩ = some (.int .i64 to) ∧ W'.cell? ⟨w.heap.size + 1, 0, none⟩ = some (.int .i64 th) := by
          intro W' hW'
          have hs1 := hbel.size
          have hs2 := HB.out.2.1
          have hs3 := HV.out.1.size
          have hs4 := HV.out.2.2
          refine ⟨fun j u hj => ?_, ?_, ?_⟩
          · rw [hW'.cell (p := ⟨w2.heap.size, 0 + j, none⟩) (show w2.heap.size < w4.heap.size by omega), hbel.cell (p := ⟨w2.heap.size, 0 + j, none⟩) (show w2.heap.size < V.heap.size by omega), Nat.zero_add, cell_of_row _ _ _ _ _ _ HV.out.2.1]
            rw [← Array.getElem?_toList]; exact hj
          · rw [hW'.cell (p := ⟨w.heap.size, 0, none⟩) (show w.heap.size < w4.heap.size by omega), hbel.cell (p := ⟨w.heap.size, 0, none⟩) (show w.heap.size < V.heap.size by omega)]; exact v2
          · rw [hW'.cell (p := ⟨w.heap.size + 1, 0, none⟩) (show w.heap.size + 1 < w4.heap.size by omega), hbel.cell (p := ⟨w.heap.size + 1, 0, none⟩) (show w.heap.size + 1 < V.heap.size by omega)]; exact v3
        have hct := Lib.hid (contains_f 23 #[.pointer (some ⟨w2.heap.size, 0, none⟩), .pointer (some ⟨w.heap.size, 0, none⟩), .pointer (some ⟨w.heap.size + 1, 0, none⟩)] (pathP [r0, r1, r2, r3] to th) fn_path1 A 17 c Es w4 (edges_at hown) (by decide) (fun W' s hW' hs => by rw [app3]; exact path1_f _ _ _ _ to th s W' rfl (k1 W' hW').1 (k1 W' hW').2.1 (k1 W' hW').2.2 ⟨(Es_fr s hs).1, (Es_fr s hs).2.1⟩))
        have H4 := Lib.hid (HB.out.1.trans ((HV.out.1.trans (hbel.mono HV.out.1.size)).mono (by have := HB.out.2.1; omega)))
        have h4s := Lib.hid (And.intro hbel.size HV.out.1.size)
        clear hown hbel k1
        try dsimp only
        go_wp2_with fail
        refine hct.out.mono ?_
        rintro e w5 ⟨rfl, hb5⟩
        try dsimp only
        go_wp2
        go_ret
        exact ⟨rfl, H4.out.trans (hb5.mono (by have := h4s.out.1; have := h4s.out.2; have := HB.out.2.1; omega))⟩
theorem right_f (st rs : Int) (w : World) (hT : Tb w) : Calls Tryd.prog 15 #[.int .i64 st, .int .i64 rs] w fun e w' => e = .returned (.bool (pathQ 0 0 st rs)) ∧ Below w.heap.size w w' := by
  have hp := Lib.hid (path_f 0 0 st rs w hT)
  obtain ⟨q, hq⟩ : ∃ q, pathQ 0 0 st rs = q := ⟨_, rfl⟩
  rw [hq] at hp ⊢
  clear hq
  go_enter Tryd.func15, Tryd.ntmps15
  go_wp2_with fail
  refine hp.out.mono ?_
  rintro e w1 ⟨rfl, hb⟩
  try dsimp only
  go_wp2
  go_ret
  exact ⟨rfl, hb⟩
def nameQ (st : Int) : ByteArray := if st = 0 then ⟨#[73, 100, 108, 101]⟩ else if st = 1 then ⟨#[68, 111, 119, 110, 108, 111, 97, 100, 105, 110, 103]⟩ else if st = 2 then ⟨#[68, 111, 119, 110, 108, 111, 97, 100, 101, 100]⟩ else if st = 3 then ⟨#[85, 112, 100, 97, 116, 105, 110, 103]⟩ else ⟨#[]⟩
theorem name_f (st : Int) (w : World) : Calls Tryd.prog 17 #[.int .i64 st] w fun e w' => e = .returned (.string (nameQ st)) ∧ w' = w := by
  unfold nameQ
  by_cases h0 : st = 0
  · subst h0
    rw [if_pos rfl]
    go_enter Tryd.func17, Tryd.ntmps17
    go_wp2
    go_ret
    exact ⟨rfl, rfl⟩
  rw [if_neg h0]
  by_cases h1 : st = 1
  · subst h1
    rw [if_pos rfl]
    go_enter Tryd.func17, Tryd.ntmps17
    go_wp2
    go_ret
    exact ⟨rfl, rfl⟩
  rw [if_neg h1]
  by_cases h2 : st = 2
  · subst h2
    rw [if_pos rfl]
    go_enter Tryd.func17, Tryd.ntmps17
    go_wp2
    go_ret
    exact ⟨rfl, rfl⟩
  rw [if_neg h2]
  by_cases h3 : st = 3
  · subst h3
    rw [if_pos rfl]
    go_enter Tryd.func17, Tryd.ntmps17
    go_wp2
    go_ret
    exact ⟨rfl, rfl⟩
  rw [if_neg h3]
  go_enter Tryd.func17, Tryd.ntmps17
  go_wp2
  go_ret
  exact ⟨rfl, rfl⟩
end Go.Proofs.YtcaipmljlhjlcaaDoor
