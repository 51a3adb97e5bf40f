/-
  Which values are right: the program's answer and the document's.
-/
import Derived.Test.YtbclgalocipmfaaDoorPlRunes
namespace Go.Proofs.YtbclgalocipmfaaDoor
open Go.RowKit
set_option maxRecDepth 100000
set_option maxRecDepth 100000
set_option linter.unusedVariables false
def okN (o : Option Nat) : Nat := match o with | some _ => 1 | none => 0
def rightB (k n : Int) (sl ok bl : Nat) (o i : Int) : Bool :=
  decide ((k = 1 ∨ k = 5) ∧ sl = 0 ∧ bl = 0 ∧ o = 0 ∧ i = 0 ∨ k = 2 ∧ (n = 0 ∨ n = 1) ∧ sl = 0 ∧ bl = 0 ∧ o = 0 ∧ i = 0 ∨ k = 3 ∧ n = 0 ∧ sl ≤ 200 ∧ ok = 1 ∧ bl = 0 ∧ o = 0 ∧ i = 0 ∨ k = 4 ∧ n = 0 ∧ sl = 0 ∧ bl ≤ 200 ∧ o = 0 ∧ i = 0 ∨ k = 6 ∧ n = 0 ∧ sl = 0 ∧ bl = 0 ∧ 0 ≤ o ∧ o ≤ 65535 ∧ 0 ≤ i ∧ i ≤ 65535)
theorem str_nil {s : ByteArray} (h : s.size = 0) : s = ⟨#[]⟩ := by
  cases s with
  | mk a => congr 1; exact Array.eq_empty_of_size_eq_zero h
theorem str_some {s : ByteArray} (h : ¬ s.size = 0) : ¬ s.toList = [] := by
  intro e
  rw [ByteArray.toList_eq] at e
  have e2 := congrArg List.length e
  rw [Array.length_toList] at e2
  exact h e2
theorem str_false {s : ByteArray} (h : ¬ s.size = 0) : s.toList.isEmpty = false := by
  cases e : s.toList with
  | nil => exact absurd e (str_some h)
  | cons a b => rfl
theorem isPlain_f (s : ByteArray) (w : World) (hs : s.size ≤ 1000000) (hT : Tabs w) : Calls Tryd.prog 65 #[.string s] w fun e w' => e = .returned (.bool (decide (okN (runesQ s.data.toList) = 1))) ∧ Below w.heap.size w w' := by
  have c := runes_f s w hs hT
  obtain ⟨R, hR⟩ : ∃ R, runesQ s.data.toList = R := ⟨_, rfl⟩
  rw [hR] at c ⊢
  clear hR
  cases R with
  | none =>
    rw [show decide (okN none = 1) = false from rfl]
    unfold runesEnd at c
    go_enter Tryd.func65, Tryd.ntmps65
    go_wp2_with (go_at_call 35; refine c.mono ?_; rintro e w1 ⟨rfl, hb⟩)
    go_ret
    exact ⟨rfl, hb⟩
  | some x =>
    rw [show decide (okN (some x) = 1) = true from rfl]
    unfold runesEnd at c
    go_enter Tryd.func65, Tryd.ntmps65
    go_wp2_with (go_at_call 35; refine c.mono ?_; rintro e w1 ⟨rfl, hb⟩)
    go_ret
    exact ⟨rfl, hb⟩

set_option maxHeartbeats 16000000 in
theorem right_f (k n : Int) (s : ByteArray) (bA : Option Addr) (bl bc : Nat) (o i : Int) (w : World) (hs : s.size ≤ 1000000) (hT : Tabs w) : Calls Tryd.prog 36 #[.agg #[.int .i64 k, .int .i64 n, .string s, .slice bA bl bc, .int .i64 o, .int .i64 i]] w fun e w' => e = .returned (.bool (rightB k n s.size (okN (runesQ s.data.toList)) bl o i)) ∧ Below w.heap.size w w' := by
  obtain ⟨q, hq⟩ : ∃ q, okN (runesQ s.data.toList) = q := ⟨_, rfl⟩
  rw [hq]
  have cP := fun W hW => isPlain_f s W hs hW
  rw [hq] at cP
  by_cases cK1 : k = 1
  · obtain rfl : k = 1 := cK1
    by_cases cS : s.size = 0
    · obtain rfl := str_nil cS
      by_cases cB : bl = 0
      · have fB : ((bl : Int) == 0) = true := beq_iff_eq.2 (by omega)
        have gB : (bl : Int) = 0 := by omega
        have hB : ¬ (0 : Int) < bl := by omega
        by_cases cO : o = 0
        · obtain rfl : o = 0 := cO
          by_cases cI : i = 0
          · obtain rfl : i = 0 := cI
            have hv : rightB 1 n (ByteArray.size ⟨#[]⟩) q bl 0 0 = true := decide_eq_true (by have z : ByteArray.size ⟨#[]⟩ = 0 := rfl; omega)
            rw [hv]
            clear hv
            clear hT cP
            go_enter Tryd.func36, Tryd.ntmps36
            go_wp2
            go_ret
            exact ⟨rfl, alloc_below w _⟩
          have fI : (i == 0) = false := beq_eq_false_iff_ne.2 cI
          have gI : (i != 0) = true := bne_iff_ne.2 cI
          have hv : rightB 1 n (ByteArray.size ⟨#[]⟩) q bl 0 i = false := decide_eq_false (by have z : ByteArray.size ⟨#[]⟩ = 0 := rfl; omega)
          rw [hv]
          clear hv
          clear hT cP
          go_enter Tryd.func36, Tryd.ntmps36
          go_wp2
          go_ret
          exact ⟨rfl, alloc_below w _⟩
        have fO : (o == 0) = false := beq_eq_false_iff_ne.2 cO
        have gO : (o != 0) = true := bne_iff_ne.2 cO
        have hv : rightB 1 n (ByteArray.size ⟨#[]⟩) q bl o i = false := decide_eq_false (by have z : ByteArray.size ⟨#[]⟩ = 0 := rfl; omega)
        rw [hv]
        clear hv
        clear hT cP
        go_enter Tryd.func36, Tryd.ntmps36
        go_wp2
        go_ret
        exact ⟨rfl, alloc_below w _⟩
      have fB : ((bl : Int) == 0) = false := beq_eq_false_iff_ne.2 (by omega)
      have gB : ¬ (bl : Int) = 0 := by omega
      have hB : (0 : Int) < bl := by omega
      have hv : rightB 1 n (ByteArray.size ⟨#[]⟩) q bl o i = false := decide_eq_false (by have z : ByteArray.size ⟨#[]⟩ = 0 := rfl; omega)
      rw [hv]
      clear hv
      clear hT cP
      go_enter Tryd.func36, Tryd.ntmps36
      go_wp2
      go_ret
      exact ⟨rfl, alloc_below w _⟩
    have fS := str_some cS
    have gS := str_false cS
    have hS : ((s.toList == []) = false) := beq_eq_false_iff_ne.2 fS
    have hv : rightB 1 n s.size q bl o i = false := decide_eq_false (by omega)
    rw [hv]
    clear hv
    clear hT cP
    go_enter Tryd.func36, Tryd.ntmps36
    go_wp2
    go_ret
    exact ⟨rfl, alloc_below w _⟩
  by_cases cK5 : k = 5
  · obtain rfl : k = 5 := cK5
    by_cases cS : s.size = 0
    · obtain rfl := str_nil cS
      by_cases cB : bl = 0
      · have fB : ((bl : Int) == 0) = true := beq_iff_eq.2 (by omega)
        have gB : (bl : Int) = 0 := by omega
        have hB : ¬ (0 : Int) < bl := by omega
        by_cases cO : o = 0
        · obtain rfl : o = 0 := cO
          by_cases cI : i = 0
          · obtain rfl : i = 0 := cI
            have hv : rightB 5 n (ByteArray.size ⟨#[]⟩) q bl 0 0 = true := decide_eq_true (by have z : ByteArray.size ⟨#[]⟩ = 0 := rfl; omega)
            rw [hv]
            clear hv
            clear hT cP
            go_enter Tryd.func36, Tryd.ntmps36
            go_wp2
            go_ret
            exact ⟨rfl, alloc_below w _⟩
          have fI : (i == 0) = false := beq_eq_false_iff_ne.2 cI
          have gI : (i != 0) = true := bne_iff_ne.2 cI
          have hv : rightB 5 n (ByteArray.size ⟨#[]⟩) q bl 0 i = false := decide_eq_false (by have z : ByteArray.size ⟨#[]⟩ = 0 := rfl; omega)
          rw [hv]
          clear hv
          clear hT cP
          go_enter Tryd.func36, Tryd.ntmps36
          go_wp2
          go_ret
          exact ⟨rfl, alloc_below w _⟩
        have fO : (o == 0) = false := beq_eq_false_iff_ne.2 cO
        have gO : (o != 0) = true := bne_iff_ne.2 cO
        have hv : rightB 5 n (ByteArray.size ⟨#[]⟩) q bl o i = false := decide_eq_false (by have z : ByteArray.size ⟨#[]⟩ = 0 := rfl; omega)
        rw [hv]
        clear hv
        clear hT cP
        go_enter Tryd.func36, Tryd.ntmps36
        go_wp2
        go_ret
        exact ⟨rfl, alloc_below w _⟩
      have fB : ((bl : Int) == 0) = false := beq_eq_false_iff_ne.2 (by omega)
      have gB : ¬ (bl : Int) = 0 := by omega
      have hB : (0 : Int) < bl := by omega
      have hv : rightB 5 n (ByteArray.size ⟨#[]⟩) q bl o i = false := decide_eq_false (by have z : ByteArray.size ⟨#[]⟩ = 0 := rfl; omega)
      rw [hv]
      clear hv
      clear hT cP
      go_enter Tryd.func36, Tryd.ntmps36
      go_wp2
      go_ret
      exact ⟨rfl, alloc_below w _⟩
    have fS := str_some cS
    have gS := str_false cS
    have hS : ((s.toList == []) = false) := beq_eq_false_iff_ne.2 fS
    have hv : rightB 5 n s.size q bl o i = false := decide_eq_false (by omega)
    rw [hv]
    clear hv
    clear hT cP
    go_enter Tryd.func36, Tryd.ntmps36
    go_wp2
    go_ret
    exact ⟨rfl, alloc_below w _⟩
  by_cases cK2 : k = 2
  · obtain rfl : k = 2 := cK2
    by_cases cN0 : n = 0
    · obtain rfl : n = 0 := cN0
      by_cases cS : s.size = 0
      · obtain rfl := str_nil cS
        by_cases cB : bl = 0
        · have fB : ((bl : Int) == 0) = true := beq_iff_eq.2 (by omega)
          have gB : (bl : Int) = 0 := by omega
          have hB : ¬ (0 : Int) < bl := by omega
          by_cases cO : o = 0
          · obtain rfl : o = 0 := cO
            by_cases cI : i = 0
            · obtain rfl : i = 0 := cI
              have hv : rightB 2 0 (ByteArray.size ⟨#[]⟩) q bl 0 0 = true := decide_eq_true (by have z : ByteArray.size ⟨#[]⟩ = 0 := rfl; omega)
              rw [hv]
              clear hv
              clear hT cP
              go_enter Tryd.func36, Tryd.ntmps36
              go_wp2
              go_ret
              exact ⟨rfl, alloc_below w _⟩
            have fI : (i == 0) = false := beq_eq_false_iff_ne.2 cI
            have gI : (i != 0) = true := bne_iff_ne.2 cI
            have hv : rightB 2 0 (ByteArray.size ⟨#[]⟩) q bl 0 i = false := decide_eq_false (by have z : ByteArray.size ⟨#[]⟩ = 0 := rfl; omega)
            rw [hv]
            clear hv
            clear hT cP
            go_enter Tryd.func36, Tryd.ntmps36
            go_wp2
            go_ret
            exact ⟨rfl, alloc_below w _⟩
          have fO : (o == 0) = false := beq_eq_false_iff_ne.2 cO
          have gO : (o != 0) = true := bne_iff_ne.2 cO
          have hv : rightB 2 0 (ByteArray.size ⟨#[]⟩) q bl o i = false := decide_eq_false (by have z : ByteArray.size ⟨#[]⟩ = 0 := rfl; omega)
          rw [hv]
          clear hv
          clear hT cP
          go_enter Tryd.func36, Tryd.ntmps36
          go_wp2
          go_ret
          exact ⟨rfl, alloc_below w _⟩
        have fB : ((bl : Int) == 0) = false := beq_eq_false_iff_ne.2 (by omega)
        have gB : ¬ (bl : Int) = 0 := by omega
        have hB : (0 : Int) < bl := by omega
        have hv : rightB 2 0 (ByteArray.size ⟨#[]⟩) q bl o i = false := decide_eq_false (by have z : ByteArray.size ⟨#[]⟩ = 0 := rfl; omega)
        rw [hv]
        clear hv
        clear hT cP
        go_enter Tryd.func36, Tryd.ntmps36
        go_wp2
        go_ret
        exact ⟨rfl, alloc_below w _⟩
      have fS := str_some cS
      have gS := str_false cS
      have hS : ((s.toList == []) = false) := beq_eq_false_iff_ne.2 fS
      have hv : rightB 2 0 s.size q bl o i = false := decide_eq_false (by omega)
      rw [hv]
      clear hv
      clear hT cP
      go_enter Tryd.func36, Tryd.ntmps36
      go_wp2
      go_ret
      exact ⟨rfl, alloc_below w _⟩
    have fN0 : (n == 0) = false := beq_eq_false_iff_ne.2 cN0
    have gN0 : (n != 0) = true := bne_iff_ne.2 cN0
    by_cases cN1 : n = 1
    · obtain rfl : n = 1 := cN1
      by_cases cS : s.size = 0
      · obtain rfl := str_nil cS
        by_cases cB : bl = 0
        · have fB : ((bl : Int) == 0) = true := beq_iff_eq.2 (by omega)
          have gB : (bl : Int) = 0 := by omega
          have hB : ¬ (0 : Int) < bl := by omega
          by_cases cO : o = 0
          · obtain rfl : o = 0 := cO
            by_cases cI : i = 0
            · obtain rfl : i = 0 := cI
              have hv : rightB 2 1 (ByteArray.size ⟨#[]⟩) q bl 0 0 = true := decide_eq_true (by have z : ByteArray.size ⟨#[]⟩ = 0 := rfl; omega)
              rw [hv]
              clear hv
              clear hT cP
              go_enter Tryd.func36, Tryd.ntmps36
              go_wp2
              go_ret
              exact ⟨rfl, alloc_below w _⟩
            have fI : (i == 0) = false := beq_eq_false_iff_ne.2 cI
            have gI : (i != 0) = true := bne_iff_ne.2 cI
            have hv : rightB 2 1 (ByteArray.size ⟨#[]⟩) q bl 0 i = false := decide_eq_false (by have z : ByteArray.size ⟨#[]⟩ = 0 := rfl; omega)
            rw [hv]
            clear hv
            clear hT cP
            go_enter Tryd.func36, Tryd.ntmps36
            go_wp2
            go_ret
            exact ⟨rfl, alloc_below w _⟩
          have fO : (o == 0) = false := beq_eq_false_iff_ne.2 cO
          have gO : (o != 0) = true := bne_iff_ne.2 cO
          have hv : rightB 2 1 (ByteArray.size ⟨#[]⟩) q bl o i = false := decide_eq_false (by have z : ByteArray.size ⟨#[]⟩ = 0 := rfl; omega)
          rw [hv]
          clear hv
          clear hT cP
          go_enter Tryd.func36, Tryd.ntmps36
          go_wp2
          go_ret
          exact ⟨rfl, alloc_below w _⟩
        have fB : ((bl : Int) == 0) = false := beq_eq_false_iff_ne.2 (by omega)
        have gB : ¬ (bl : Int) = 0 := by omega
        have hB : (0 : Int) < bl := by omega
        have hv : rightB 2 1 (ByteArray.size ⟨#[]⟩) q bl o i = false := decide_eq_false (by have z : ByteArray.size ⟨#[]⟩ = 0 := rfl; omega)
        rw [hv]
        clear hv
        clear hT cP
        go_enter Tryd.func36, Tryd.ntmps36
        go_wp2
        go_ret
        exact ⟨rfl, alloc_below w _⟩
      have fS := str_some cS
      have gS := str_false cS
      have hS : ((s.toList == []) = false) := beq_eq_false_iff_ne.2 fS
      have hv : rightB 2 1 s.size q bl o i = false := decide_eq_false (by omega)
      rw [hv]
      clear hv
      clear hT cP
      go_enter Tryd.func36, Tryd.ntmps36
      go_wp2
      go_ret
      exact ⟨rfl, alloc_below w _⟩
    have fN1 : (n == 1) = false := beq_eq_false_iff_ne.2 cN1
    have hv : rightB 2 n s.size q bl o i = false := decide_eq_false (by omega)
    rw [hv]
    clear hv
    clear hT cP
    go_enter Tryd.func36, Tryd.ntmps36
    go_wp2
    go_ret
    exact ⟨rfl, alloc_below w _⟩
  by_cases cK3 : k = 3
  · obtain rfl : k = 3 := cK3
    by_cases cS200 : s.size ≤ 200
    · have fS200 : (s.size : Int) ≤ 200 := by omega
      have dS200 : decide ((s.size : Int) ≤ 200) = true := decide_eq_true fS200
      by_cases cOK : q = 1
      · obtain rfl : q = 1 := cOK
        by_cases cN0 : n = 0
        · obtain rfl : n = 0 := cN0
          by_cases cB : bl = 0
          · have fB : ((bl : Int) == 0) = true := beq_iff_eq.2 (by omega)
            have gB : (bl : Int) = 0 := by omega
            have hB : ¬ (0 : Int) < bl := by omega
            by_cases cO : o = 0
            · obtain rfl : o = 0 := cO
              by_cases cI : i = 0
              · obtain rfl : i = 0 := cI
                have hv : rightB 3 0 s.size 1 bl 0 0 = true := decide_eq_true (by omega)
                rw [hv]
                clear hv
                go_enter Tryd.func36, Tryd.ntmps36
                go_wp2_with fail
                refine (cP _ (hT.below (alloc_below w _) (by have := hT.size; omega))).mono ?_
                rintro e w1 ⟨rfl, hb⟩
                have hb0 := (alloc_below w _).trans (hb.mono (by rw [alloc_size]; omega))
                have hc1 := fun o => hb.cell (p := ⟨w.heap.size, o, none⟩) (by rw [alloc_size]; exact Nat.lt_succ_self _)
                have hf1 := fun o => hb.frozen (p := ⟨w.heap.size, o, none⟩) (by rw [alloc_size]; exact Nat.lt_succ_self _)
                clear hb
                go_wp2
                go_ret
                exact ⟨rfl, hb0.setCell (Nat.le_refl _) _⟩
              have fI : (i == 0) = false := beq_eq_false_iff_ne.2 cI
              have gI : (i != 0) = true := bne_iff_ne.2 cI
              have hv : rightB 3 0 s.size 1 bl 0 i = false := decide_eq_false (by omega)
              rw [hv]
              clear hv
              go_enter Tryd.func36, Tryd.ntmps36
              go_wp2_with fail
              refine (cP _ (hT.below (alloc_below w _) (by have := hT.size; omega))).mono ?_
              rintro e w1 ⟨rfl, hb⟩
              have hb0 := (alloc_below w _).trans (hb.mono (by rw [alloc_size]; omega))
              have hc1 := fun o => hb.cell (p := ⟨w.heap.size, o, none⟩) (by rw [alloc_size]; exact Nat.lt_succ_self _)
              have hf1 := fun o => hb.frozen (p := ⟨w.heap.size, o, none⟩) (by rw [alloc_size]; exact Nat.lt_succ_self _)
              clear hb
              go_wp2
              go_ret
              exact ⟨rfl, hb0.setCell (Nat.le_refl _) _⟩
            have fO : (o == 0) = false := beq_eq_false_iff_ne.2 cO
            have gO : (o != 0) = true := bne_iff_ne.2 cO
            have hv : rightB 3 0 s.size 1 bl o i = false := decide_eq_false (by omega)
            rw [hv]
            clear hv
            go_enter Tryd.func36, Tryd.ntmps36
            go_wp2_with fail
            refine (cP _ (hT.below (alloc_below w _) (by have := hT.size; omega))).mono ?_
            rintro e w1 ⟨rfl, hb⟩
            have hb0 := (alloc_below w _).trans (hb.mono (by rw [alloc_size]; omega))
            have hc1 := fun o => hb.cell (p := ⟨w.heap.size, o, none⟩) (by rw [alloc_size]; exact Nat.lt_succ_self _)
            have hf1 := fun o => hb.frozen (p := ⟨w.heap.size, o, none⟩) (by rw [alloc_size]; exact Nat.lt_succ_self _)
            clear hb
            go_wp2
            go_ret
            exact ⟨rfl, hb0.setCell (Nat.le_refl _) _⟩
          have fB : ((bl : Int) == 0) = false := beq_eq_false_iff_ne.2 (by omega)
          have gB : ¬ (bl : Int) = 0 := by omega
          have hB : (0 : Int) < bl := by omega
          have hv : rightB 3 0 s.size 1 bl o i = false := decide_eq_false (by omega)
          rw [hv]
          clear hv
          go_enter Tryd.func36, Tryd.ntmps36
          go_wp2_with fail
          refine (cP _ (hT.below (alloc_below w _) (by have := hT.size; omega))).mono ?_
          rintro e w1 ⟨rfl, hb⟩
          have hb0 := (alloc_below w _).trans (hb.mono (by rw [alloc_size]; omega))
          have hc1 := fun o => hb.cell (p := ⟨w.heap.size, o, none⟩) (by rw [alloc_size]; exact Nat.lt_succ_self _)
          have hf1 := fun o => hb.frozen (p := ⟨w.heap.size, o, none⟩) (by rw [alloc_size]; exact Nat.lt_succ_self _)
          clear hb
          go_wp2
          go_ret
          exact ⟨rfl, hb0.setCell (Nat.le_refl _) _⟩
        have fN0 : (n == 0) = false := beq_eq_false_iff_ne.2 cN0
        have gN0 : (n != 0) = true := bne_iff_ne.2 cN0
        have hv : rightB 3 n s.size 1 bl o i = false := decide_eq_false (by omega)
        rw [hv]
        clear hv
        go_enter Tryd.func36, Tryd.ntmps36
        go_wp2_with fail
        refine (cP _ (hT.below (alloc_below w _) (by have := hT.size; omega))).mono ?_
        rintro e w1 ⟨rfl, hb⟩
        have hb0 := (alloc_below w _).trans (hb.mono (by rw [alloc_size]; omega))
        have hc1 := fun o => hb.cell (p := ⟨w.heap.size, o, none⟩) (by rw [alloc_size]; exact Nat.lt_succ_self _)
        have hf1 := fun o => hb.frozen (p := ⟨w.heap.size, o, none⟩) (by rw [alloc_size]; exact Nat.lt_succ_self _)
        clear hb
        go_wp2
        go_ret
        exact ⟨rfl, hb0.setCell (Nat.le_refl _) _⟩
      have fOK : decide (q = 1) = false := decide_eq_false cOK
      have hv : rightB 3 n s.size q bl o i = false := decide_eq_false (by omega)
      rw [hv]
      clear hv
      go_enter Tryd.func36, Tryd.ntmps36
      go_wp2_with fail
      refine (cP _ (hT.below (alloc_below w _) (by have := hT.size; omega))).mono ?_
      rintro e w1 ⟨rfl, hb⟩
      have hb0 := (alloc_below w _).trans (hb.mono (by rw [alloc_size]; omega))
      have hc1 := fun o => hb.cell (p := ⟨w.heap.size, o, none⟩) (by rw [alloc_size]; exact Nat.lt_succ_self _)
      have hf1 := fun o => hb.frozen (p := ⟨w.heap.size, o, none⟩) (by rw [alloc_size]; exact Nat.lt_succ_self _)
      clear hb
      go_wp2
      go_ret
      exact ⟨rfl, hb0.setCell (Nat.le_refl _) _⟩
    have fS200 : ¬ (s.size : Int) ≤ 200 := by omega
    have dS200 : decide ((s.size : Int) ≤ 200) = false := decide_eq_false fS200
    have hv : rightB 3 n s.size q bl o i = false := decide_eq_false (by omega)
    rw [hv]
    clear hv
    clear hT cP
    go_enter Tryd.func36, Tryd.ntmps36
    go_wp2
    go_ret
    exact ⟨rfl, alloc_below w _⟩
  by_cases cK4 : k = 4
  · obtain rfl : k = 4 := cK4
    by_cases cB200 : bl ≤ 200
    · have fB200 : (bl : Int) ≤ 200 := by omega
      by_cases cN0 : n = 0
      · obtain rfl : n = 0 := cN0
        by_cases cS : s.size = 0
        · obtain rfl := str_nil cS
          by_cases cO : o = 0
          · obtain rfl : o = 0 := cO
            by_cases cI : i = 0
            · obtain rfl : i = 0 := cI
              have hv : rightB 4 0 (ByteArray.size ⟨#[]⟩) q bl 0 0 = true := decide_eq_true (by have z : ByteArray.size ⟨#[]⟩ = 0 := rfl; omega)
              rw [hv]
              clear hv
              clear hT cP
              go_enter Tryd.func36, Tryd.ntmps36
              go_wp2
              go_ret
              exact ⟨rfl, alloc_below w _⟩
            have fI : (i == 0) = false := beq_eq_false_iff_ne.2 cI
            have gI : (i != 0) = true := bne_iff_ne.2 cI
            have hv : rightB 4 0 (ByteArray.size ⟨#[]⟩) q bl 0 i = false := decide_eq_false (by have z : ByteArray.size ⟨#[]⟩ = 0 := rfl; omega)
            rw [hv]
            clear hv
            clear hT cP
            go_enter Tryd.func36, Tryd.ntmps36
            go_wp2
            go_ret
            exact ⟨rfl, alloc_below w _⟩
          have fO : (o == 0) = false := beq_eq_false_iff_ne.2 cO
          have gO : (o != 0) = true := bne_iff_ne.2 cO
          have hv : rightB 4 0 (ByteArray.size ⟨#[]⟩) q bl o i = false := decide_eq_false (by have z : ByteArray.size ⟨#[]⟩ = 0 := rfl; omega)
          rw [hv]
          clear hv
          clear hT cP
          go_enter Tryd.func36, Tryd.ntmps36
          go_wp2
          go_ret
          exact ⟨rfl, alloc_below w _⟩
        have fS := str_some cS
        have gS := str_false cS
        have hS : ((s.toList == []) = false) := beq_eq_false_iff_ne.2 fS
        have hv : rightB 4 0 s.size q bl o i = false := decide_eq_false (by omega)
        rw [hv]
        clear hv
        clear hT cP
        go_enter Tryd.func36, Tryd.ntmps36
        go_wp2
        go_ret
        exact ⟨rfl, alloc_below w _⟩
      have fN0 : (n == 0) = false := beq_eq_false_iff_ne.2 cN0
      have gN0 : (n != 0) = true := bne_iff_ne.2 cN0
      have hv : rightB 4 n s.size q bl o i = false := decide_eq_false (by omega)
      rw [hv]
      clear hv
      clear hT cP
      go_enter Tryd.func36, Tryd.ntmps36
      go_wp2
      go_ret
      exact ⟨rfl, alloc_below w _⟩
    have fB200 : ¬ (bl : Int) ≤ 200 := by omega
    have hv : rightB 4 n s.size q bl o i = false := decide_eq_false (by omega)
    rw [hv]
    clear hv
    clear hT cP
    go_enter Tryd.func36, Tryd.ntmps36
    go_wp2
    go_ret
    exact ⟨rfl, alloc_below w _⟩
  by_cases cK6 : k = 6
  · obtain rfl : k = 6 := cK6
    by_cases cO0 : 0 ≤ o
    · skip
      by_cases cO6 : o ≤ 65535
      · skip
        by_cases cI0 : 0 ≤ i
        · skip
          by_cases cI6 : i ≤ 65535
          · skip
            by_cases cN0 : n = 0
            · obtain rfl : n = 0 := cN0
              by_cases cS : s.size = 0
              · obtain rfl := str_nil cS
                by_cases cB : bl = 0
                · have fB : ((bl : Int) == 0) = true := beq_iff_eq.2 (by omega)
                  have gB : (bl : Int) = 0 := by omega
                  have hB : ¬ (0 : Int) < bl := by omega
                  have hv : rightB 6 0 (ByteArray.size ⟨#[]⟩) q bl o i = true := decide_eq_true (by have z : ByteArray.size ⟨#[]⟩ = 0 := rfl; omega)
                  rw [hv]
                  clear hv
                  clear hT cP
                  go_enter Tryd.func36, Tryd.ntmps36
                  go_wp2
                  go_ret
                  exact ⟨rfl, alloc_below w _⟩
                have fB : ((bl : Int) == 0) = false := beq_eq_false_iff_ne.2 (by omega)
                have gB : ¬ (bl : Int) = 0 := by omega
                have hB : (0 : Int) < bl := by omega
                have hv : rightB 6 0 (ByteArray.size ⟨#[]⟩) q bl o i = false := decide_eq_false (by have z : ByteArray.size ⟨#[]⟩ = 0 := rfl; omega)
                rw [hv]
                clear hv
                clear hT cP
                go_enter Tryd.func36, Tryd.ntmps36
                go_wp2
                go_ret
                exact ⟨rfl, alloc_below w _⟩
              have fS := str_some cS
              have gS := str_false cS
              have hS : ((s.toList == []) = false) := beq_eq_false_iff_ne.2 fS
              have hv : rightB 6 0 s.size q bl o i = false := decide_eq_false (by omega)
              rw [hv]
              clear hv
              clear hT cP
              go_enter Tryd.func36, Tryd.ntmps36
              go_wp2
              go_ret
              exact ⟨rfl, alloc_below w _⟩
            have fN0 : (n == 0) = false := beq_eq_false_iff_ne.2 cN0
            have gN0 : (n != 0) = true := bne_iff_ne.2 cN0
            have hv : rightB 6 n s.size q bl o i = false := decide_eq_false (by omega)
            rw [hv]
            clear hv
            clear hT cP
            go_enter Tryd.func36, Tryd.ntmps36
            go_wp2
            go_ret
            exact ⟨rfl, alloc_below w _⟩
          have hv : rightB 6 n s.size q bl o i = false := decide_eq_false (by omega)
          rw [hv]
          clear hv
          clear hT cP
          go_enter Tryd.func36, Tryd.ntmps36
          go_wp2
          go_ret
          exact ⟨rfl, alloc_below w _⟩
        have hv : rightB 6 n s.size q bl o i = false := decide_eq_false (by omega)
        rw [hv]
        clear hv
        clear hT cP
        go_enter Tryd.func36, Tryd.ntmps36
        go_wp2
        go_ret
        exact ⟨rfl, alloc_below w _⟩
      have hv : rightB 6 n s.size q bl o i = false := decide_eq_false (by omega)
      rw [hv]
      clear hv
      clear hT cP
      go_enter Tryd.func36, Tryd.ntmps36
      go_wp2
      go_ret
      exact ⟨rfl, alloc_below w _⟩
    have hv : rightB 6 n s.size q bl o i = false := decide_eq_false (by omega)
    rw [hv]
    clear hv
    clear hT cP
    go_enter Tryd.func36, Tryd.ntmps36
    go_wp2
    go_ret
    exact ⟨rfl, alloc_below w _⟩
  have fK1 : (k == 1) = false := beq_eq_false_iff_ne.2 cK1
  have gK1 : (k != 1) = true := bne_iff_ne.2 cK1
  have fK5 : (k == 5) = false := beq_eq_false_iff_ne.2 cK5
  have gK5 : (k != 5) = true := bne_iff_ne.2 cK5
  have fK2 : (k == 2) = false := beq_eq_false_iff_ne.2 cK2
  have gK2 : (k != 2) = true := bne_iff_ne.2 cK2
  have fK3 : (k == 3) = false := beq_eq_false_iff_ne.2 cK3
  have gK3 : (k != 3) = true := bne_iff_ne.2 cK3
  have fK4 : (k == 4) = false := beq_eq_false_iff_ne.2 cK4
  have gK4 : (k != 4) = true := bne_iff_ne.2 cK4
  have fK6 : (k == 6) = false := beq_eq_false_iff_ne.2 cK6
  have gK6 : (k != 6) = true := bne_iff_ne.2 cK6
  have hv : rightB k n s.size q bl o i = false := decide_eq_false (by omega)
  rw [hv]
  clear hv
  clear hT cP
  go_enter Tryd.func36, Tryd.ntmps36
  go_wp2
  go_ret
  exact ⟨rfl, alloc_below w _⟩
theorem rrunes_b (s : ByteArray) (w : World) (hs : s.size ≤ 1000000) : Calls Tryd.prog 43 #[.string s] w fun e w' => e = runesEnd (runesQ s.data.toList) ∧ Below w.heap.size w w' :=
  (rrunes_f s w hs).mono fun e w' ⟨he, m, hm⟩ => ⟨he, by rw [hm]; exact drewN_below _ _ _⟩
set_option maxHeartbeats 16000000 in
theorem rright_f (k n : Int) (s : ByteArray) (bA : Option Addr) (bl bc : Nat) (o i : Int) (w : World) (hs : s.size ≤ 1000000) : Calls Tryd.prog 85 #[.agg #[.int .i64 k, .int .i64 n, .string s, .slice bA bl bc, .int .i64 o, .int .i64 i]] w fun e w' => e = .returned (.bool (rightB k n s.size (okN (runesQ s.data.toList)) bl o i)) ∧ Below w.heap.size w w' := by
  obtain ⟨q, hq⟩ : ∃ q, okN (runesQ s.data.toList) = q := ⟨_, rfl⟩
  rw [hq]
  have cP := fun W => rrunes_b s W hs
  obtain ⟨R, hR⟩ : ∃ R, runesQ s.data.toList = R := ⟨_, rfl⟩
  rw [hR] at cP hq
  clear hR
  by_cases cK1 : k = 1
  · obtain rfl : k = 1 := cK1
    by_cases cS : s.size = 0
    · obtain rfl := str_nil cS
      by_cases cB : bl = 0
      · have fB : ((bl : Int) == 0) = true := beq_iff_eq.2 (by omega)
        have gB : (bl : Int) = 0 := by omega
        have hB : ¬ (0 : Int) < bl := by omega
        by_cases cO : o = 0
        · obtain rfl : o = 0 := cO
          by_cases cI : i = 0
          · obtain rfl : i = 0 := cI
            have hv : rightB 1 n (ByteArray.size ⟨#[]⟩) q bl 0 0 = true := decide_eq_true (by have z : ByteArray.size ⟨#[]⟩ = 0 := rfl; omega)
            rw [hv]
            clear hv
            clear cP
            go_enter Tryd.func85, Tryd.ntmps85
            go_wp2
            go_ret
            exact ⟨rfl, alloc_below w _⟩
          have fI : (i == 0) = false := beq_eq_false_iff_ne.2 cI
          have gI : (i != 0) = true := bne_iff_ne.2 cI
          have hv : rightB 1 n (ByteArray.size ⟨#[]⟩) q bl 0 i = false := decide_eq_false (by have z : ByteArray.size ⟨#[]⟩ = 0 := rfl; omega)
          rw [hv]
          clear hv
          clear cP
          go_enter Tryd.func85, Tryd.ntmps85
          go_wp2
          go_ret
          exact ⟨rfl, alloc_below w _⟩
        have fO : (o == 0) = false := beq_eq_false_iff_ne.2 cO
        have gO : (o != 0) = true := bne_iff_ne.2 cO
        have hv : rightB 1 n (ByteArray.size ⟨#[]⟩) q bl o i = false := decide_eq_false (by have z : ByteArray.size ⟨#[]⟩ = 0 := rfl; omega)
        rw [hv]
        clear hv
        clear cP
        go_enter Tryd.func85, Tryd.ntmps85
        go_wp2
        go_ret
        exact ⟨rfl, alloc_below w _⟩
      have fB : ((bl : Int) == 0) = false := beq_eq_false_iff_ne.2 (by omega)
      have gB : ¬ (bl : Int) = 0 := by omega
      have hB : (0 : Int) < bl := by omega
      have hv : rightB 1 n (ByteArray.size ⟨#[]⟩) q bl o i = false := decide_eq_false (by have z : ByteArray.size ⟨#[]⟩ = 0 := rfl; omega)
      rw [hv]
      clear hv
      clear cP
      go_enter Tryd.func85, Tryd.ntmps85
      go_wp2
      go_ret
      exact ⟨rfl, alloc_below w _⟩
    have fS := str_some cS
    have gS := str_false cS
    have hS : ((s.toList == []) = false) := beq_eq_false_iff_ne.2 fS
    have hv : rightB 1 n s.size q bl o i = false := decide_eq_false (by omega)
    rw [hv]
    clear hv
    clear cP
    go_enter Tryd.func85, Tryd.ntmps85
    go_wp2
    go_ret
    exact ⟨rfl, alloc_below w _⟩
  by_cases cK5 : k = 5
  · obtain rfl : k = 5 := cK5
    by_cases cS : s.size = 0
    · obtain rfl := str_nil cS
      by_cases cB : bl = 0
      · have fB : ((bl : Int) == 0) = true := beq_iff_eq.2 (by omega)
        have gB : (bl : Int) = 0 := by omega
        have hB : ¬ (0 : Int) < bl := by omega
        by_cases cO : o = 0
        · obtain rfl : o = 0 := cO
          by_cases cI : i = 0
          · obtain rfl : i = 0 := cI
            have hv : rightB 5 n (ByteArray.size ⟨#[]⟩) q bl 0 0 = true := decide_eq_true (by have z : ByteArray.size ⟨#[]⟩ = 0 := rfl; omega)
            rw [hv]
            clear hv
            clear cP
            go_enter Tryd.func85, Tryd.ntmps85
            go_wp2
            go_ret
            exact ⟨rfl, alloc_below w _⟩
          have fI : (i == 0) = false := beq_eq_false_iff_ne.2 cI
          have gI : (i != 0) = true := bne_iff_ne.2 cI
          have hv : rightB 5 n (ByteArray.size ⟨#[]⟩) q bl 0 i = false := decide_eq_false (by have z : ByteArray.size ⟨#[]⟩ = 0 := rfl; omega)
          rw [hv]
          clear hv
          clear cP
          go_enter Tryd.func85, Tryd.ntmps85
          go_wp2
          go_ret
          exact ⟨rfl, alloc_below w _⟩
        have fO : (o == 0) = false := beq_eq_false_iff_ne.2 cO
        have gO : (o != 0) = true := bne_iff_ne.2 cO
        have hv : rightB 5 n (ByteArray.size ⟨#[]⟩) q bl o i = false := decide_eq_false (by have z : ByteArray.size ⟨#[]⟩ = 0 := rfl; omega)
        rw [hv]
        clear hv
        clear cP
        go_enter Tryd.func85, Tryd.ntmps85
        go_wp2
        go_ret
        exact ⟨rfl, alloc_below w _⟩
      have fB : ((bl : Int) == 0) = false := beq_eq_false_iff_ne.2 (by omega)
      have gB : ¬ (bl : Int) = 0 := by omega
      have hB : (0 : Int) < bl := by omega
      have hv : rightB 5 n (ByteArray.size ⟨#[]⟩) q bl o i = false := decide_eq_false (by have z : ByteArray.size ⟨#[]⟩ = 0 := rfl; omega)
      rw [hv]
      clear hv
      clear cP
      go_enter Tryd.func85, Tryd.ntmps85
      go_wp2
      go_ret
      exact ⟨rfl, alloc_below w _⟩
    have fS := str_some cS
    have gS := str_false cS
    have hS : ((s.toList == []) = false) := beq_eq_false_iff_ne.2 fS
    have hv : rightB 5 n s.size q bl o i = false := decide_eq_false (by omega)
    rw [hv]
    clear hv
    clear cP
    go_enter Tryd.func85, Tryd.ntmps85
    go_wp2
    go_ret
    exact ⟨rfl, alloc_below w _⟩
  by_cases cK2 : k = 2
  · obtain rfl : k = 2 := cK2
    by_cases cS : s.size = 0
    · obtain rfl := str_nil cS
      by_cases cB : bl = 0
      · have fB : ((bl : Int) == 0) = true := beq_iff_eq.2 (by omega)
        have gB : (bl : Int) = 0 := by omega
        have hB : ¬ (0 : Int) < bl := by omega
        by_cases cO : o = 0
        · obtain rfl : o = 0 := cO
          by_cases cI : i = 0
          · obtain rfl : i = 0 := cI
            by_cases cN0 : n = 0
            · obtain rfl : n = 0 := cN0
              have hv : rightB 2 0 (ByteArray.size ⟨#[]⟩) q bl 0 0 = true := decide_eq_true (by have z : ByteArray.size ⟨#[]⟩ = 0 := rfl; omega)
              rw [hv]
              clear hv
              clear cP
              go_enter Tryd.func85, Tryd.ntmps85
              go_wp2
              go_ret
              exact ⟨rfl, alloc_below w _⟩
            have fN0 : (n == 0) = false := beq_eq_false_iff_ne.2 cN0
            have gN0 : (n != 0) = true := bne_iff_ne.2 cN0
            by_cases cN1 : n = 1
            · obtain rfl : n = 1 := cN1
              have hv : rightB 2 1 (ByteArray.size ⟨#[]⟩) q bl 0 0 = true := decide_eq_true (by have z : ByteArray.size ⟨#[]⟩ = 0 := rfl; omega)
              rw [hv]
              clear hv
              clear cP
              go_enter Tryd.func85, Tryd.ntmps85
              go_wp2
              go_ret
              exact ⟨rfl, alloc_below w _⟩
            have fN1 : (n == 1) = false := beq_eq_false_iff_ne.2 cN1
            have hv : rightB 2 n (ByteArray.size ⟨#[]⟩) q bl 0 0 = false := decide_eq_false (by have z : ByteArray.size ⟨#[]⟩ = 0 := rfl; omega)
            rw [hv]
            clear hv
            clear cP
            go_enter Tryd.func85, Tryd.ntmps85
            go_wp2
            go_ret
            exact ⟨rfl, alloc_below w _⟩
          have fI : (i == 0) = false := beq_eq_false_iff_ne.2 cI
          have gI : (i != 0) = true := bne_iff_ne.2 cI
          have hv : rightB 2 n (ByteArray.size ⟨#[]⟩) q bl 0 i = false := decide_eq_false (by have z : ByteArray.size ⟨#[]⟩ = 0 := rfl; omega)
          rw [hv]
          clear hv
          clear cP
          go_enter Tryd.func85, Tryd.ntmps85
          go_wp2
          go_ret
          exact ⟨rfl, alloc_below w _⟩
        have fO : (o == 0) = false := beq_eq_false_iff_ne.2 cO
        have gO : (o != 0) = true := bne_iff_ne.2 cO
        have hv : rightB 2 n (ByteArray.size ⟨#[]⟩) q bl o i = false := decide_eq_false (by have z : ByteArray.size ⟨#[]⟩ = 0 := rfl; omega)
        rw [hv]
        clear hv
        clear cP
        go_enter Tryd.func85, Tryd.ntmps85
        go_wp2
        go_ret
        exact ⟨rfl, alloc_below w _⟩
      have fB : ((bl : Int) == 0) = false := beq_eq_false_iff_ne.2 (by omega)
      have gB : ¬ (bl : Int) = 0 := by omega
      have hB : (0 : Int) < bl := by omega
      have hv : rightB 2 n (ByteArray.size ⟨#[]⟩) q bl o i = false := decide_eq_false (by have z : ByteArray.size ⟨#[]⟩ = 0 := rfl; omega)
      rw [hv]
      clear hv
      clear cP
      go_enter Tryd.func85, Tryd.ntmps85
      go_wp2
      go_ret
      exact ⟨rfl, alloc_below w _⟩
    have fS := str_some cS
    have gS := str_false cS
    have hS : ((s.toList == []) = false) := beq_eq_false_iff_ne.2 fS
    have hv : rightB 2 n s.size q bl o i = false := decide_eq_false (by omega)
    rw [hv]
    clear hv
    clear cP
    go_enter Tryd.func85, Tryd.ntmps85
    go_wp2
    go_ret
    exact ⟨rfl, alloc_below w _⟩
  by_cases cK3 : k = 3
  · obtain rfl : k = 3 := cK3
    by_cases cN0 : n = 0
    · obtain rfl : n = 0 := cN0
      by_cases cB : bl = 0
      · have fB : ((bl : Int) == 0) = true := beq_iff_eq.2 (by omega)
        have gB : (bl : Int) = 0 := by omega
        have hB : ¬ (0 : Int) < bl := by omega
        by_cases cO : o = 0
        · obtain rfl : o = 0 := cO
          by_cases cI : i = 0
          · obtain rfl : i = 0 := cI
            cases R with
            | none =>
              obtain rfl : 0 = q := hq
              unfold runesEnd at cP
              have hv : rightB 3 0 s.size 0 bl 0 0 = false := decide_eq_false (by omega)
              rw [hv]
              clear hv
              go_enter Tryd.func85, Tryd.ntmps85
              go_wp2_with fail
              refine (cP _).mono ?_
              rintro e w1 ⟨rfl, hb⟩
              have hb0 := (alloc_below w _).trans (hb.mono (by rw [alloc_size]; omega))
              have hc1 := fun o => hb.cell (p := ⟨w.heap.size, o, none⟩) (by rw [alloc_size]; exact Nat.lt_succ_self _)
              clear hb
              go_wp2
              go_ret
              exact ⟨rfl, hb0⟩
            | some x =>
              obtain rfl : 1 = q := hq
              unfold runesEnd at cP
              by_cases cS200 : s.size ≤ 200
              · have fS200 : (s.size : Int) ≤ 200 := by omega
                have dS200 : decide ((s.size : Int) ≤ 200) = true := decide_eq_true fS200
                have hv : rightB 3 0 s.size 1 bl 0 0 = true := decide_eq_true (by omega)
                rw [hv]
                clear hv
                go_enter Tryd.func85, Tryd.ntmps85
                go_wp2_with fail
                refine (cP _).mono ?_
                rintro e w1 ⟨rfl, hb⟩
                have hb0 := (alloc_below w _).trans (hb.mono (by rw [alloc_size]; omega))
                have hc1 := fun o => hb.cell (p := ⟨w.heap.size, o, none⟩) (by rw [alloc_size]; exact Nat.lt_succ_self _)
                clear hb
                go_wp2
                go_ret
                exact ⟨rfl, hb0⟩
              have fS200 : ¬ (s.size : Int) ≤ 200 := by omega
              have dS200 : decide ((s.size : Int) ≤ 200) = false := decide_eq_false fS200
              have hv : rightB 3 0 s.size 1 bl 0 0 = false := decide_eq_false (by omega)
              rw [hv]
              clear hv
              go_enter Tryd.func85, Tryd.ntmps85
              go_wp2_with fail
              refine (cP _).mono ?_
              rintro e w1 ⟨rfl, hb⟩
              have hb0 := (alloc_below w _).trans (hb.mono (by rw [alloc_size]; omega))
              have hc1 := fun o => hb.cell (p := ⟨w.heap.size, o, none⟩) (by rw [alloc_size]; exact Nat.lt_succ_self _)
              clear hb
              go_wp2
              go_ret
              exact ⟨rfl, hb0⟩
          have fI : (i == 0) = false := beq_eq_false_iff_ne.2 cI
          have gI : (i != 0) = true := bne_iff_ne.2 cI
          have hv : rightB 3 0 s.size q bl 0 i = false := decide_eq_false (by omega)
          rw [hv]
          clear hv
          clear cP
          go_enter Tryd.func85, Tryd.ntmps85
          go_wp2
          go_ret
          exact ⟨rfl, alloc_below w _⟩
        have fO : (o == 0) = false := beq_eq_false_iff_ne.2 cO
        have gO : (o != 0) = true := bne_iff_ne.2 cO
        have hv : rightB 3 0 s.size q bl o i = false := decide_eq_false (by omega)
        rw [hv]
        clear hv
        clear cP
        go_enter Tryd.func85, Tryd.ntmps85
        go_wp2
        go_ret
        exact ⟨rfl, alloc_below w _⟩
      have fB : ((bl : Int) == 0) = false := beq_eq_false_iff_ne.2 (by omega)
      have gB : ¬ (bl : Int) = 0 := by omega
      have hB : (0 : Int) < bl := by omega
      have hv : rightB 3 0 s.size q bl o i = false := decide_eq_false (by omega)
      rw [hv]
      clear hv
      clear cP
      go_enter Tryd.func85, Tryd.ntmps85
      go_wp2
      go_ret
      exact ⟨rfl, alloc_below w _⟩
    have fN0 : (n == 0) = false := beq_eq_false_iff_ne.2 cN0
    have gN0 : (n != 0) = true := bne_iff_ne.2 cN0
    have hv : rightB 3 n s.size q bl o i = false := decide_eq_false (by omega)
    rw [hv]
    clear hv
    clear cP
    go_enter Tryd.func85, Tryd.ntmps85
    go_wp2
    go_ret
    exact ⟨rfl, alloc_below w _⟩
  by_cases cK4 : k = 4
  · obtain rfl : k = 4 := cK4
    by_cases cN0 : n = 0
    · obtain rfl : n = 0 := cN0
      by_cases cS : s.size = 0
      · obtain rfl := str_nil cS
        by_cases cO : o = 0
        · obtain rfl : o = 0 := cO
          by_cases cI : i = 0
          · obtain rfl : i = 0 := cI
            by_cases cB200 : bl ≤ 200
            · have fB200 : (bl : Int) ≤ 200 := by omega
              have hv : rightB 4 0 (ByteArray.size ⟨#[]⟩) q bl 0 0 = true := decide_eq_true (by have z : ByteArray.size ⟨#[]⟩ = 0 := rfl; omega)
              rw [hv]
              clear hv
              clear cP
              go_enter Tryd.func85, Tryd.ntmps85
              go_wp2
              go_ret
              exact ⟨rfl, alloc_below w _⟩
            have fB200 : ¬ (bl : Int) ≤ 200 := by omega
            have hv : rightB 4 0 (ByteArray.size ⟨#[]⟩) q bl 0 0 = false := decide_eq_false (by have z : ByteArray.size ⟨#[]⟩ = 0 := rfl; omega)
            rw [hv]
            clear hv
            clear cP
            go_enter Tryd.func85, Tryd.ntmps85
            go_wp2
            go_ret
            exact ⟨rfl, alloc_below w _⟩
          have fI : (i == 0) = false := beq_eq_false_iff_ne.2 cI
          have gI : (i != 0) = true := bne_iff_ne.2 cI
          have hv : rightB 4 0 (ByteArray.size ⟨#[]⟩) q bl 0 i = false := decide_eq_false (by have z : ByteArray.size ⟨#[]⟩ = 0 := rfl; omega)
          rw [hv]
          clear hv
          clear cP
          go_enter Tryd.func85, Tryd.ntmps85
          go_wp2
          go_ret
          exact ⟨rfl, alloc_below w _⟩
        have fO : (o == 0) = false := beq_eq_false_iff_ne.2 cO
        have gO : (o != 0) = true := bne_iff_ne.2 cO
        have hv : rightB 4 0 (ByteArray.size ⟨#[]⟩) q bl o i = false := decide_eq_false (by have z : ByteArray.size ⟨#[]⟩ = 0 := rfl; omega)
        rw [hv]
        clear hv
        clear cP
        go_enter Tryd.func85, Tryd.ntmps85
        go_wp2
        go_ret
        exact ⟨rfl, alloc_below w _⟩
      have fS := str_some cS
      have gS := str_false cS
      have hS : ((s.toList == []) = false) := beq_eq_false_iff_ne.2 fS
      have hv : rightB 4 0 s.size q bl o i = false := decide_eq_false (by omega)
      rw [hv]
      clear hv
      clear cP
      go_enter Tryd.func85, Tryd.ntmps85
      go_wp2
      go_ret
      exact ⟨rfl, alloc_below w _⟩
    have fN0 : (n == 0) = false := beq_eq_false_iff_ne.2 cN0
    have gN0 : (n != 0) = true := bne_iff_ne.2 cN0
    have hv : rightB 4 n s.size q bl o i = false := decide_eq_false (by omega)
    rw [hv]
    clear hv
    clear cP
    go_enter Tryd.func85, Tryd.ntmps85
    go_wp2
    go_ret
    exact ⟨rfl, alloc_below w _⟩
  by_cases cK6 : k = 6
  · obtain rfl : k = 6 := cK6
    by_cases cN0 : n = 0
    · obtain rfl : n = 0 := cN0
      by_cases cS : s.size = 0
      · obtain rfl := str_nil cS
        by_cases cB : bl = 0
        · have fB : ((bl : Int) == 0) = true := beq_iff_eq.2 (by omega)
          have gB : (bl : Int) = 0 := by omega
          have hB : ¬ (0 : Int) < bl := by omega
          by_cases cO0 : 0 ≤ o
          · skip
            by_cases cO6 : o ≤ 65535
            · skip
              by_cases cI0 : 0 ≤ i
              · skip
                by_cases cI6 : i ≤ 65535
                · skip
                  have hv : rightB 6 0 (ByteArray.size ⟨#[]⟩) q bl o i = true := decide_eq_true (by have z : ByteArray.size ⟨#[]⟩ = 0 := rfl; omega)
                  rw [hv]
                  clear hv
                  clear cP
                  go_enter Tryd.func85, Tryd.ntmps85
                  go_wp2
                  go_ret
                  exact ⟨rfl, alloc_below w _⟩
                have hv : rightB 6 0 (ByteArray.size ⟨#[]⟩) q bl o i = false := decide_eq_false (by have z : ByteArray.size ⟨#[]⟩ = 0 := rfl; omega)
                rw [hv]
                clear hv
                clear cP
                go_enter Tryd.func85, Tryd.ntmps85
                go_wp2
                go_ret
                exact ⟨rfl, alloc_below w _⟩
              have hv : rightB 6 0 (ByteArray.size ⟨#[]⟩) q bl o i = false := decide_eq_false (by have z : ByteArray.size ⟨#[]⟩ = 0 := rfl; omega)
              rw [hv]
              clear hv
              clear cP
              go_enter Tryd.func85, Tryd.ntmps85
              go_wp2
              go_ret
              exact ⟨rfl, alloc_below w _⟩
            have hv : rightB 6 0 (ByteArray.size ⟨#[]⟩) q bl o i = false := decide_eq_false (by have z : ByteArray.size ⟨#[]⟩ = 0 := rfl; omega)
            rw [hv]
            clear hv
            clear cP
            go_enter Tryd.func85, Tryd.ntmps85
            go_wp2
            go_ret
            exact ⟨rfl, alloc_below w _⟩
          have hv : rightB 6 0 (ByteArray.size ⟨#[]⟩) q bl o i = false := decide_eq_false (by have z : ByteArray.size ⟨#[]⟩ = 0 := rfl; omega)
          rw [hv]
          clear hv
          clear cP
          go_enter Tryd.func85, Tryd.ntmps85
          go_wp2
          go_ret
          exact ⟨rfl, alloc_below w _⟩
        have fB : ((bl : Int) == 0) = false := beq_eq_false_iff_ne.2 (by omega)
        have gB : ¬ (bl : Int) = 0 := by omega
        have hB : (0 : Int) < bl := by omega
        have hv : rightB 6 0 (ByteArray.size ⟨#[]⟩) q bl o i = false := decide_eq_false (by have z : ByteArray.size ⟨#[]⟩ = 0 := rfl; omega)
        rw [hv]
        clear hv
        clear cP
        go_enter Tryd.func85, Tryd.ntmps85
        go_wp2
        go_ret
        exact ⟨rfl, alloc_below w _⟩
      have fS := str_some cS
      have gS := str_false cS
      have hS : ((s.toList == []) = false) := beq_eq_false_iff_ne.2 fS
      have hv : rightB 6 0 s.size q bl o i = false := decide_eq_false (by omega)
      rw [hv]
      clear hv
      clear cP
      go_enter Tryd.func85, Tryd.ntmps85
      go_wp2
      go_ret
      exact ⟨rfl, alloc_below w _⟩
    have fN0 : (n == 0) = false := beq_eq_false_iff_ne.2 cN0
    have gN0 : (n != 0) = true := bne_iff_ne.2 cN0
    have hv : rightB 6 n s.size q bl o i = false := decide_eq_false (by omega)
    rw [hv]
    clear hv
    clear cP
    go_enter Tryd.func85, Tryd.ntmps85
    go_wp2
    go_ret
    exact ⟨rfl, alloc_below w _⟩
  have fK1 : (k == 1) = false := beq_eq_false_iff_ne.2 cK1
  have gK1 : (k != 1) = true := bne_iff_ne.2 cK1
  have fK5 : (k == 5) = false := beq_eq_false_iff_ne.2 cK5
  have gK5 : (k != 5) = true := bne_iff_ne.2 cK5
  have fK2 : (k == 2) = false := beq_eq_false_iff_ne.2 cK2
  have gK2 : (k != 2) = true := bne_iff_ne.2 cK2
  have fK3 : (k == 3) = false := beq_eq_false_iff_ne.2 cK3
  have gK3 : (k != 3) = true := bne_iff_ne.2 cK3
  have fK4 : (k == 4) = false := beq_eq_false_iff_ne.2 cK4
  have gK4 : (k != 4) = true := bne_iff_ne.2 cK4
  have fK6 : (k == 6) = false := beq_eq_false_iff_ne.2 cK6
  have gK6 : (k != 6) = true := bne_iff_ne.2 cK6
  by_cases cN0 : n = 0
  · obtain rfl : n = 0 := cN0
    by_cases cS : s.size = 0
    · obtain rfl := str_nil cS
      by_cases cB : bl = 0
      · have fB : ((bl : Int) == 0) = true := beq_iff_eq.2 (by omega)
        have gB : (bl : Int) = 0 := by omega
        have hB : ¬ (0 : Int) < bl := by omega
        by_cases cO : o = 0
        · obtain rfl : o = 0 := cO
          by_cases cI : i = 0
          · obtain rfl : i = 0 := cI
            have hv : rightB k 0 (ByteArray.size ⟨#[]⟩) q bl 0 0 = false := decide_eq_false (by have z : ByteArray.size ⟨#[]⟩ = 0 := rfl; omega)
            rw [hv]
            clear hv
            clear cP
            go_enter Tryd.func85, Tryd.ntmps85
            go_wp2
            go_ret
            exact ⟨rfl, alloc_below w _⟩
          have fI : (i == 0) = false := beq_eq_false_iff_ne.2 cI
          have gI : (i != 0) = true := bne_iff_ne.2 cI
          have hv : rightB k 0 (ByteArray.size ⟨#[]⟩) q bl 0 i = false := decide_eq_false (by have z : ByteArray.size ⟨#[]⟩ = 0 := rfl; omega)
          rw [hv]
          clear hv
          clear cP
          go_enter Tryd.func85, Tryd.ntmps85
          go_wp2
          go_ret
          exact ⟨rfl, alloc_below w _⟩
        have fO : (o == 0) = false := beq_eq_false_iff_ne.2 cO
        have gO : (o != 0) = true := bne_iff_ne.2 cO
        have hv : rightB k 0 (ByteArray.size ⟨#[]⟩) q bl o i = false := decide_eq_false (by have z : ByteArray.size ⟨#[]⟩ = 0 := rfl; omega)
        rw [hv]
        clear hv
        clear cP
        go_enter Tryd.func85, Tryd.ntmps85
        go_wp2
        go_ret
        exact ⟨rfl, alloc_below w _⟩
      have fB : ((bl : Int) == 0) = false := beq_eq_false_iff_ne.2 (by omega)
      have gB : ¬ (bl : Int) = 0 := by omega
      have hB : (0 : Int) < bl := by omega
      have hv : rightB k 0 (ByteArray.size ⟨#[]⟩) q bl o i = false := decide_eq_false (by have z : ByteArray.size ⟨#[]⟩ = 0 := rfl; omega)
      rw [hv]
      clear hv
      clear cP
      go_enter Tryd.func85, Tryd.ntmps85
      go_wp2
      go_ret
      exact ⟨rfl, alloc_below w _⟩
    have fS := str_some cS
    have gS := str_false cS
    have hS : ((s.toList == []) = false) := beq_eq_false_iff_ne.2 fS
    have hv : rightB k 0 s.size q bl o i = false := decide_eq_false (by omega)
    rw [hv]
    clear hv
    clear cP
    go_enter Tryd.func85, Tryd.ntmps85
    go_wp2
    go_ret
    exact ⟨rfl, alloc_below w _⟩
  have fN0 : (n == 0) = false := beq_eq_false_iff_ne.2 cN0
  have gN0 : (n != 0) = true := bne_iff_ne.2 cN0
  have hv : rightB k n s.size q bl o i = false := decide_eq_false (by omega)
  rw [hv]
  clear hv
  clear cP
  go_enter Tryd.func85, Tryd.ntmps85
  go_wp2
  go_ret
  exact ⟨rfl, alloc_below w _⟩
end Go.Proofs.YtbclgalocipmfaaDoor
