/-
  The value of a kind's bytes: Unwire.
-/
import Derived.Test.YtkacgdhcacclcaaDoorVaNum
import Derived.Deep.QuietTactic
import Derived.BigQuiet
namespace Go.Proofs.YtkacgdhcacclcaaDoor
open Go.RowKit
set_option maxRecDepth 100000
set_option maxRecDepth 100000
set_option linter.unusedVariables false
def widthB (n : Nat) : Bool := decide (n = 1 ∨ n = 2 ∨ n = 4 ∨ n = 8)
set_option maxHeartbeats 1000000 in
theorem isWidth_f (n : Nat) (w : World) : Calls Tryd.prog 97 #[.int .i64 (n : Int)] w fun e w' => e = .returned (.bool (widthB n)) ∧ w = w' := by
  obtain ⟨N, hN⟩ : ∃ N : Int, (n : Int) = N := ⟨_, rfl⟩
  rw [hN]
  obtain ⟨R, hR⟩ : ∃ R, widthB n = R := ⟨_, rfl⟩
  rw [hR]
  unfold widthB at hR
  by_cases c1 : N = 1
  · obtain rfl : true = R := by rw [← hR]; exact (decide_eq_true (by omega)).symm
    have t : (N == 1) = true := beq_iff_eq.2 c1
    clear hR hN
    go_enter Tryd.func97, Tryd.ntmps97
    go_wp2
    go_ret
    exact ⟨rfl, rfl⟩
  have f1 : (N == 1) = false := beq_eq_false_iff_ne.2 c1
  by_cases c2 : N = 2
  · obtain rfl : true = R := by rw [← hR]; exact (decide_eq_true (by omega)).symm
    have t : (N == 2) = true := beq_iff_eq.2 c2
    clear hR hN
    go_enter Tryd.func97, Tryd.ntmps97
    go_wp2
    go_ret
    exact ⟨rfl, rfl⟩
  have f2 : (N == 2) = false := beq_eq_false_iff_ne.2 c2
  by_cases c4 : N = 4
  · obtain rfl : true = R := by rw [← hR]; exact (decide_eq_true (by omega)).symm
    have t : (N == 4) = true := beq_iff_eq.2 c4
    clear hR hN
    go_enter Tryd.func97, Tryd.ntmps97
    go_wp2
    go_ret
    exact ⟨rfl, rfl⟩
  have f4 : (N == 4) = false := beq_eq_false_iff_ne.2 c4
  by_cases c8 : N = 8
  · obtain rfl : true = R := by rw [← hR]; exact (decide_eq_true (by omega)).symm
    have t : (N == 8) = true := beq_iff_eq.2 c8
    clear hR hN
    go_enter Tryd.func97, Tryd.ntmps97
    go_wp2
    go_ret
    exact ⟨rfl, rfl⟩
  · obtain rfl : false = R := by rw [← hR]; exact (decide_eq_false (by omega)).symm
    have f8 : (N == 8) = false := beq_eq_false_iff_ne.2 c8
    clear hR hN
    go_enter Tryd.func97, Tryd.ntmps97
    go_wp2
    go_ret
    exact ⟨rfl, rfl⟩
theorem bytesPlain_f (A : Option Addr) (m c : Nat) (l : List UInt8) (w : World) (B : Nat) (hbs : Bs w B A m l) (hm : m ≤ 1000000) (hT : Tabs w) :
    Calls Tryd.prog 98 #[.slice A m c] w fun e w' => e = .returned (.bool (decide (okN (runesQ l) = 1))) ∧ Below w.heap.size w w' := by
  have cR := runes_f ⟨l.toArray⟩ w (by show l.toArray.size ≤ _; rw [List.size_toArray, hbs.len]; exact hm) hT
  have hcv := run_string_bs (P := Tryd.prog) hbs 22 9 5 c Tryd.underlying22 Tryd.underlying5 Tryd.underlying9
  rw [show (⟨l.toArray⟩ : ByteArray).data.toList = l from by show l.toArray.toList = l; simp] at cR
  generalize (⟨l.toArray⟩ : ByteArray) = s at *
  obtain ⟨R, hR⟩ : ∃ R, runesQ l = R := ⟨_, rfl⟩
  rw [hR] at cR ⊢
  clear hR hbs hT
  cases R with
  | none =>
    rw [show decide (okN none = 1) = false from rfl]
    unfold runesEnd at cR
    go_enter Tryd.func98, Tryd.ntmps98
    go_wp2_with (go_at_call 18; refine cR.mono ?_; rintro e w1 ⟨rfl, hb⟩)
    go_ret
    exact ⟨rfl, hb⟩
  | some x =>
    rw [show decide (okN (some x) = 1) = true from rfl]
    unfold runesEnd at cR
    go_enter Tryd.func98, Tryd.ntmps98
    go_wp2_with (go_at_call 18; refine cR.mono ?_; rintro e w1 ⟨rfl, hb⟩)
    go_ret
    exact ⟨rfl, hb⟩
def unwE (k : Int) (l : List UInt8) : Int :=
  if k = 1 ∨ k = 5 then (if widthB l.length then 0 else 20)
  else if k = 2 then (if l.length = 1 ∧ (l.getD 0 0).toNat ≤ 1 then 0 else 20)
  else if k = 3 then (if 200 < l.length then 2 else if okN (runesQ l) = 1 then 0 else 20)
  else if k = 4 then (if 200 < l.length then 2 else 0)
  else if k = 6 then (if l.length = 4 then 0 else 20) else 70
def IsE (r : Int) (w : World) (e : Ending) (w' : World) : Prop := e = .returned (.int .i64 r) ∧ Below w.heap.size w w'
set_option maxHeartbeats 8000000 in
theorem check_f (k : Int) (A : Option Addr) (m c : Nat) (l : List UInt8) (w : World) (B : Nat) (hbs : Bs w B A m l) (hm : m ≤ 1000000) (hT : Tabs w) :
    Calls Tryd.prog 71 #[.int .i64 k, .slice A m c] w (IsE (unwE k l) w) := by
  have hl := hbs.len
  unfold unwE
  rw [hl]
  by_cases k15 : k = 1 ∨ k = 5
  · rw [if_pos k15]
    have cW := fun W => isWidth_f m W
    obtain ⟨R, hR⟩ : ∃ R, widthB m = R := ⟨_, rfl⟩
    rw [hR] at cW ⊢
    clear hR hbs hT hl
    cases R with
    | true =>
      rw [if_pos rfl]
      rcases k15 with rfl | rfl <;>
        (go_enter Tryd.func71, Tryd.ntmps71
         go_wp2_with (go_at_call 97; refine (cW _).mono ?_; rintro e w1 ⟨rfl, rfl⟩)
         go_ret
         exact ⟨rfl, Below.refl _ _⟩)
    | false =>
      rw [if_neg (by decide)]
      rcases k15 with rfl | rfl <;>
        (go_enter Tryd.func71, Tryd.ntmps71
         go_wp2_with (go_at_call 97; refine (cW _).mono ?_; rintro e w1 ⟨rfl, rfl⟩)
         go_ret
         exact ⟨rfl, Below.refl _ _⟩)
  rw [if_neg k15]
  have f1 : (k == 1) = false := beq_eq_false_iff_ne.2 (fun e => k15 (.inl e))
  have f5 : (k == 5) = false := beq_eq_false_iff_ne.2 (fun e => k15 (.inr e))
  by_cases k2 : k = 2
  · subst k2
    rw [if_pos rfl]
    by_cases h1 : m = 1
    · subst h1
      obtain ⟨b, off, rfl, hb, hc⟩ := hbs.place (by omega)
      obtain ⟨u, hu⟩ := byte_get (l := l) (k := 0) (by omega)
      have h0 := hc 0 u hu
      rw [Nat.add_zero] at h0
      have hD : l.getD 0 0 = u := by rw [List.getD_eq_getElem?_getD, hu]; rfl
      rw [hD]
      by_cases hle : u.toNat ≤ 1
      · rw [if_pos ⟨rfl, hle⟩]
        have ht : (u.toNat : Int) ≤ 1 := by omega
        clear hD hu hc hb hbs hT hl k15
        go_enter Tryd.func71, Tryd.ntmps71
        go_wp2
        go_ret
        exact ⟨rfl, Below.refl _ _⟩
      · rw [if_neg (fun h => hle h.2)]
        have ht : ¬ (u.toNat : Int) ≤ 1 := by omega
        clear hD hu hc hb hbs hT hl k15
        go_enter Tryd.func71, Tryd.ntmps71
        go_wp2
        go_ret
        exact ⟨rfl, Below.refl _ _⟩
    · rw [if_neg (fun h => h1 h.1)]
      have g1 : ((m : Int) == 1) = false := beq_eq_false_iff_ne.2 (by omega)
      clear hbs hT hl k15
      go_enter Tryd.func71, Tryd.ntmps71
      go_wp2
      go_ret
      exact ⟨rfl, Below.refl _ _⟩
  rw [if_neg k2]
  have f2 : (k == 2) = false := beq_eq_false_iff_ne.2 k2
  by_cases k3 : k = 3
  · subst k3
    rw [if_pos rfl]
    by_cases hb : 200 < m
    · rw [if_pos hb]
      have hbI : (200 : Int) < m := by omega
      clear hbs hT hl k15
      go_enter Tryd.func71, Tryd.ntmps71
      go_wp2
      go_ret
      exact ⟨rfl, Below.refl _ _⟩
    · rw [if_neg hb]
      have hbI : ¬ (200 : Int) < m := by omega
      have cP := bytesPlain_f A m c l w B hbs hm hT
      obtain ⟨q, hq⟩ : ∃ q, okN (runesQ l) = q := ⟨_, rfl⟩
      rw [hq] at cP ⊢
      clear hbs hT hl k15 hq
      by_cases h1 : q = 1
      · subst h1
        rw [if_pos rfl]
        rw [show decide (1 = 1) = true from rfl] at cP
        go_enter Tryd.func71, Tryd.ntmps71
        go_wp2_with (go_at_call 98; refine cP.mono ?_; rintro e w1 ⟨rfl, hb1⟩)
        go_ret
        exact ⟨rfl, hb1⟩
      · rw [if_neg h1]
        rw [show decide (q = 1) = false from decide_eq_false h1] at cP
        go_enter Tryd.func71, Tryd.ntmps71
        go_wp2_with (go_at_call 98; refine cP.mono ?_; rintro e w1 ⟨rfl, hb1⟩)
        go_ret
        exact ⟨rfl, hb1⟩
  rw [if_neg k3]
  have f3 : (k == 3) = false := beq_eq_false_iff_ne.2 k3
  by_cases k4 : k = 4
  · subst k4
    rw [if_pos rfl]
    by_cases hb : 200 < m
    · rw [if_pos hb]
      have hbI : (200 : Int) < m := by omega
      clear hbs hT hl k15
      go_enter Tryd.func71, Tryd.ntmps71
      go_wp2
      go_ret
      exact ⟨rfl, Below.refl _ _⟩
    · rw [if_neg hb]
      have hbI : ¬ (200 : Int) < m := by omega
      clear hbs hT hl k15
      go_enter Tryd.func71, Tryd.ntmps71
      go_wp2
      go_ret
      exact ⟨rfl, Below.refl _ _⟩
  rw [if_neg k4]
  have f4 : (k == 4) = false := beq_eq_false_iff_ne.2 k4
  by_cases k6 : k = 6
  · subst k6
    rw [if_pos rfl]
    by_cases h4 : m = 4
    · subst h4
      rw [if_pos rfl]
      clear hbs hT hl k15
      go_enter Tryd.func71, Tryd.ntmps71
      go_wp2
      go_ret
      exact ⟨rfl, Below.refl _ _⟩
    · rw [if_neg h4]
      have g1 : ((m : Int) == 4) = false := beq_eq_false_iff_ne.2 (by omega)
      clear hbs hT hl k15
      go_enter Tryd.func71, Tryd.ntmps71
      go_wp2
      go_ret
      exact ⟨rfl, Below.refl _ _⟩
  · rw [if_neg k6]
    have f6 : (k == 6) = false := beq_eq_false_iff_ne.2 k6
    clear hbs hT hl k15
    go_enter Tryd.func71, Tryd.ntmps71
    go_wp2
    go_ret
    exact ⟨rfl, Below.refl _ _⟩
end Go.Proofs.YtkacgdhcacclcaaDoor
