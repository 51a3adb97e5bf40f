/-
  May a value be a resource's: Fits.
-/
import Derived.Test.YtkacgdhcacclcaaDoorVaGet
namespace Go.Proofs.YtkacgdhcacclcaaDoor
open Go.RowKit
set_option maxRecDepth 100000
set_option maxRecDepth 100000
set_option linter.unusedVariables false
def fitsE (rk lo hi k n : Int) (sl bl : Nat) : Int :=
  if k = 0 ∨ k ≠ rk then 70 else if k = 2 ∨ k = 6 then 0
  else if k = 3 then (if (sl : Int) < lo ∨ hi < sl then 1 else 0)
  else if k = 4 then (if (bl : Int) < lo ∨ hi < bl then 1 else 0)
  else (if n < lo ∨ hi < n then 1 else 0)
set_option maxHeartbeats 8000000 in
theorem fits_l (V : Value) (k n : Int) (s : ByteArray) (A : Option Addr) (m c : Nat) (o i : Int) (id rk lo hi : Int) (ra rb rc rd : Bool) (w : World) (h : FlatOf V k n s A m c o i) :
    Calls Tryd.prog 48 #[.agg #[.int .i64 id, .int .i64 rk, .bool ra, .bool rb, .bool rc, .int .i64 lo, .int .i64 hi, .bool rd], V] w fun e w' => e = .returned (.int .i64 (fitsE rk lo hi k n s.size m)) ∧ Below w.heap.size w w' := by
  have H := Lib.hid h
  obtain ⟨R, hR⟩ : ∃ R, fitsE rk lo hi k n s.size m = R := ⟨_, rfl⟩
  rw [hR]
  unfold fitsE at hR
  clear h
  by_cases k0 : k = 0
  · subst k0
    rw [if_pos (.inl rfl)] at hR
    subst hR
    go_enter Tryd.func48, Tryd.ntmps48
    go_wp2_with fail
    refine (H.out _).mono ?_
    rintro e w1 ⟨rfl, hb⟩
    have hb0 := (alloc_below w _).trans (hb.mono (by rw [alloc_size]; omega))
    have hc1 := fun o => hb.cell (p := ⟨w.heap.size, o, none⟩) (by rw [alloc_size]; exact Nat.lt_succ_self _)
    have hz1 : w.heap.size < w1.heap.size := by have := hb.size; rw [alloc_size] at this; omega
    clear hb
    go_wp2
    go_ret
    exact ⟨rfl, hb0.alloc hb0.size _⟩
  have f0 : (k == 0) = false := beq_eq_false_iff_ne.2 k0
  by_cases kr : k = rk
  · subst kr
    rw [if_neg (by omega)] at hR
    have fr : (k != k) = false := bne_self_eq_false _
    by_cases k2 : k = 2
    · subst k2
      rw [if_pos (by decide)] at hR
      subst hR
      go_enter Tryd.func48, Tryd.ntmps48
      go_wp2_with fail
      refine (H.out _).mono ?_
      rintro e w1 ⟨rfl, hb⟩
      have hb0 := (alloc_below w _).trans (hb.mono (by rw [alloc_size]; omega))
      have hc1 := fun o => hb.cell (p := ⟨w.heap.size, o, none⟩) (by rw [alloc_size]; exact Nat.lt_succ_self _)
      have hz1 : w.heap.size < w1.heap.size := by have := hb.size; rw [alloc_size] at this; omega
      clear hb
      go_wp2
      go_ret
      exact ⟨rfl, hb0.alloc hb0.size _⟩
    have f2 : (k == 2) = false := beq_eq_false_iff_ne.2 k2
    by_cases k6 : k = 6
    · subst k6
      rw [if_pos (by decide)] at hR
      subst hR
      go_enter Tryd.func48, Tryd.ntmps48
      go_wp2_with fail
      refine (H.out _).mono ?_
      rintro e w1 ⟨rfl, hb⟩
      have hb0 := (alloc_below w _).trans (hb.mono (by rw [alloc_size]; omega))
      have hc1 := fun o => hb.cell (p := ⟨w.heap.size, o, none⟩) (by rw [alloc_size]; exact Nat.lt_succ_self _)
      have hz1 : w.heap.size < w1.heap.size := by have := hb.size; rw [alloc_size] at this; omega
      clear hb
      go_wp2
      go_ret
      exact ⟨rfl, hb0.alloc hb0.size _⟩
    have f6 : (k == 6) = false := beq_eq_false_iff_ne.2 k6
    rw [if_neg (by omega)] at hR
    by_cases k3 : k = 3
    · subst k3
      rw [if_pos rfl] at hR
      by_cases cl : (s.size : Int) < lo
      · rw [if_pos (.inl cl)] at hR
        subst hR
        go_enter Tryd.func48, Tryd.ntmps48
        go_wp2_with fail
        refine (H.out _).mono ?_
        rintro e w1 ⟨rfl, hb⟩
        have hb0 := (alloc_below w _).trans (hb.mono (by rw [alloc_size]; omega))
        have hc1 := fun o => hb.cell (p := ⟨w.heap.size, o, none⟩) (by rw [alloc_size]; exact Nat.lt_succ_self _)
        have hz1 : w.heap.size < w1.heap.size := by have := hb.size; rw [alloc_size] at this; omega
        clear hb
        go_wp2
        go_ret
        exact ⟨rfl, hb0.alloc hb0.size _⟩
      by_cases ch : hi < (s.size : Int)
      · rw [if_pos (.inr ch)] at hR
        subst hR
        go_enter Tryd.func48, Tryd.ntmps48
        go_wp2_with fail
        refine (H.out _).mono ?_
        rintro e w1 ⟨rfl, hb⟩
        have hb0 := (alloc_below w _).trans (hb.mono (by rw [alloc_size]; omega))
        have hc1 := fun o => hb.cell (p := ⟨w.heap.size, o, none⟩) (by rw [alloc_size]; exact Nat.lt_succ_self _)
        have hz1 : w.heap.size < w1.heap.size := by have := hb.size; rw [alloc_size] at this; omega
        clear hb
        go_wp2
        go_ret
        exact ⟨rfl, hb0.alloc hb0.size _⟩
      rw [if_neg (fun h => h.elim cl ch)] at hR
      subst hR
      go_enter Tryd.func48, Tryd.ntmps48
      go_wp2_with fail
      refine (H.out _).mono ?_
      rintro e w1 ⟨rfl, hb⟩
      have hb0 := (alloc_below w _).trans (hb.mono (by rw [alloc_size]; omega))
      have hc1 := fun o => hb.cell (p := ⟨w.heap.size, o, none⟩) (by rw [alloc_size]; exact Nat.lt_succ_self _)
      have hz1 : w.heap.size < w1.heap.size := by have := hb.size; rw [alloc_size] at this; omega
      clear hb
      go_wp2
      go_ret
      exact ⟨rfl, hb0.alloc hb0.size _⟩
    have f3 : (k == 3) = false := beq_eq_false_iff_ne.2 k3
    rw [if_neg k3] at hR
    by_cases k4 : k = 4
    · subst k4
      rw [if_pos rfl] at hR
      by_cases cl : (m : Int) < lo
      · rw [if_pos (.inl cl)] at hR
        subst hR
        go_enter Tryd.func48, Tryd.ntmps48
        go_wp2_with fail
        refine (H.out _).mono ?_
        rintro e w1 ⟨rfl, hb⟩
        have hb0 := (alloc_below w _).trans (hb.mono (by rw [alloc_size]; omega))
        have hc1 := fun o => hb.cell (p := ⟨w.heap.size, o, none⟩) (by rw [alloc_size]; exact Nat.lt_succ_self _)
        have hz1 : w.heap.size < w1.heap.size := by have := hb.size; rw [alloc_size] at this; omega
        clear hb
        go_wp2
        go_ret
        exact ⟨rfl, hb0.alloc hb0.size _⟩
      by_cases ch : hi < (m : Int)
      · rw [if_pos (.inr ch)] at hR
        subst hR
        go_enter Tryd.func48, Tryd.ntmps48
        go_wp2_with fail
        refine (H.out _).mono ?_
        rintro e w1 ⟨rfl, hb⟩
        have hb0 := (alloc_below w _).trans (hb.mono (by rw [alloc_size]; omega))
        have hc1 := fun o => hb.cell (p := ⟨w.heap.size, o, none⟩) (by rw [alloc_size]; exact Nat.lt_succ_self _)
        have hz1 : w.heap.size < w1.heap.size := by have := hb.size; rw [alloc_size] at this; omega
        clear hb
        go_wp2
        go_ret
        exact ⟨rfl, hb0.alloc hb0.size _⟩
      rw [if_neg (fun h => h.elim cl ch)] at hR
      subst hR
      go_enter Tryd.func48, Tryd.ntmps48
      go_wp2_with fail
      refine (H.out _).mono ?_
      rintro e w1 ⟨rfl, hb⟩
      have hb0 := (alloc_below w _).trans (hb.mono (by rw [alloc_size]; omega))
      have hc1 := fun o => hb.cell (p := ⟨w.heap.size, o, none⟩) (by rw [alloc_size]; exact Nat.lt_succ_self _)
      have hz1 : w.heap.size < w1.heap.size := by have := hb.size; rw [alloc_size] at this; omega
      clear hb
      go_wp2
      go_ret
      exact ⟨rfl, hb0.alloc hb0.size _⟩
    have f4 : (k == 4) = false := beq_eq_false_iff_ne.2 k4
    rw [if_neg k4] at hR
    by_cases cl : n < lo
    · rw [if_pos (.inl cl)] at hR
      subst hR
      go_enter Tryd.func48, Tryd.ntmps48
      go_wp2_with fail
      refine (H.out _).mono ?_
      rintro e w1 ⟨rfl, hb⟩
      have hb0 := (alloc_below w _).trans (hb.mono (by rw [alloc_size]; omega))
      have hc1 := fun o => hb.cell (p := ⟨w.heap.size, o, none⟩) (by rw [alloc_size]; exact Nat.lt_succ_self _)
      have hz1 : w.heap.size < w1.heap.size := by have := hb.size; rw [alloc_size] at this; omega
      clear hb
      go_wp2
      go_ret
      exact ⟨rfl, hb0.alloc hb0.size _⟩
    by_cases ch : hi < n
    · rw [if_pos (.inr ch)] at hR
      subst hR
      go_enter Tryd.func48, Tryd.ntmps48
      go_wp2_with fail
      refine (H.out _).mono ?_
      rintro e w1 ⟨rfl, hb⟩
      have hb0 := (alloc_below w _).trans (hb.mono (by rw [alloc_size]; omega))
      have hc1 := fun o => hb.cell (p := ⟨w.heap.size, o, none⟩) (by rw [alloc_size]; exact Nat.lt_succ_self _)
      have hz1 : w.heap.size < w1.heap.size := by have := hb.size; rw [alloc_size] at this; omega
      clear hb
      go_wp2
      go_ret
      exact ⟨rfl, hb0.alloc hb0.size _⟩
    rw [if_neg (fun h => h.elim cl ch)] at hR
    subst hR
    go_enter Tryd.func48, Tryd.ntmps48
    go_wp2_with fail
    refine (H.out _).mono ?_
    rintro e w1 ⟨rfl, hb⟩
    have hb0 := (alloc_below w _).trans (hb.mono (by rw [alloc_size]; omega))
    have hc1 := fun o => hb.cell (p := ⟨w.heap.size, o, none⟩) (by rw [alloc_size]; exact Nat.lt_succ_self _)
    have hz1 : w.heap.size < w1.heap.size := by have := hb.size; rw [alloc_size] at this; omega
    clear hb
    go_wp2
    go_ret
    exact ⟨rfl, hb0.alloc hb0.size _⟩
  rw [if_pos (.inr kr)] at hR
  have fr : (k != rk) = true := bne_iff_ne.2 kr
  subst hR
  go_enter Tryd.func48, Tryd.ntmps48
  go_wp2_with fail
  refine (H.out _).mono ?_
  rintro e w1 ⟨rfl, hb⟩
  have hb0 := (alloc_below w _).trans (hb.mono (by rw [alloc_size]; omega))
  have hc1 := fun o => hb.cell (p := ⟨w.heap.size, o, none⟩) (by rw [alloc_size]; exact Nat.lt_succ_self _)
  have hz1 : w.heap.size < w1.heap.size := by have := hb.size; rw [alloc_size] at this; omega
  clear hb
  go_wp2
  go_ret
  exact ⟨rfl, hb0.alloc hb0.size _⟩
theorem fits_f (v : Vl) (id rk lo hi : Int) (ra rb rc rd : Bool) (w : World) :
    Calls Tryd.prog 48 #[.agg #[.int .i64 id, .int .i64 rk, .bool ra, .bool rb, .bool rc, .int .i64 lo, .int .i64 hi, .bool rd], v.val] w fun e w' => e = .returned (.int .i64 (fitsE rk lo hi v.k v.n v.s.size v.l)) ∧ Below w.heap.size w w' :=
  fits_l v.val v.k v.n v.s v.a v.l v.c v.o v.i id rk lo hi ra rb rc rd w v.flatOf
end Go.Proofs.YtkacgdhcacclcaaDoor
