/-
  A part's wear.
-/
import Derived.Deep.QuietTactic
import Derived.BigQuiet
import Derived.Test.YtoagodgiaccadaaPartNew
namespace Go.Proofs.Ytoagodgiaccadaa
open Go.RowKit
theorem pwear_f (W : World) (pp g bb wb fi co be si x : Nat) (F : Fl) (h : PartAt W pp g fi co be si) (hok : PartOk F fi co be si) (hf : FlashAt W g bb wb F) (hx : ∀ k, k < co → wearS F ((fi + k : Nat) : Int) = x) :
    Calls Try.prog 54 #[.pointer (some ⟨pp, 0, none⟩)] W fun e w' => e = .returned (.int .i64 (x : Int)) ∧ Below W.heap.size W w' := by
  have c0 := h.c0
  have c1 := h.c1
  have c2 := h.c2
  have hlt := h.lt
  have hin := hok.in_
  have hw64 := hf.ok.wear.2
  have hci : (co : Int) ≤ 64 := by omega
  have hfi : (fi : Int) ≤ 64 := by omega
  have hone := hok.one
  have HF := Lib.hid hf
  clear hin hw64 hok h hf
  go_enter Try.func54, Try.ntmps54
  go_wp2
  go_loopw [3, 9] (fun mo i wr => ∃ k y : Nat, (k : Int) ≤ (co : Int) ∧ i = .int .i64 k ∧ mo = .int .i64 (y : Int) ∧ Below W.heap.size W wr ∧ Hid ((k = 0 ∧ y = 0) ∨ (0 < k ∧ y = x))) (fun _ i _ => co - (intOf i).toNat)
  case atStart => exact ⟨0, 0, by omega, rfl, rfl, Below.refl _ _, Lib.hid (.inl ⟨rfl, rfl⟩)⟩
  case round =>
    obtain ⟨k, y, hk, rfl, rfl, bel, hy⟩ := hrel
    by_cases hlt2 : (k : Int) < (co : Int)
    · have x0 := (bel.cell (p := ⟨pp, 0, none⟩) hlt).trans c0
      have x1 := (bel.cell (p := ⟨pp, 1, none⟩) hlt).trans c1
      have her : ∀ a, Calls Try.prog 45 #[.pointer (some ⟨g, 0, none⟩), .int .i64 ((fi + k : Nat) : Int)] (wr.drewN a) fun e w' => e = .returned (.int .i64 (x : Int)) ∧ w' = wr.drewN a := fun a => by
        have := wear_f (wr.drewN a) g bb wb F ((fi + k : Nat) : Int) (HF.out.below (bel.trans (drewN_below wr _ a)))
        rw [hx k (by omega)] at this
        exact this
      obtain ⟨s, hs⟩ : ∃ s, fi + k = s := ⟨_, rfl⟩
      rw [hs] at her
      have hsi : (fi : Int) + (k : Int) = (s : Int) := by omega
      have hsw : IntKind.i64.wrap (s : Int) = (s : Int) := by rw [IntKind.wrap_i64]; omega
      have hmx : max (y : Int) (x : Int) = (x : Int) := by rcases hy.out with ⟨_, h⟩ | ⟨_, h⟩ <;> omega
      have HX := Lib.hid hx
      clear hs hx
      go_wp2_with fail
      go_quiet ((go_at_call 45; exact Calls.quiet_of_same (her _)))
      go_wp2
      go_roundw
      case rel => exact ⟨k + 1, x, by omega, by go_num, rfl, bel.trans (drewN_below wr _ _), Lib.hid (.inr ⟨by omega, rfl⟩)⟩
      case measure => simp [intOf]; omega
    · have hkc : k = co := by omega
      have hyx : y = x := by rcases hy.out with ⟨h, _⟩ | ⟨_, h⟩ <;> omega
      subst hyx
      clear hkc
      go_wp2
      go_ret
      exact ⟨rfl, bel⟩
end Go.Proofs.Ytoagodgiaccadaa
