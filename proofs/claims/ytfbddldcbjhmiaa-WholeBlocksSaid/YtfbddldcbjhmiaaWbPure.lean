/-
  What a message with a block is, written and read.
-/
import Derived.Test.YtfbddldcbjhmiaaMsgRound
import Derived.Test.YtfbddldcbjhmiaaOptAll
namespace Go.Proofs.Ytfbddldcbjhmiaa
open Go.RowKit
set_option linter.unusedVariables false
theorem wb_add (V : List UInt8) : addO 27 V [(11, [53])] = [(11, [53]), (27, V)] := by
  unfold addO
  rw [if_neg (by decide)]
  rfl
theorem wb_sort (V : List UInt8) : sortP [(11, [53]), (27, V)] = [(11, [53]), (27, V)] := by
  show addO 27 V (addO 11 [53] []) = _
  exact wb_add V
theorem wb_get (V : List UInt8) : getB 27 [(11, [53]), (27, V)] = (V, true) := by
  unfold getB
  rfl
theorem wb_err {V : List UInt8} (h : V.length ≤ 300) : errP [(11, [53]), (27, V)] = 0 := by
  have h2 : decide ((300 : Int) < (V.length : Int)) = false := decide_eq_false (by omega)
  unfold errP
  rw [if_neg (by simp), if_neg (by simp [badNum]), if_neg (by simp [h2])]
theorem wb_mwr {k : Nat} {tok V X : List UInt8} (hk : k ≤ 65535) (ht : tok.length ≤ 8) (hV : V.length ≤ 300) (hX : X.length ≤ 1200) : (mwr 0 3 (k : Int) tok [(11, [53]), (27, V)] X).2 = 0 := by
  have hr : rngB 0 3 (k : Int) = true := decide_eq_true ⟨by omega, by omega, .inl ⟨by omega, by omega⟩, by omega, by omega⟩
  have hw : (wrP [(11, [53]), (27, V)]).2 = 0 := by
    unfold wrP
    rw [if_pos (wb_err hV)]
  unfold mwr
  rw [if_neg (by rw [hr]; intro h; rcases h with h | h; exact absurd h (by decide); exact absurd h.1 (by decide)), if_neg (by omega), if_neg (by rw [hw]; exact fun h => h rfl)]
theorem wb_read {k : Nat} {tok V X : List UInt8} (hk : k ≤ 65535) (ht : tok.length ≤ 8) (hV : V.length ≤ 300) (hX : X.length ≤ 1200) :
    ∃ L, mwr 0 3 (k : Int) tok [(11, [53]), (27, V)] X = (L, 0) ∧ rdM L = (⟨0, 3, k, tok, [(11, [53]), (27, V)], X⟩, 0) := by
  have h := wb_mwr hk ht hV hX
  have r := rd_mw h
  obtain ⟨⟨L, e⟩, hL⟩ : ∃ r, mwr 0 3 (k : Int) tok [(11, [53]), (27, V)] X = r := ⟨_, rfl⟩
  rw [hL] at h r
  dsimp only at h r
  subst h
  rw [wb_sort] at r
  exact ⟨L, hL, r⟩
end Go.Proofs.Ytfbddldcbjhmiaa
