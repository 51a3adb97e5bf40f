/-
  Numbers as few bytes, and back.
-/
import Derived.Test.YtbclgalocipmfaaDoorOptDel
import Derived.StillTailTactics
namespace Go.Proofs.YtbclgalocipmfaaDoor
open Go.RowKit
set_option maxRecDepth 100000
set_option linter.unusedVariables false
/-- The bytes of a number, the least first. -/
def le (m : Nat) : List UInt8 := if h : m = 0 then [] else UInt8.ofNat (m % 256) :: le (m / 256)
termination_by m
decreasing_by omega
theorem le_zero : le 0 = [] := by rw [le]; rfl
theorem le_pos {m : Nat} (h : 0 < m) : le m = UInt8.ofNat (m % 256) :: le (m / 256) := by rw [le, dif_neg (by omega)]
theorem le_len : ∀ (k m : Nat), m < 256 ^ k → (le m).length ≤ k
  | 0, m, h => by
    have : m = 0 := by simp at h; exact h
    subst this
    rw [le_zero]; exact Nat.le_refl _
  | k + 1, m, h => by
    rcases Nat.eq_zero_or_pos m with h0 | h0
    · subst h0; rw [le_zero]; simp
    · rw [le_pos h0, List.length_cons]
      have := le_len k (m / 256) (Nat.div_lt_of_lt_mul (by rw [Nat.pow_succ] at h; omega))
      omega
theorem le_len_ge : ∀ (k m : Nat), 256 ^ k ≤ m → k + 1 ≤ (le m).length
  | 0, m, h => by
    rw [le_pos (by simp at h; omega)]; simp
  | k + 1, m, h => by
    have hp : 0 < 256 ^ (k + 1) := Nat.pow_pos (by decide)
    rw [le_pos (by omega), List.length_cons]
    have := le_len_ge k (m / 256) ((Nat.le_div_iff_mul_le (by decide)).2 (by rw [Nat.pow_succ] at h; exact h))
    omega
theorem nat_byte {m : Nat} (h : m < 256) : (UInt8.ofNat m).toNat = m := by
  rw [UInt8.toNat_ofNat']; omega
/-- The number of bytes. -/
def numOf (l : List UInt8) : Nat := l.foldl (fun a x => a * 256 + x.toNat) 0
theorem numOf_snoc (l : List UInt8) (x : UInt8) : numOf (l ++ [x]) = numOf l * 256 + x.toNat := by unfold numOf; rw [List.foldl_append]; rfl
theorem numOf_lt (l : List UInt8) : numOf l < 256 ^ l.length := by
  suffices h : ∀ r : List UInt8, numOf r.reverse < 256 ^ r.length by have := h l.reverse; rwa [List.reverse_reverse, List.length_reverse] at this
  intro r
  induction r with
  | nil => simp [numOf]
  | cons x r ih =>
    rw [List.reverse_cons, numOf_snoc, List.length_cons, Nat.pow_succ]
    have := x.toNat_lt
    omega
theorem numOf_le (m : Nat) : numOf (le m).reverse = m := by
  induction m using Nat.strongRecOn with
  | ind m ih =>
    rcases Nat.eq_zero_or_pos m with h | h
    · subst h; rw [le_zero]; rfl
    · rw [le_pos h, List.reverse_cons, numOf_snoc, ih (m / 256) (by omega), nat_byte (by omega)]
      omega
theorem rev_get {l X : List UInt8} {n : Nat} (hl : l.length = n) (hX : X.length = n) (h : ∀ k, k < n → X[k]? = l[n - 1 - k]?) : X = l.reverse := by
  refine List.ext_getElem? fun k => ?_
  by_cases hk : k < n
  · rw [h k hk, List.getElem?_reverse (by omega), hl]
  · rw [List.getElem?_eq_none (by omega), List.getElem?_eq_none (by rw [List.length_reverse]; omega)]
theorem lit_byte (m : Nat) : (#[Value.int .u8 ((m : Int) % 256)] : Array Value).toList = U8 [UInt8.ofNat (m % 256)] := by
  simp only [U8, List.map_cons, List.map_nil]
  rw [nat_byte (by omega)]
  rfl
theorem or_sh (a x : Int) (a0 : 0 ≤ a) (ha : a < 281474976710656) (x0 : 0 ≤ x) (x1 : x < 256) : bits .or .i64 (a * 256) x = a * 256 + x := by
  obtain ⟨y, rfl⟩ := Int.eq_ofNat_of_zero_le a0
  obtain ⟨z, rfl⟩ := Int.eq_ofNat_of_zero_le x0
  show IntKind.i64.wrap ((BitVec.ofInt 64 ((y : Int) * 256) ||| BitVec.ofInt 64 (z : Int)).toNat : Int) = _
  rw [show (y : Int) * 256 = ((2 ^ 8 * y : Nat) : Int) by omega, BitVec.ofInt_natCast, BitVec.ofInt_natCast, BitVec.toNat_or, BitVec.toNat_ofNat, BitVec.toNat_ofNat, Nat.mod_eq_of_lt (by omega), Nat.mod_eq_of_lt (by omega), ← Nat.two_pow_add_eq_or_of_lt (by omega)]
  rw [IntWalk.i64_in _ (by omega)]; omega
def numB (l : List UInt8) : Int × Bool := if 7 < l.length then (0, false) else ((numOf l : Int), true)
end Go.Proofs.YtbclgalocipmfaaDoor
