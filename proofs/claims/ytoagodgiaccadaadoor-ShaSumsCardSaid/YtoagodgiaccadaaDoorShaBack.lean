/-
  Digits parsed as the digest that they were told of.
-/
import Derived.Test.YtoagodgiaccadaaDoorShaParse
import Derived.Test.YtoagodgiaccadaaDoorShaHex
namespace Go.Proofs.YtoagodgiaccadaaDoor
open Go.RowKit
theorem dig_hexd : ∀ n : Nat, n < 16 → dig? (hexd n).toNat = some n := by decide +kernel
theorem hexOf_get : ∀ (L : List UInt8) (j : Nat) (x : UInt8), L[j]? = some x → (hexOf L)[2 * j]? = some (hexd (x.toNat / 16)) ∧ (hexOf L)[2 * j + 1]? = some (hexd (x.toNat % 16))
  | [], j, x, h => by simp at h
  | y :: L, 0, x, h => by
    obtain rfl : y = x := by simpa using h
    exact ⟨rfl, rfl⟩
  | y :: L, j + 1, x, h => by
    have ih := hexOf_get L j x (by simpa using h)
    have e : hexOf (y :: L) = hexd (y.toNat / 16) :: hexd (y.toNat % 16) :: hexOf L := rfl
    rw [e, show 2 * (j + 1) = 2 * j + 1 + 1 by omega, show 2 * j + 1 + 1 + 1 = (2 * j + 1) + 1 + 1 by omega, List.getElem?_cons_succ, List.getElem?_cons_succ, List.getElem?_cons_succ, List.getElem?_cons_succ]
    exact ih
/-- Signs whose numbers are those of the digest's halves are parsed as it. -/
theorem parseOf_nibs {l d : List UInt8} (hl : l.length = 64) (hd : d.length = 32) (h : ∀ j x, d[j]? = some x → ∃ u v, l[2 * j]? = some u ∧ l[2 * j + 1]? = some v ∧ dig? u.toNat = some (x.toNat / 16) ∧ dig? v.toNat = some (x.toNat % 16)) : parseOf l = (d, 0) := by
  rw [parseOf_good hl (fun i u hi hu => ?_)]
  · congr 1
    refine List.ext_getElem? fun j => ?_
    by_cases hj : j < 32
    · obtain ⟨x, hx⟩ := byte_get (l := d) (k := j) (by omega)
      obtain ⟨u, v, h1, h2, h3, h4⟩ := h j x hx
      rw [stP_get _ _ _ hj, hx]
      congr 1
      unfold stB
      rw [if_pos (by omega), nib_of h1 h3, nib_of h2 h4, show 16 * (x.toNat / 16) + x.toNat % 16 = x.toNat by omega]
      exact UInt8.ofNat_toNat
    · rw [List.getElem?_eq_none (by rw [stP_length]; omega), List.getElem?_eq_none (by omega)]
  · obtain ⟨x, hx⟩ := byte_get (l := d) (k := i / 2) (by omega)
    obtain ⟨a, b, h1, h2, h3, h4⟩ := h (i / 2) x hx
    by_cases e : i % 2 = 0
    · rw [show 2 * (i / 2) = i by omega, hu] at h1
      injection h1 with h1
      rw [h1, h3]; rfl
    · rw [show 2 * (i / 2) + 1 = i by omega, hu] at h2
      injection h2 with h2
      rw [h2, h4]; rfl
theorem parseOf_hexOf (d : List UInt8) (hd : d.length = 32) : parseOf (hexOf d) = (d, 0) :=
  parseOf_nibs (by rw [hexOf_length, hd]) hd fun j x hx => by
    have hg := hexOf_get d j x hx
    have hb := x.toNat_lt
    exact ⟨_, _, hg.1, hg.2, dig_hexd _ (by omega), dig_hexd _ (by omega)⟩
end Go.Proofs.YtoagodgiaccadaaDoor
