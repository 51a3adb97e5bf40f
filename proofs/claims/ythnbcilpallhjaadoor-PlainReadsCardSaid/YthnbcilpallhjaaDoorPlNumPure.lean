/-
  A number's text is read as it.
-/
import Derived.Test.YthnbcilpallhjaaDoorPlLink
namespace Go.Proofs.YthnbcilpallhjaaDoor
open Go.RowKit
set_option maxRecDepth 100000
set_option maxRecDepth 100000
set_option linter.unusedVariables false
theorem pu_app (M : Nat) (c : UInt8) : ∀ (l : List UInt8) (acc a : Nat), Lib.parseUintM M acc l = .ok a → Lib.parseUintM M acc (l ++ [c]) = Lib.parseUintM M a [c]
  | [], acc, a, h => by
    have e : Lib.NumEnd.ok acc = Lib.NumEnd.ok a := h
    injection e with e
    subst e
    rfl
  | d :: l, acc, a, h => by
    rw [List.cons_append]
    unfold Lib.parseUintM at h ⊢
    split at h
    · rename_i h1
      rw [if_pos h1]
      split at h
      · cases h
      · rename_i h2
        rw [if_neg h2]
        split at h
        · cases h
        · rename_i h3
          rw [if_neg h3]
          exact pu_app M c l _ a h
    · cases h
theorem pu_digit (M acc d : Nat) (hd : d < 10) (h1 : acc < 1844674407370955162) (h2 : acc * 10 + d ≤ M) : Lib.parseUintM M acc [UInt8.ofNat (48 + d)] = .ok (acc * 10 + d) := by
  have e : (UInt8.ofNat (48 + d)).toNat = 48 + d := by rw [UInt8.toNat_ofNat']; omega
  unfold Lib.parseUintM
  rw [e, if_pos (by omega), if_neg (by omega), show 48 + d - 48 = d by omega, if_neg (by omega)]
  rfl
theorem pu_dec (u : Nat) (hu : u ≤ 18446744073709551615) : Lib.parseUintM 18446744073709551615 0 (Lib.decDigits u) = .ok u := by
  induction u using Nat.strongRecOn with
  | _ u ih =>
    unfold Lib.decDigits
    by_cases h : u < 10
    · rw [dif_pos h]
      have := pu_digit 18446744073709551615 0 u h (by omega) (by omega)
      rw [this]
      congr 1
      omega
    · rw [dif_neg h, pu_app _ _ _ _ _ (ih (u / 10) (by omega) (by omega)), pu_digit _ _ _ (Nat.mod_lt _ (by omega)) (by omega) (by omega)]
      congr 1
      omega
theorem dec_len (k : Nat) : ∀ u, u < 10 ^ (k + 1) → (Lib.decDigits u).length ≤ k + 1 := by
  induction k with
  | zero =>
    intro u h
    unfold Lib.decDigits
    rw [dif_pos (by simpa using h)]
    exact Nat.le_refl _
  | succ k ih =>
    intro u h
    unfold Lib.decDigits
    by_cases h10 : u < 10
    · rw [dif_pos h10]; exact Nat.succ_le_succ (Nat.zero_le _)
    · rw [dif_neg h10, List.length_append]
      have := ih (u / 10) (by rw [Nat.pow_succ] at h; omega)
      simp only [List.length_cons, List.length_nil]
      omega
/-- The first sign of a number's digits. -/
theorem dec_first (u : Nat) : ∃ c r, Lib.decDigits u = c :: r ∧ 48 ≤ c.toNat ∧ c.toNat ≤ 57 ∧ (c.toNat = 48 → u = 0) := by
  induction u using Nat.strongRecOn with
  | _ u ih =>
    unfold Lib.decDigits
    by_cases h : u < 10
    · rw [dif_pos h]
      have e : (UInt8.ofNat (48 + u)).toNat = 48 + u := by rw [UInt8.toNat_ofNat']; omega
      exact ⟨_, [], rfl, by rw [e]; omega, by rw [e]; omega, by rw [e]; omega⟩
    · rw [dif_neg h]
      obtain ⟨c, r, h1, h2, h3, h4⟩ := ih (u / 10) (by omega)
      exact ⟨c, r ++ [UInt8.ofNat (48 + u % 10)], by rw [h1]; rfl, h2, h3, fun e => by have := h4 e; omega⟩
theorem dec_digits (u : Nat) : ∀ c ∈ Lib.decDigits u, 48 ≤ c.toNat ∧ c.toNat ≤ 57 := by
  induction u using Nat.strongRecOn with
  | _ u ih =>
    unfold Lib.decDigits
    by_cases h : u < 10
    · rw [dif_pos h]
      intro c hc
      obtain rfl := List.mem_singleton.1 hc
      have e : (UInt8.ofNat (48 + u)).toNat = 48 + u := by rw [UInt8.toNat_ofNat']; omega
      rw [e]; omega
    · rw [dif_neg h]
      intro c hc
      rcases List.mem_append.1 hc with h1 | h1
      · exact ih (u / 10) (by omega) c h1
      · obtain rfl := List.mem_singleton.1 h1
        have e : (UInt8.ofNat (48 + u % 10)).toNat = 48 + u % 10 := by rw [UInt8.toNat_ofNat']; omega
        rw [e]; omega
theorem parsed_itoa (n : Int) (h0 : -9223372036854775808 ≤ n) (h1 : n ≤ 9223372036854775807) : parsed (Lib.itoa n) = some n := by
  unfold parsed Lib.itoa
  by_cases hn : n < 0
  · rw [if_pos hn]
    have hp := pu_dec n.natAbs (by omega)
    obtain ⟨c, r, hcr, _⟩ := dec_first n.natAbs
    have hne : Lib.decDigits n.natAbs ≠ [] := by rw [hcr]; simp
    have e : Lib.parseIntB 64 (45 :: Lib.decDigits n.natAbs) = .ok n := by
      unfold Lib.parseIntB Lib.parseUintB
      have h45 : (45 : UInt8).toNat = 45 := rfl
      dsimp only
      rw [h45, if_pos (Or.inr rfl), if_neg hne, show 2 ^ 64 - 1 = 18446744073709551615 from rfl, hp]
      dsimp only
      rw [if_neg (by simp), if_neg (by simp; omega), if_pos rfl]
      congr 1
      omega
    rw [e]
  · rw [if_neg hn]
    have hp := pu_dec n.toNat (by omega)
    obtain ⟨c, r, hcr, hc0, hc1, _⟩ := dec_first n.toNat
    have e : Lib.parseIntB 64 (Lib.decDigits n.toNat) = .ok n := by
      rw [hcr] at hp ⊢
      unfold Lib.parseIntB Lib.parseUintB
      dsimp only
      rw [if_neg (show ¬ (c.toNat = 43 ∨ c.toNat = 45) by omega), if_neg (show ¬ (c :: r = []) by simp), show 2 ^ 64 - 1 = 18446744073709551615 from rfl, hp]
      dsimp only
      rw [if_neg (show ¬ (¬ c.toNat = 45 ∧ 2 ^ (64 - 1) ≤ n.toNat) by rw [show 2 ^ (64 - 1) = 9223372036854775808 from rfl]; omega), if_neg (show ¬ (c.toNat = 45 ∧ 2 ^ (64 - 1) < n.toNat) by omega), if_neg (show ¬ (c.toNat = 45) by omega)]
      congr 1
      omega
    rw [e]
theorem itoa_len (n : Int) (h0 : -9223372036854775808 ≤ n) (h1 : n ≤ 9223372036854775807) : (Lib.itoa n).length ≤ 20 := by
  unfold Lib.itoa
  by_cases hn : n < 0
  · rw [if_pos hn, List.length_cons]
    have := dec_len 18 n.natAbs (by show n.natAbs < 10000000000000000000; omega)
    omega
  · rw [if_neg hn]
    have := dec_len 18 n.toNat (by show n.toNat < 10000000000000000000; omega)
    omega
theorem numP_itoa (n : Int) (h0 : -9223372036854775808 ≤ n) (h1 : n ≤ 9223372036854775807) : numP (Lib.itoa n) = some n := by
  unfold numP
  rw [if_neg (by have := itoa_len n h0 h1; omega), parsed_itoa n h0 h1]
  show (if Lib.itoa n = Lib.itoa n then some n else none) = some n
  rw [if_pos rfl]
theorem idx_at (a r : List UInt8) (c : UInt8) (h : ∀ x ∈ a, x ≠ c) : Lib.indexByte (a ++ c :: r) c = (a.length : Int) := by
  induction a with
  | nil => unfold Lib.indexByte; rw [List.nil_append]; simp
  | cons x a ih =>
    rw [List.cons_append]
    unfold Lib.indexByte
    have hx : (x == c) = false := beq_eq_false_iff_ne.2 (h x List.mem_cons_self)
    have ih := ih (fun y hy => h y (List.mem_cons_of_mem _ hy))
    rw [hx, ih]
    have hn : (((a.length : Int)) == -1) = false := beq_eq_false_iff_ne.2 (by omega)
    rw [hn]
    simp
theorem linkQ_itoa (o i : Int) (h0 : 0 ≤ o ∧ o ≤ 65535) (h1 : 0 ≤ i ∧ i ≤ 65535) : linkQ (Lib.itoa o ++ 58 :: Lib.itoa i) = some (o, i) := by
  have hne : ∀ x ∈ Lib.itoa o, x ≠ 58 := fun x hx e => by
    unfold Lib.itoa at hx
    rw [if_neg (by omega)] at hx
    have := dec_digits _ x hx
    rw [e] at this
    have h58 : (58 : UInt8).toNat = 58 := rfl
    omega
  have hi := idx_at (Lib.itoa o) (Lib.itoa i) 58 hne
  have hA : cutA (Lib.itoa o ++ 58 :: Lib.itoa i) 58 = Lib.itoa o := by
    unfold cutA
    rw [hi, if_neg (by omega), Int.toNat_natCast, List.take_left]
  have hB : cutB (Lib.itoa o ++ 58 :: Lib.itoa i) 58 = Lib.itoa i := by
    unfold cutB
    rw [hi, if_neg (by omega), Int.toNat_natCast, ← List.drop_drop, List.drop_left]
    rfl
  unfold linkQ
  rw [hA, hB, numP_itoa o (by omega) (by omega), numP_itoa i (by omega) (by omega)]
  show (if (0 ≤ o ∧ o ≤ 65535) ∧ 0 ≤ i ∧ i ≤ 65535 then some (o, i) else none) = _
  rw [if_pos ⟨h0, h1⟩]
theorem linkQ_nil : linkQ [] = none := by decide +kernel
end Go.Proofs.YthnbcilpallhjaaDoor
