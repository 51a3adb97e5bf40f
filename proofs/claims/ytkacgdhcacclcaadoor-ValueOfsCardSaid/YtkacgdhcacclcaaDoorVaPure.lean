/-
  A number's bytes are read as it. (No walk.)
-/
import Derived.Test.YtkacgdhcacclcaaDoorVaUnw2
namespace Go.Proofs.YtkacgdhcacclcaaDoor
open Go.RowKit
set_option maxRecDepth 100000
set_option linter.unusedVariables false
def valI (n : Int) (l : List UInt8) : Int := l.foldl (fun a x => a * 256 + (x.toNat : Int)) n
theorem valI_cong : ∀ (l : List UInt8) (a b : Int), (a - b) % 18446744073709551616 = 0 → (valI a l - valI b l) % 18446744073709551616 = 0
  | [], a, b, h => h
  | x :: l, a, b, h => valI_cong l (a * 256 + (x.toNat : Int)) (b * 256 + (x.toNat : Int)) (by omega)
theorem getQ_val : ∀ (l : List UInt8) (n : Int), (getQ n l - valI n l) % 18446744073709551616 = 0
  | [], n => by show (n - n) % _ = 0; omega
  | x :: l, n => by
    have h1 := getQ_val l (wrap64 (n * 256 + (x.toNat : Int)))
    have h2 := valI_cong l (wrap64 (n * 256 + (x.toNat : Int))) (n * 256 + (x.toNat : Int)) (by unfold wrap64; omega)
    show (getQ (wrap64 (n * 256 + (x.toNat : Int))) l - valI (n * 256 + (x.toNat : Int)) l) % _ = 0
    omega
theorem getQ_in : ∀ (l : List UInt8) (n : Int), -9223372036854775808 ≤ n ∧ n ≤ 9223372036854775807 → -9223372036854775808 ≤ getQ n l ∧ getQ n l ≤ 9223372036854775807
  | [], n, h => h
  | x :: l, n, h => getQ_in l (wrap64 (n * 256 + (x.toNat : Int))) (by unfold wrap64; omega)
theorem getQ_is {l : List UInt8} {n v : Int} (hn : -9223372036854775808 ≤ n ∧ n ≤ 9223372036854775807) (hv : -9223372036854775808 ≤ v ∧ v ≤ 9223372036854775807) (h : (valI n l - v) % 18446744073709551616 = 0) : getQ n l = v := by
  have h1 := getQ_val l n
  have h2 := getQ_in l n hn
  omega
theorem step256 (n P Q : Int) (hP : P = 1 ∨ P = 256 ∨ P = 65536 ∨ P = 16777216 ∨ P = 4294967296 ∨ P = 1099511627776 ∨ P = 281474976710656 ∨ P = 72057594037927936) (hQ : Q = P * 256) : n % Q = n % P + P * (n / P % 256) := by
  subst hQ
  rcases hP with rfl | rfl | rfl | rfl | rfl | rfl | rfl | rfl <;> omega
theorem bq1 (n : Int) : bytesQ n 1 = [byteAt n 0] := rfl
theorem bq2 (n : Int) : bytesQ n 2 = [byteAt n 1, byteAt n 0] := rfl
theorem bq4 (n : Int) : bytesQ n 4 = [byteAt n 3, byteAt n 2, byteAt n 1, byteAt n 0] := rfl
theorem bq8 (n : Int) : bytesQ n 8 = [byteAt n 7, byteAt n 6, byteAt n 5, byteAt n 4, byteAt n 3, byteAt n 2, byteAt n 1, byteAt n 0] := rfl
theorem val1 (n a : Int) : valI a (bytesQ n 1) = a * 256 + n % 256 := by
  rw [bq1]
  show a * 256 + ((byteAt n 0).toNat : Int) = _
  rw [byteAt_val]
  simp
theorem bv (n : Int) (e : Nat) (P : Int) (h : (2 : Int) ^ (8 * e) = P) : ((byteAt n e).toNat : Int) = n / P % 256 := by rw [byteAt_val, h]
theorem val2 (n a : Int) : valI a (bytesQ n 2) = a * 65536 + n % 65536 := by
  rw [bq2]
  show (a * 256 + ((byteAt n 1).toNat : Int)) * 256 + ((byteAt n 0).toNat : Int) = _
  have s0 := step256 n 1 256 (by omega) (by omega)
  have s1 := step256 n 256 65536 (by omega) (by omega)
  rw [bv n 0 1 (by decide), bv n 1 256 (by decide)]
  have z : n % 1 = 0 := by omega
  generalize n / 1 % 256 = b0 at *
  generalize n / 256 % 256 = b1 at *
  generalize n % 65536 = r2 at *
  generalize n % 256 = r1 at *
  generalize n % 1 = r0 at *
  omega
theorem val4 (n a : Int) : valI a (bytesQ n 4) = a * 4294967296 + n % 4294967296 := by
  rw [bq4]
  show (((a * 256 + ((byteAt n 3).toNat : Int)) * 256 + ((byteAt n 2).toNat : Int)) * 256 + ((byteAt n 1).toNat : Int)) * 256 + ((byteAt n 0).toNat : Int) = _
  have s0 := step256 n 1 256 (by omega) (by omega)
  have s1 := step256 n 256 65536 (by omega) (by omega)
  have s2 := step256 n 65536 16777216 (by omega) (by omega)
  have s3 := step256 n 16777216 4294967296 (by omega) (by omega)
  rw [bv n 0 1 (by decide), bv n 1 256 (by decide), bv n 2 65536 (by decide), bv n 3 16777216 (by decide)]
  have z : n % 1 = 0 := by omega
  generalize n / 1 % 256 = b0 at *
  generalize n / 256 % 256 = b1 at *
  generalize n / 65536 % 256 = b2 at *
  generalize n / 16777216 % 256 = b3 at *
  generalize n % 4294967296 = r4 at *
  generalize n % 16777216 = r3 at *
  generalize n % 65536 = r2 at *
  generalize n % 256 = r1 at *
  generalize n % 1 = r0 at *
  omega
theorem val8 (n a : Int) : valI a (bytesQ n 8) = a * 18446744073709551616 + n % 18446744073709551616 := by
  rw [bq8]
  show (((((((a * 256 + ((byteAt n 7).toNat : Int)) * 256 + ((byteAt n 6).toNat : Int)) * 256 + ((byteAt n 5).toNat : Int)) * 256 + ((byteAt n 4).toNat : Int)) * 256 + ((byteAt n 3).toNat : Int)) * 256 + ((byteAt n 2).toNat : Int)) * 256 + ((byteAt n 1).toNat : Int)) * 256 + ((byteAt n 0).toNat : Int) = _
  have s0 := step256 n 1 256 (by omega) (by omega)
  have s1 := step256 n 256 65536 (by omega) (by omega)
  have s2 := step256 n 65536 16777216 (by omega) (by omega)
  have s3 := step256 n 16777216 4294967296 (by omega) (by omega)
  have s4 := step256 n 4294967296 1099511627776 (by omega) (by omega)
  have s5 := step256 n 1099511627776 281474976710656 (by omega) (by omega)
  have s6 := step256 n 281474976710656 72057594037927936 (by omega) (by omega)
  have s7 := step256 n 72057594037927936 18446744073709551616 (by omega) (by omega)
  rw [bv n 0 1 (by decide), bv n 1 256 (by decide), bv n 2 65536 (by decide), bv n 3 16777216 (by decide), bv n 4 4294967296 (by decide), bv n 5 1099511627776 (by decide), bv n 6 281474976710656 (by decide), bv n 7 72057594037927936 (by decide)]
  have z : n % 1 = 0 := by omega
  generalize n / 1 % 256 = b0 at *
  generalize n / 256 % 256 = b1 at *
  generalize n / 65536 % 256 = b2 at *
  generalize n / 16777216 % 256 = b3 at *
  generalize n / 4294967296 % 256 = b4 at *
  generalize n / 1099511627776 % 256 = b5 at *
  generalize n / 281474976710656 % 256 = b6 at *
  generalize n / 72057594037927936 % 256 = b7 at *
  generalize n % 18446744073709551616 = r8 at *
  generalize n % 72057594037927936 = r7 at *
  generalize n % 281474976710656 = r6 at *
  generalize n % 1099511627776 = r5 at *
  generalize n % 4294967296 = r4 at *
  generalize n % 16777216 = r3 at *
  generalize n % 65536 = r2 at *
  generalize n % 256 = r1 at *
  generalize n % 1 = r0 at *
  omega
theorem signed_bytes (n : Int) (h0 : -9223372036854775808 ≤ n) (h1 : n ≤ 9223372036854775807) : signedQ (bytesQ n (widthQ n)) = n := by
  unfold widthQ signedQ
  by_cases c1 : -128 ≤ n ∧ n < 128
  · rw [if_pos c1]
    have hb := bv n 0 1 (by decide)
    have hd : (bytesQ n 1).getD 0 0 = byteAt n 0 := rfl
    rw [hd]
    refine getQ_is (by split <;> omega) ⟨h0, h1⟩ ?_
    rw [val1]
    split <;> omega
  rw [if_neg c1]
  by_cases c2 : -32768 ≤ n ∧ n < 32768
  · rw [if_pos c2]
    have hb := bv n 1 256 (by decide)
    have hd : (bytesQ n 2).getD 0 0 = byteAt n 1 := rfl
    rw [hd]
    refine getQ_is (by split <;> omega) ⟨h0, h1⟩ ?_
    rw [val2]
    split <;> omega
  rw [if_neg c2]
  by_cases c4 : -2147483648 ≤ n ∧ n < 2147483648
  · rw [if_pos c4]
    have hb := bv n 3 16777216 (by decide)
    have hd : (bytesQ n 4).getD 0 0 = byteAt n 3 := rfl
    rw [hd]
    refine getQ_is (by split <;> omega) ⟨h0, h1⟩ ?_
    rw [val4]
    split <;> omega
  rw [if_neg c4]
  have hb := bv n 7 72057594037927936 (by decide)
  have hd : (bytesQ n 8).getD 0 0 = byteAt n 7 := rfl
  rw [hd]
  refine getQ_is (by split <;> omega) ⟨h0, h1⟩ ?_
  rw [val8]
  split <;> omega
theorem widthB_q (n : Int) : widthB (bytesQ n (widthQ n)).length = true := by
  rw [bytesQ_len]
  unfold widthQ
  (repeat' split) <;> rfl
end Go.Proofs.YtkacgdhcacclcaaDoor
