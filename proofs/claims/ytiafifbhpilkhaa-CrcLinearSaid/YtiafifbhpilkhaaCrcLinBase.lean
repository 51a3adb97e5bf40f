/-
  Bytes held against each other.
-/
import Derived.Test.YtiafifbhpilkhaaCrcLaws
import Derived.StillTailTactics
import Derived.Deep.RegionWith
namespace Go.Proofs.Ytiafifbhpilkhaa
open Go.RowKit
def xorTo (l1 l2 : List UInt8) (m : Nat) : Nat → List UInt8
  | 0 => List.replicate m 0
  | k + 1 => (xorTo l1 l2 m k).set k (l1.getD k 0 ^^^ l2.getD k 0)
theorem xorTo_length (l1 l2 : List UInt8) (m k : Nat) : (xorTo l1 l2 m k).length = m := by
  induction k with
  | zero => simp [xorTo]
  | succ k ih => simp [xorTo, ih]
theorem xorTo_get (l1 l2 : List UInt8) (m k j : Nat) (hj : j < m) : (xorTo l1 l2 m k)[j]? = some (if j < k then l1.getD j 0 ^^^ l2.getD j 0 else 0) := by
  induction k with
  | zero => simp [xorTo, hj]
  | succ k ih =>
    rw [xorTo, List.getElem?_set, xorTo_length]
    by_cases h : k = j
    · subst h; simp [hj]
    · rw [if_neg h, ih]
      by_cases h1 : j < k
      · rw [if_pos h1, if_pos (by omega)]
      · rw [if_neg h1, if_neg (by omega)]
theorem xorTo_all (l1 l2 : List UInt8) (m : Nat) (h1 : m ≤ l1.length) (h2 : m ≤ l2.length) : xorTo l1 l2 m m = List.zipWith (· ^^^ ·) (l1.take m) (l2.take m) := by
  apply List.ext_getElem?
  intro j
  by_cases hj : j < m
  · rw [xorTo_get _ _ _ _ _ hj, if_pos hj]
    have e1 : l1[j]? = some (l1.getD j 0) := by rw [List.getD_eq_getElem?_getD, List.getElem?_eq_getElem (by omega)]; rfl
    have e2 : l2[j]? = some (l2.getD j 0) := by rw [List.getD_eq_getElem?_getD, List.getElem?_eq_getElem (by omega)]; rfl
    rw [List.getElem?_zipWith, List.getElem?_take, List.getElem?_take, if_pos hj, if_pos hj, e1, e2]
  · rw [List.getElem?_eq_none (by rw [xorTo_length]; omega), List.getElem?_eq_none (by simp; omega)]
theorem made_U8 (m : Nat) : (madeCells (Value.int .u8 0).cells (m * 1)).toList = U8 (List.replicate m 0) := by
  rw [Nat.mul_one, show (Value.int .u8 0).cells = #[.int .u8 0] from rfl, toList_madeCells_one]
  simp [U8]
def zeroRow (n : Nat) : Array Value := (U8 (List.replicate n 0)).toArray
theorem run_zero (n : Nat) (hn : n ≤ 1000) (w : World) : (Instr.makeSlice 22 (.int .i64 (n : Int)) (.int .i64 (n : Int))).run Try.prog w = .ok (.slice (some ⟨w.heap.size, 0, none⟩) n n) (w.alloc (.cells (zeroRow n) 5)) := by
  obtain ⟨i0, hi0, hz0, hz1, hz2⟩ := info_parts info_u8
  have h := run_make (P := Try.prog) w 22 5 i0 _ Try.underlying22 hi0 hz0 .i64 .i64 n n (by omega) (Int.le_refl _) (by rw [hz2]; omega) (by omega)
  rw [hz1, Int.toNat_natCast] at h
  rw [h]
  have e : madeCells (Value.int .u8 0).cells (n * 1) = zeroRow n := by
    unfold zeroRow; rw [← made_U8]
  rw [e]
theorem lin_test (m : Nat) (l1 l2 : List UInt8) (h1 : m ≤ l1.length) (h2 : m ≤ l2.length) :
    (((sum (List.zipWith (· ^^^ ·) (l1.take m) (l2.take m))).toNat : Int) == bits .xor .u32 (bits .xor .u32 ((sum (l1.take m)).toNat : Int) ((sum (l2.take m)).toNat : Int)) ((sum (List.replicate m 0)).toNat : Int)) = true := by
  rw [xor32, xor32, of32, of32, of32, of32]
  have := ext_linear (l1.take m) (l2.take m) (List.replicate m 0) (by simp; omega) (by simp; omega)
  rw [show sum (List.zipWith (· ^^^ ·) (l1.take m) (l2.take m)) = sum (l1.take m) ^^^ sum (l2.take m) ^^^ sum (List.replicate m 0) from this]
  simp
theorem bs_zero (w : World) (n : Nat) : Bs (w.alloc (.cells (zeroRow n) 5)) (w.heap.size + 1) (some ⟨w.heap.size, 0, none⟩) n (List.replicate n 0) := by
  have := Bs.new_ w 5 (List.replicate n 0) (0, 0)
  rwa [List.length_replicate] at this
end Go.Proofs.Ytiafifbhpilkhaa
