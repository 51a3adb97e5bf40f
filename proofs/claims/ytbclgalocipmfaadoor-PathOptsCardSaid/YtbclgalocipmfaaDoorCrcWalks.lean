/-
  What the functions of package crc, and those that they are held against, do: one contract each.
-/
import Derived.Test.YtbclgalocipmfaaDoorRows
import Derived.Test.YtbclgalocipmfaaDoorBase
import Derived.Test.YtbclgalocipmfaaDoorCrcMath
import Derived.Test.YtbclgalocipmfaaDoorVaRSame
import Derived.Test.YtbclgalocipmfaaDoorMem
namespace Go.Proofs.YtbclgalocipmfaaDoor
open Go.RowKit
set_option maxRecDepth 100000

theorem int32 {a : Int} {x : BitVec 32} (h : a = (x.toNat : Int)) : Value.int .u32 a = Value.int .u32 (x.toNat : Int) := by rw [h]
theorem ret32 {a : Int} {x : BitVec 32} (h : a = (x.toNat : Int)) : Ending.returned (.int .u32 a) = .returned (.int .u32 (x.toNat : Int)) := by rw [h]
theorem neg32 (r : BitVec 32) : POLY &&& -(r &&& 1#32) = if r.getLsbD 0 then POLY else 0#32 := by
  have h : r &&& 1#32 = if r.getLsbD 0 then 1#32 else 0#32 := by
    apply BitVec.eq_of_toNat_eq
    rw [BitVec.toNat_and]
    have e : r.getLsbD 0 = decide (r.toNat % 2 = 1) := by rw [← BitVec.testBit_toNat, Nat.testBit_zero]
    rw [e]
    by_cases hx : r.toNat % 2 = 1 <;> simp [hx] <;> omega
  rw [h]
  cases r.getLsbD 0 <;> simp [POLY]
/-- The round of Extend's inner loop, as the walk spells it. -/
theorem st_walk (x : BitVec 32) : bits .xor .u32 ((x.toNat : Int) / 2) (bits .and .u32 3988292384 (-bits .and .u32 (x.toNat : Int) 1 % 4294967296)) = ((st x).toNat : Int) := by
  rw [half32, and32, and32, xor32, of32, of32, of32, ofMod32]
  congr 1
  have e : BitVec.ofInt 32 (-((x &&& BitVec.ofInt 32 1).toNat : Int)) = -(x &&& 1#32) := by
    rw [BitVec.ofInt_neg, of32]; rfl
  rw [e, show BitVec.ofInt 32 3988292384 = POLY from rfl, neg32]
  rfl
theorem not32 (x : BitVec 32) : bits .xor .u32 IntKind.u32.max (x.toNat : Int) = ((~~~ x).toNat : Int) := by
  rw [xor32, of32, show BitVec.ofInt 32 IntKind.u32.max = BitVec.allOnes 32 from rfl, BitVec.allOnes_xor]
theorem byte_in (x : BitVec 32) (u : UInt8) : bits .xor .u32 (x.toNat : Int) ((u.toNat : Int) % 4294967296) = ((x ^^^ w8 u).toNat : Int) := by
  rw [xor32, of32, ofMod32, ofByte32]
theorem take_crc {l : List UInt8} {k : Nat} {u : UInt8} (r : BitVec 32) (h : l[k]? = some u) : crcOf r (l.take (k + 1)) = stN 8 (crcOf r (l.take k) ^^^ w8 u) := by
  rw [List.take_add_one, h]
  exact crcOf_snoc _ _ _
end Go.Proofs.YtbclgalocipmfaaDoor
