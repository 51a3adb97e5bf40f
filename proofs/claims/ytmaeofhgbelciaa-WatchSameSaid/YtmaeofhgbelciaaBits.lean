/-
  Plain laws: the model's bit operations on 32-bit words as Lean's own on BitVec 32. No program is named here.
-/
import Derived.WalkKit
namespace Go.Proofs.Ytmaeofhgbelciaa
open Go.RowKit
set_option maxRecDepth 100000

theorem wrap32v (n : Int) : IntKind.u32.wrap n = ((BitVec.ofInt 32 n).toNat : Int) := by
  rw [IntKind.wrap_u32', BitVec.toNat_ofInt]; omega
theorem of32 (x : BitVec 32) : BitVec.ofInt 32 (x.toNat : Int) = x := by
  rw [BitVec.ofInt_natCast]; exact BitVec.ofNat_toNat _ _ |>.trans (by simp)
theorem xor32 (a b : Int) : bits .xor .u32 a b = ((BitVec.ofInt 32 a ^^^ BitVec.ofInt 32 b).toNat : Int) := by
  show IntKind.u32.wrap ((BitVec.ofInt 32 a ^^^ BitVec.ofInt 32 b).toNat : Int) = _
  rw [wrap32v, of32]
theorem and32 (a b : Int) : bits .and .u32 a b = ((BitVec.ofInt 32 a &&& BitVec.ofInt 32 b).toNat : Int) := by
  show IntKind.u32.wrap ((BitVec.ofInt 32 a &&& BitVec.ofInt 32 b).toNat : Int) = _
  rw [wrap32v, of32]
theorem or32 (a b : Int) : bits .or .u32 a b = ((BitVec.ofInt 32 a ||| BitVec.ofInt 32 b).toNat : Int) := by
  show IntKind.u32.wrap ((BitVec.ofInt 32 a ||| BitVec.ofInt 32 b).toNat : Int) = _
  rw [wrap32v, of32]
theorem shr32 (x : BitVec 32) (k : Nat) : (x.toNat : Int) / ((2 : Int) ^ k) = ((x >>> k).toNat : Int) := by
  rw [BitVec.toNat_ushiftRight, Nat.shiftRight_eq_div_pow]; simp
theorem half32 (x : BitVec 32) : (x.toNat : Int) / (2 : Int) = ((x >>> 1).toNat : Int) := by
  rw [BitVec.toNat_ushiftRight, Nat.shiftRight_eq_div_pow]; simp
theorem mod32 (n : Int) : n % 4294967296 = ((BitVec.ofInt 32 n).toNat : Int) := by
  rw [BitVec.toNat_ofInt]; omega
theorem ofMod32 (n : Int) : BitVec.ofInt 32 (n % 4294967296) = BitVec.ofInt 32 n := by
  rw [mod32, of32]
theorem word_lt (x : BitVec 32) : (x.toNat : Int) < 4294967296 := by have := x.isLt; omega
/-- A byte as a word. -/
def w8 (u : UInt8) : BitVec 32 := BitVec.ofNat 32 u.toNat
theorem w8_toNat (u : UInt8) : (w8 u).toNat = u.toNat := by
  have := u.toNat_lt
  unfold w8; rw [BitVec.toNat_ofNat]; exact Nat.mod_eq_of_lt (by omega)
theorem ofByte32 (u : UInt8) : BitVec.ofInt 32 (u.toNat : Int) = w8 u := by
  rw [BitVec.ofInt_natCast]; rfl
end Go.Proofs.Ytmaeofhgbelciaa
