/-
  A word turned right: the contracts of the three functions that do it.
-/
import Derived.Test.YtiieianbmldnbaaDoorRows
import Derived.Test.YtiieianbmldnbaaDoorBits
import Derived.Test.YtiieianbmldnbaaDoorBase
import Derived.WalkKit
import Derived.WalkSpells
import Derived.WalkLawsBesides
import Derived.Lib.Hide
namespace Go.Proofs.YtiieianbmldnbaaDoor
open Go.RowKit
set_option maxRecDepth 100000
/-- A word turned right. -/
def rotr (x : BitVec 32) (n : Nat) : BitVec 32 := (x >>> n) ||| (x <<< (32 - n))
theorem and31 (n : Nat) (h1 : 1 ≤ n) (h2 : n ≤ 31) : bits .and .u64 (IntKind.u64.wrap (-(n : Int))) 31 = ((32 - n : Nat) : Int) := by
  have h0 : (BitVec.ofInt 64 (IntKind.u64.wrap (-(n : Int)))).toNat = 18446744073709551616 - n := by
    rw [BitVec.toNat_ofInt, IntKind.wrap_u64]; omega
  show IntKind.u64.wrap ((BitVec.ofInt 64 (IntKind.u64.wrap (-(n : Int))) &&& BitVec.ofInt 64 31).toNat : Int) = _
  rw [BitVec.toNat_and, show (BitVec.ofInt 64 31).toNat = 2 ^ 5 - 1 from rfl, Nat.and_two_pow_sub_one_eq_mod, h0, IntKind.wrap_u64]
  omega
theorem shl32 (x : BitVec 32) (m : Nat) : BitVec.ofInt 32 ((x.toNat : Int) * (2 : Int) ^ m) = x <<< m := by
  apply BitVec.eq_of_toNat_eq
  rw [show ((x.toNat : Int) * (2 : Int) ^ m) = ((x.toNat * 2 ^ m : Nat) : Int) by simp, BitVec.ofInt_natCast, BitVec.toNat_ofNat, BitVec.toNat_shiftLeft, Nat.shiftLeft_eq]
theorem intEq {k : IntKind} {a b : Int} (h : a = b) : Value.int k a = Value.int k b := by rw [h]
theorem ret32 {a : Int} {x : BitVec 32} (h : a = (x.toNat : Int)) : Ending.returned (.int .u32 a) = .returned (.int .u32 (x.toNat : Int)) := by rw [h]
set_option maxHeartbeats 400000 in
theorem rotl_any (x : BitVec 32) (k : Int) (m : Nat) (hk : bits .and .u64 (IntKind.u64.wrap k) 31 = (m : Int)) (h1 : 1 ≤ (m : Int)) (h2 : (m : Int) ≤ 31) (w : World) : Calls Tryd.prog 64 #[.int .u32 (x.toNat : Int), .int .i64 k] w fun e w' => e = .returned (.int .u32 ((rotr x (32 - m)).toNat : Int)) ∧ w = w' := by
  go_enter Tryd.func64, Tryd.ntmps64
  go_wp2
  go_ret
  exact ⟨ret32 (by rw [or32, ofMod32, shl32, shr32, of32, rotr, BitVec.or_comm, show 32 - (32 - m) = m by omega]), rfl⟩
set_option maxHeartbeats 400000 in
theorem rturn_any (x : BitVec 32) (n : Nat) (h1 : 1 ≤ (n : Int)) (h2 : (n : Int) ≤ 31) (w : World) : Calls Tryd.prog 52 #[.int .u32 (x.toNat : Int), .int .i64 n] w fun e w' => e = .returned (.int .u32 ((rotr x n).toNat : Int)) ∧ ∃ m, w' = w.drewN m := by
  have e1 : IntKind.i64.wrap (32 - (n : Int)) = 32 - (n : Int) := IntWalk.i64_in _ (by omega)
  have e2 : 0 ≤ 32 - (n : Int) := by omega
  have e3 : (32 - (n : Int)).toNat = 32 - n := by omega
  have e0 : 0 ≤ (n : Int) := by omega
  go_enter Tryd.func52, Tryd.ntmps52
  go_wp2
  go_quiet (fail)
  go_wp2
  go_ret
  exact ⟨ret32 (by rw [or32, shr32, ofMod32, shl32, of32, rotr]), _, rfl⟩
set_option maxHeartbeats 400000 in
theorem turn_any (x : BitVec 32) (n : Nat) (h1 : 1 ≤ (n : Int)) (h2 : (n : Int) ≤ 31) (w : World) : Calls Tryd.prog 62 #[.int .u32 (x.toNat : Int), .int .i64 n] w fun e w' => e = .returned (.int .u32 ((rotr x n).toNat : Int)) ∧ w = w' := by
  go_enter Tryd.func62, Tryd.ntmps62
  go_wp2_with fail
  refine (rotl_any x _ (32 - n) (and31 n (by omega) (by omega)) (by omega) (by omega) w).mono ?_
  rintro e w1 ⟨rfl, rfl⟩
  go_wp2
  go_ret
  exact ⟨ret32 (by rw [show 32 - (32 - n) = n by omega]), rfl⟩
end Go.Proofs.YtiieianbmldnbaaDoor
