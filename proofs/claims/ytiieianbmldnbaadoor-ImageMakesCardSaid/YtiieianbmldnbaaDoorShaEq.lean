/-
  Two digests held against each other.
-/
import Derived.ChangeKeysEq
import Derived.Laws.StructEq
import Derived.Test.YtiieianbmldnbaaDoorShaSum
namespace Go.Proofs.YtiieianbmldnbaaDoor
open Go.RowKit
set_option maxRecDepth 100000
theorem run_eqItems_U8 {P : Program} (w : World) (d : Nat) {e : TypeId} (he : P.plainKey e = true) (hu : P.underlying e = some (.int .u8)) (l l' : List UInt8) : ∀ (is : List Nat), (∀ i ∈ is, i < l.length ∧ i < l'.length) →
    (Op.eqItems (d + 1) e 1 (U8 l).toArray (U8 l').toArray is).run P w = .ok (is.all fun i => l[i]? == l'[i]?) w
  | [], _ => by simp [Op.eqItems]
  | i :: is, h => by
    obtain ⟨h1, h2⟩ := h i (by simp)
    obtain ⟨u, hu1⟩ := byte_get (l := l) (k := i) h1
    obtain ⟨v, hv1⟩ := byte_get (l := l') (k := i) h2
    have ih := run_eqItems_U8 w d he hu l l' is fun j hj => h j (by simp [hj])
    have p1 : (part e (U8 l).toArray (i * 1)).run P w = .ok (.int .u8 (u.toNat : Int)) w := run_part_plain w he (by rw [Nat.mul_one, List.getElem?_toArray, U8_get, hu1]; rfl)
    have p2 : (part e (U8 l').toArray (i * 1)).run P w = .ok (.int .u8 (v.toNat : Int)) w := run_part_plain w he (by rw [Nat.mul_one, List.getElem?_toArray, U8_get, hv1]; rfl)
    have p3 := run_equalIn_int (P := P) w d e .u8 .u8 (u.toNat : Int) (v.toNat : Int) hu
    have h3 : ((u.toNat : Int) == (v.toNat : Int)) = (u == v) := by
      rw [Bool.eq_iff_iff, beq_iff_eq, beq_iff_eq]
      exact ⟨fun h => UInt8.toNat_inj.1 (by omega), fun h => by rw [h]⟩
    simp only [Op.eqItems, Sem.run_bind, p1, p2, p3, Result.andThen_ok, List.all_cons, hu1, hv1, h3]
    cases hb : (u == v)
    · rw [if_pos (by simp)]
      simp [hb]
    · rw [if_neg (by simp), ih]
      simp [hb]
theorem all_get {n : Nat} {l l' : List UInt8} (h1 : l.length = n) (h2 : l'.length = n) : ((List.range n).all fun i => l[i]? == l'[i]?) = decide (l = l') := by
  rw [Bool.eq_iff_iff, List.all_eq_true, decide_eq_true_eq]
  constructor
  · intro h
    refine List.ext_getElem? fun i => ?_
    by_cases hi : i < n
    · simpa using h i (List.mem_range.2 hi)
    · rw [List.getElem?_eq_none (by omega), List.getElem?_eq_none (by omega)]
  · rintro rfl i _
    simp
theorem info_of_plain : ∃ i, Tryd.prog.info? 5 = some i ∧ Tryd.prog.cellsOf 5 = 1 ∧ Tryd.prog.plainKey 5 = true := ⟨_, rfl, by kernel_rfl, by kernel_rfl⟩
theorem run_eq32 (w : World) (l l' : List UInt8) (h1 : l.length = 32) (h2 : l'.length = 32) : (Op.equalIn 10000 23 (.agg (U8 l).toArray) (.agg (U8 l').toArray)).run Tryd.prog w = .ok (decide (l = l')) w := by
  obtain ⟨i, hi, hc, hp⟩ := info_of_plain
  rw [run_equalIn_array w 9999 _ _ Tryd.underlying23 hi, hc, run_eqItems_U8 w 9998 hp Tryd.underlying5 l l' _ (fun j hj => by rw [h1, h2]; exact ⟨List.mem_range.1 hj, List.mem_range.1 hj⟩), all_get h1 h2]
/-- '==' of two digests. -/
theorem run_eql32 (w : World) (l l' : List UInt8) (h1 : l.length = 32) (h2 : l'.length = 32) : (binOp .eql 23 (.agg (U8 l).toArray) (.agg (U8 l').toArray)).run Tryd.prog w = .ok (.bool (decide (l = l'))) w := by
  rw [run_eql_struct, run_eq32 w l l' h1 h2]; rfl
theorem run_neq32 (w : World) (l l' : List UInt8) (h1 : l.length = 32) (h2 : l'.length = 32) : (binOp .neq 23 (.agg (U8 l).toArray) (.agg (U8 l').toArray)).run Tryd.prog w = .ok (.bool (!decide (l = l'))) w := by
  rw [run_neq_struct, run_eq32 w l l' h1 h2]; rfl
theorem guard32 : Tryd.prog.eqGuardType Tryd.prog.depth 23 = false := by kernel_rfl
end Go.Proofs.YtiieianbmldnbaaDoor
