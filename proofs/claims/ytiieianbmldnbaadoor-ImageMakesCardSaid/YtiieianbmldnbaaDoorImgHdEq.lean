/-
  Heads that are compared.
-/
import Derived.Test.YtiieianbmldnbaaDoorImgRefRead
import Derived.Test.YtiieianbmldnbaaDoorShaEq
namespace Go.Proofs.YtiieianbmldnbaaDoor
open Go.RowKit
set_option maxRecDepth 100000
set_option maxRecDepth 100000
theorem fields33 : (Tryd.prog.fieldsOf 33).toList = [{ name := "Version", type := 22, offset := 0, embedded := false, tag := "", pkgPath := "", byteOffset := 0 }, { name := "Size", type := 3, offset := 1, embedded := false, tag := "", pkgPath := "", byteOffset := 8 }, { name := "Name", type := 9, offset := 2, embedded := false, tag := "", pkgPath := "", byteOffset := 16 }, { name := "Digest", type := 23, offset := 3, embedded := false, tag := "", pkgPath := "", byteOffset := 32 }] := by kernel_rfl
theorem guard33 : Tryd.prog.eqGuardType Tryd.prog.depth 33 = false := by kernel_rfl
theorem part_digest (w : World) (v sz : Int) (nm : ByteArray) (d : List UInt8) (hd : d.length = 32) : (part 23 (Hv v sz nm d).toArray 3).run Tryd.prog w = .ok (.agg (U8 d).toArray) w := by


  have ht : List.take 32 (List.drop 3 (Hv v sz nm d)) = U8 d := by
    show List.take 32 (U8 d) = _
    exact List.take_of_length_le (by rw [U8_length, hd]; exact Nat.le_refl _)
  simp [part, isAgg, run_underlying Tryd.underlying23, ht]
theorem struct33 : Tryd.prog.underlying 33 = some (.struct (Tryd.prog.fieldsOf 33)) := by kernel_rfl
theorem stood33 : Tryd.prog.stoodInHeld 33 = false := by kernel_rfl
theorem eq_digest (w : World) (d : List UInt8) (hd : d.length = 32) : (Op.equalIn 9999 23 (.agg (U8 d).toArray) (.agg (U8 d).toArray)).run Tryd.prog w = .ok true w := by
  obtain ⟨i, hi, hc, hp⟩ := info_of_plain
  rw [run_equalIn_array w 9998 _ _ Tryd.underlying23 hi, hc, run_eqItems_U8 w 9997 hp Tryd.underlying5 d d _ (fun j hj => by rw [hd]; exact ⟨List.mem_range.1 hj, List.mem_range.1 hj⟩), all_get hd hd, decide_eq_true rfl]
theorem eq_fields (w : World) (v sz : Int) (nm : ByteArray) (d : List UInt8) (hd : d.length = 32) (D : Nat)
    (e0 : (Op.equalIn D 22 (.int .u32 v) (.int .u32 v)).run Tryd.prog w = .ok (v == v) w) (e1 : (Op.equalIn D 3 (.int .i64 sz) (.int .i64 sz)).run Tryd.prog w = .ok (sz == sz) w)
    (e2 : (Op.equalIn D 9 (.string nm) (.string nm)).run Tryd.prog w = .ok (nm.toList == nm.toList) w) (e3 : (Op.equalIn D 23 (.agg (U8 d).toArray) (.agg (U8 d).toArray)).run Tryd.prog w = .ok true w) :
    (Op.eqFields D (Hv v sz nm d).toArray (Hv v sz nm d).toArray (Tryd.prog.fieldsOf 33).toList).run Tryd.prog w = .ok true w := by
  have p0 := run_part_plain (P := Tryd.prog) w (e := 22) (by kernel_rfl) (xs := (Hv v sz nm d).toArray) (off := 0) (v := .int .u32 v) rfl
  have p1 := run_part_plain (P := Tryd.prog) w (e := 3) (by kernel_rfl) (xs := (Hv v sz nm d).toArray) (off := 1) (v := .int .i64 sz) rfl
  have p2 := run_part_plain (P := Tryd.prog) w (e := 9) (by kernel_rfl) (xs := (Hv v sz nm d).toArray) (off := 2) (v := .string nm) rfl
  have p3 := part_digest w v sz nm d hd
  rw [fields33]
  simp only [Op.eqFields, Sem.run_bind, Sem.run_ite, p0, p1, p2, p3, e0, e1, e2, e3, Result.andThen_ok, Sem.run_pure]
  simp
theorem run_eql_hd (w : World) (v sz : Int) (nm : ByteArray) (d : List UInt8) (hd : d.length = 32) : (binOp .eql 33 (.agg (Hv v sz nm d).toArray) (.agg (Hv v sz nm d).toArray)).run Tryd.prog w = .ok (.bool true) w := by
  rw [run_eql_struct, run_equalIn_agg w 9999 _ _ _ struct33 stood33, eq_fields w v sz nm d hd 9999 (run_equalIn_int (P := Tryd.prog) w 9998 22 .u32 .u32 v v Tryd.underlying22) (run_equalIn_int (P := Tryd.prog) w 9998 3 .i64 .i64 sz sz Tryd.underlying3)
    (run_equalIn_string (P := Tryd.prog) w 9998 9 nm nm Tryd.underlying9) (eq_digest w d hd)]
  rfl
/-- What Write tells. -/
def wErr (sz : Int) (nm : ByteArray) : Int := if rightH sz nm then 0 else 1
def wOut (v sz : Int) (nm : ByteArray) (d : List UInt8) : List UInt8 := if rightH sz nm then headOf v sz nm.data.toList d else []
def RetW (v sz : Int) (nm : ByteArray) (d : List UInt8) (w : World) (e : Ending) (w' : World) : Prop :=
  ∃ A n c, e = .returned (.tuple #[.slice A n c, .int .i64 (wErr sz nm)]) ∧ n ≤ c ∧ (n : Int) ≤ 64 ∧ Bs w' w'.heap.size A n (wOut v sz nm d) ∧ Below w.heap.size w w'
theorem retW_no {w w' : World} {v sz : Int} {nm : ByteArray} {d : List UInt8} {e : Ending} (hr : rightH sz nm = false) (h : e = .returned (.tuple #[.slice none 0 0, .int .i64 1]) ∧ Below w.heap.size w w') : RetW v sz nm d w e w' := by
  obtain ⟨rfl, hb⟩ := h
  refine ⟨none, 0, 0, ?_, Nat.le_refl _, by omega, ?_, hb⟩
  · unfold wErr; rw [hr]; rfl
  · unfold wOut; rw [hr]; exact Bs.empty _ _ _
theorem retW_yes {w w' : World} {v sz : Int} {nm : ByteArray} {d : List UInt8} {e : Ending} (hr : rightH sz nm = true) (h : ∃ x, e = .returned (.tuple #[x, .int .i64 0]) ∧ w'.ownsRow w.heap.size 5 1 x 64 (U8 (headOf v sz nm.data.toList d)) ∧ Below w.heap.size w w') : RetW v sz nm d w e w' := by
  obtain ⟨x, rfl, ho, hb⟩ := h
  obtain ⟨A, c, rfl, hc, hbs⟩ := Bs.of_own ho
  refine ⟨A, 64, c, ?_, hc, by omega, ?_, hb⟩
  · unfold wErr; rw [hr]; rfl
  · unfold wOut; rw [hr]; exact hbs
theorem write_all (w : World) (v sz : Int) (nm : ByteArray) (d : List UInt8) (hd : d.length = 32) (hv0 : 0 ≤ v) (hv1 : v < 4294967296) : Calls Tryd.prog 9 #[.agg (Hv v sz nm d).toArray] w (RetW v sz nm d w) := by
  cases hr : rightH sz nm with
  | false => exact (write_no w v sz nm d hd hr).mono fun _ _ h => retW_no hr h
  | true => exact (write_yes w v sz nm d hd hv0 hv1 hr).mono fun _ _ h => retW_yes hr h
theorem rwrite_all (w : World) (v sz : Int) (nm : ByteArray) (d : List UInt8) (hd : d.length = 32) (hv0 : 0 ≤ v) (hv1 : v < 4294967296) : Calls Tryd.prog 10 #[.agg (Hv v sz nm d).toArray] w (RetW v sz nm d w) := by
  cases hr : rightH sz nm with
  | false => exact (rwrite_no w v sz nm d hd hr).mono fun _ _ h => retW_no hr h
  | true => exact (rwrite_yes w v sz nm d hd hv0 hv1 hr).mono fun _ _ h => retW_yes hr h
end Go.Proofs.YtiieianbmldnbaaDoor
