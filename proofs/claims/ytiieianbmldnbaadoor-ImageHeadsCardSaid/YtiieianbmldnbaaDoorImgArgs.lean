/-
  Arguments opened: heads of images.
-/
import Derived.Test.YtiieianbmldnbaaDoorArgs
import Derived.Test.YtiieianbmldnbaaDoorImgHead
namespace Go.Proofs.YtiieianbmldnbaaDoor
open Go.ChangeShapes Go.WideShapes Go.ChangeAt Go.RowKit
set_option maxRecDepth 100000
section
variable {P : Program} {W : World} {r : Reach} {base : Nat}
theorem cell_int {u : TypeId} {k : IntKind} {v : Value} (hu : P.underlying u = some (.int k)) (h : Cell.okWide P W r base u v) : ∃ n, v = .int k n ∧ k.has n := by
  cases v <;> simp [Cell.okWide, Cell.ok, hu] at h
  exact ⟨_, by rw [h.1], h.2⟩
theorem cell_string {u : TypeId} {v : Value} (hu : P.underlying u = some .string) (h : Cell.okWide P W r base u v) : ∃ s, v = .string s := by
  cases v <;> simp [Cell.okWide, Cell.ok, hu] at h
  exact ⟨_, rfl⟩
theorem has_u32 {n : Int} (h : IntKind.u32.has n) : 0 ≤ n ∧ n < 4294967296 := by
  have : IntKind.u32.min ≤ n ∧ n ≤ IntKind.u32.max := h
  simp [IntKind.min, IntKind.max, IntKind.signed, IntKind.bits] at this
  omega
theorem has_u8 {n : Int} (h : IntKind.u8.has n) : 0 ≤ n ∧ n < 256 := by
  have : IntKind.u8.min ≤ n ∧ n ≤ IntKind.u8.max := h
  simp [IntKind.min, IntKind.max, IntKind.signed, IntKind.bits] at this
  omega
theorem cells_hd : Tryd.prog.cellTypes Tryd.prog.depth 25 = some (22 :: 3 :: 9 :: List.replicate 32 5) := by kernel_rfl
theorem cellsOf_hd : Tryd.prog.cellsOf 25 = 35 := by kernel_rfl
theorem args_head {v : Value} (hv : Value.okWide Tryd.prog W r base 25 v) : ∃ (x sz : Int) (nm : ByteArray) (d : List UInt8), d.length = 32 ∧ 0 ≤ x ∧ x < 4294967296 ∧ v = .agg (Hv x sz nm d).toArray := by
  simp only [Value.okWide, Tryd.underlying25] at hv
  obtain ⟨cs, rfl, hsz, ts, hts, _, hc⟩ := hv
  rw [cellsOf_hd] at hsz
  rw [cells_hd] at hts
  obtain rfl := Option.some.inj hts
  have get : ∀ i, i < 35 → ∃ v u, cs[i]? = some v ∧ (22 :: 3 :: 9 :: List.replicate 32 5)[i]? = some u ∧ Cell.okWide Tryd.prog W r base u v := fun i hi => by
    obtain ⟨u, hu, ho⟩ := hc i _ (Array.getElem?_eq_getElem (by omega))
    refine ⟨_, u, Array.getElem?_eq_getElem (by omega), ?_, ho⟩
    rw [← hu]
    congr 1
    simp only [List.length_cons, List.length_replicate]
    omega
  obtain ⟨v0, u0, h0, e0, o0⟩ := get 0 (by omega)
  obtain ⟨v1, u1, h1, e1, o1⟩ := get 1 (by omega)
  obtain ⟨v2, u2, h2, e2, o2⟩ := get 2 (by omega)
  obtain rfl := Option.some.inj e0
  obtain rfl := Option.some.inj e1
  obtain rfl := Option.some.inj e2
  obtain ⟨x, rfl, hx⟩ := cell_int Tryd.underlying22 o0
  obtain ⟨sz, rfl, _⟩ := cell_int Tryd.underlying3 o1
  obtain ⟨nm, rfl⟩ := cell_string Tryd.underlying9 o2
  have hb : ∀ i, i < 32 → ∃ z : Int, cs[3 + i]? = some (.int .u8 z) ∧ 0 ≤ z ∧ z < 256 := fun i hi => by
    obtain ⟨v, u, h, e, o⟩ := get (3 + i) (by omega)
    rw [show 3 + i = i + 1 + 1 + 1 by omega, List.getElem?_cons_succ, List.getElem?_cons_succ, List.getElem?_cons_succ, List.getElem?_replicate, if_pos hi] at e
    obtain rfl := Option.some.inj e
    obtain ⟨z, rfl, hz⟩ := cell_int Tryd.underlying5 o
    exact ⟨z, h, has_u8 hz⟩
  obtain ⟨D, hD⟩ : ∃ D : List UInt8, D = (cs.toList.drop 3).map fun v => match v with | .int _ z => UInt8.ofNat z.toNat | _ => 0 := ⟨_, rfl⟩
  have hDl : D.length = 32 := by rw [hD]; simp [hsz]
  refine ⟨x, sz, nm, D, hDl, (has_u32 hx).1, (has_u32 hx).2, ?_⟩
  congr 1
  apply Array.ext_getElem?
  intro i
  rw [show (Hv x sz nm D).toArray[i]? = (Hv x sz nm D)[i]? from List.getElem?_toArray ..]
  match i with
  | 0 => exact h0
  | 1 => exact h1
  | 2 => exact h2
  | i + 3 =>
    show cs[i + 3]? = (U8 D)[i]?
    by_cases hi : i < 32
    · obtain ⟨z, hz, z0, z1⟩ := hb i hi
      rw [Nat.add_comm] at hz
      rw [hz, U8_get, hD, List.getElem?_map, List.getElem?_drop, Array.getElem?_toList, Nat.add_comm 3 i, hz]
      simp only [Option.map_some, UInt8.toNat_ofNat']
      congr 2
      omega
    · rw [Array.getElem?_eq_none (by omega), List.getElem?_eq_none (by rw [U8_length]; omega)]
end
end Go.Proofs.YtiieianbmldnbaaDoor
