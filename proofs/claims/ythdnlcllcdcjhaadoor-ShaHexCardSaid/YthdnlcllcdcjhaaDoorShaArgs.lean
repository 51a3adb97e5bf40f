/-
  Arguments opened: digests.
-/
import Derived.Test.YthdnlcllcdcjhaaDoorArgs
namespace Go.Proofs.YthdnlcllcdcjhaaDoor
open Go.ChangeShapes Go.WideShapes Go.ChangeAt Go.RowKit
section
variable {H : Type} {enc : TypeId × Value → H} {W : World} {base : Nat}
theorem args_bytes32 {v : Value} {d : DataW H} {p : List MemPlace} {r : Reach} {b0 : Nat} (hv : Value.okWide Tryd.prog W r b0 25 v) (h : DataW.Trod enc Tryd.prog W base (fun _ => true) true 25 v d p) :
    ∃ l : List UInt8, l.length = 32 ∧ v = .agg (U8 l).toArray := by
  obtain ⟨xs, rfl, hsz⟩ : ∃ xs : Array Value, v = .agg xs ∧ xs.size = 32 := by
    simp only [Value.okWide, Tryd.underlying25] at hv
    obtain ⟨cs, h1, h2, _⟩ := hv
    exact ⟨cs, h1, by rw [h2]; kernel_rfl⟩
  obtain ⟨fuel, hf⟩ := h
  obtain ⟨ys, m, _, _, _, hlen, hi⟩ := DataW.trod_array Tryd.underlying25 hf
  have hce : Tryd.prog.cellsOf 5 = 1 := by kernel_rfl
  have hcell : ∀ i, i < 32 → ∃ z : Int, xs[i]? = some (.int .u8 z) ∧ (Lit.int .u8 z).wf = true := fun i hlt => by
    have h1 := hi i hlt
    rw [hce, List.getElem?_eq_getElem (by omega)] at h1
    obtain ⟨z, hz, _, hw⟩ := DataW.trod_int Tryd.underlying5 h1
    refine ⟨z, ?_, hw⟩
    have := congrArg (·[0]?) hz
    simpa [Value.cells, List.getElem?_take, List.getElem?_drop] using this
  refine ⟨xs.toList.map fun v => match v with | .int _ z => UInt8.ofNat z.toNat | _ => 0, by simp [hsz], ?_⟩
  congr 1
  apply Array.ext_getElem?
  intro i
  by_cases hlt : i < 32
  · obtain ⟨z, hz, hw⟩ := hcell i hlt
    have hb : 0 ≤ z ∧ z ≤ 255 := by simpa [Lit.wf, IntKind.min, IntKind.max, IntKind.signed, IntKind.bits] using hw
    rw [hz, List.getElem?_toArray, U8_get, List.getElem?_map, Array.getElem?_toList, hz]
    simp only [Option.map_some, UInt8.toNat_ofNat']
    congr 2
    omega
  · rw [Array.getElem?_eq_none (by omega), List.getElem?_toArray, List.getElem?_eq_none (by rw [U8_length]; simp [hsz]; omega)]
end
end Go.Proofs.YthdnlcllcdcjhaaDoor
