/-
  Blocks among the arguments.
-/
import Derived.Test.YtdgihhepmmkkpaaBlkVal
import Derived.Test.YtdgihhepmmkkpaaArgs
import Derived.Test.YtdgihhepmmkkpaaOps
namespace Go.Proofs.Ytdgihhepmmkkpaa
open Go.ChangeShapes Go.WideShapes Go.ChangeAt Go.Deep Go.RowKit
set_option maxRecDepth 100000
set_option linter.unusedVariables false
section
variable {H : Type} {enc : TypeId × Value → H} {W : World} {base : Nat}
theorem cellsOf_blk : Try.prog.cellsOf 37 = 3 := by kernel_rfl
theorem args_blk {r : Reach} {b0 : Nat} {v : Value} {d : DataW H} {p : List MemPlace} (hv : Value.okWide Try.prog W r b0 37 v) (h : DataW.Trod enc Try.prog W base (fun _ => true) true 37 v d p) :
    ∃ (n z : Int) (m : Bool), v = .agg #[.int .i64 n, .bool m, .int .i64 z] ∧ I64 n ∧ I64 z := by
  have hE : ∃ f0 f1 f2 : Field, Try.prog.underlying 37 = some (.struct #[f0, f1, f2]) ∧ f0.type = 3 ∧ f1.type = 4 ∧ f2.type = 3 ∧ oneCellFields Try.prog #[f0, f1, f2] = true := ⟨_, _, _, Try.underlying37, rfl, rfl, rfl, by kernel_rfl⟩
  obtain ⟨f0, f1, f2, hE, t0, t1, t2, hone⟩ := hE
  simp only [Value.okWide, Try.underlying37] at hv
  obtain ⟨cs, rfl, hsz, _⟩ := hv
  rw [cellsOf_blk] at hsz
  obtain ⟨fuel, hf⟩ := h
  obtain ⟨ys, n', _, _, _, hyl, hg⟩ := DataW.trod_struct hE hf
  have fld : ∀ (j : Nat) (f : Field) (hj6 : j < 3), (#[f0, f1, f2] : Array Field)[j]? = some f → ∃ v y, cs[j]? = some v ∧ DataW.trod enc Try.prog W base (fun _ => true) true n' f.type [v] = some y := by
    intro j f hj6 hj
    obtain ⟨ho, hk⟩ := hone_of hone j f hj
    have h1 := hg j f hj
    rw [ho, hk] at h1
    have hl : (Value.agg cs).cells.toList.length = 3 := by show cs.toList.length = 3; simpa using hsz
    have hd : ((Value.agg cs).cells.toList.drop j).take 1 = [cs[j]'(by omega)] := by
      rw [List.drop_eq_getElem_cons (by omega)]
      rfl
    rw [hd, List.getElem?_eq_getElem (by rw [hyl]; exact hj6)] at h1
    exact ⟨_, _, Array.getElem?_eq_getElem (by omega), h1⟩
  obtain ⟨v0, y0, k0, r0⟩ := fld 0 f0 (by omega) rfl
  obtain ⟨v1, y1, k1, r1⟩ := fld 1 f1 (by omega) rfl
  obtain ⟨v2, y2, k2, r2⟩ := fld 2 f2 (by omega) rfl
  rw [t0] at r0
  rw [t1] at r1
  rw [t2] at r2
  obtain ⟨n, rfl, w0⟩ := trod_i64 r0
  obtain ⟨m, hm, _⟩ := DataW.trod_bool Try.underlying4 r1
  obtain ⟨z, rfl, w2⟩ := trod_i64 r2
  obtain rfl : v1 = .bool m := by simpa using hm
  refine ⟨n, z, m, ?_, w0, w2⟩
  congr 1
  apply Array.ext_getElem?
  intro j
  match j with
  | 0 => rw [k0]; rfl
  | 1 => rw [k1]; rfl
  | 2 => rw [k2]; rfl
  | j + 3 =>
    rw [Array.getElem?_eq_none (by omega), Array.getElem?_eq_none (by simp)]
end
end Go.Proofs.Ytdgihhepmmkkpaa
