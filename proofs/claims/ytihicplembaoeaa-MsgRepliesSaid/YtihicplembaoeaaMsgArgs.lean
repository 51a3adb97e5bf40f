/-
  Messages among the arguments.
-/
import Derived.Test.YtihicplembaoeaaMsgAlive
import Derived.Test.YtihicplembaoeaaArgs
namespace Go.Proofs.Ytihicplembaoeaa
open Go.ChangeShapes Go.WideShapes Go.ChangeAt Go.Deep Go.RowKit
set_option maxRecDepth 100000
set_option linter.unusedVariables false
section
variable {H : Type} {enc : TypeId × Value → H} {W : World} {base : Nat}
theorem cellsOf_msg : Try.prog.cellsOf 51 = 6 := by kernel_rfl
theorem args_msg {r : Reach} {b0 : Nat} {v : Value} {d : DataW H} {p : List MemPlace} (hv : Value.okWide Try.prog W r b0 51 v) (h : DataW.Trod enc Try.prog W base (fun _ => true) true 51 v d p) :
    ∃ (kd cd id : Int) (tA : Option Addr) (tn tc : Nat) (oA : Option Addr) (on oc : Nat) (bA : Option Addr) (bn bc : Nat) (vs : List Sv) (tok : List UInt8) (ps : List (Int × List UInt8)) (body : List UInt8),
      v = .agg #[.int .i64 kd, .int .i64 cd, .int .i64 id, .slice tA tn tc, .slice oA on oc, .slice bA bn bc] ∧ Ms W W.heap.size tA tn oA on vs bA bn tok ps body ∧ (tn ≤ maxLen ∧ on ≤ maxLen ∧ bn ≤ maxLen ∧ tn ≤ tc ∧ on ≤ oc ∧ bn ≤ bc) := by
  have hE : ∃ f0 f1 f2 f3 f4 f5 : Field, Try.prog.underlying 51 = some (.struct #[f0, f1, f2, f3, f4, f5]) ∧ f0.type = 3 ∧ f1.type = 3 ∧ f2.type = 3 ∧ f3.type = 25 ∧ f4.type = 22 ∧ f5.type = 25 ∧ oneCellFields Try.prog #[f0, f1, f2, f3, f4, f5] = true := ⟨_, _, _, _, _, _, Try.underlying51, rfl, rfl, rfl, rfl, rfl, rfl, by kernel_rfl⟩
  obtain ⟨f0, f1, f2, f3, f4, f5, hE, t0, t1, t2, t3, t4, t5, hone⟩ := hE
  simp only [Value.okWide, Try.underlying51] at hv
  obtain ⟨cs, rfl, hsz, _⟩ := hv
  rw [cellsOf_msg] at hsz
  obtain ⟨fuel, hf⟩ := h
  obtain ⟨ys, n', _, _, _, hyl, hg⟩ := DataW.trod_struct hE hf
  have fld : ∀ (j : Nat) (f : Field) (hj6 : j < 6), (#[f0, f1, f2, f3, f4, f5] : Array Field)[j]? = some f → ∃ v y, cs[j]? = some v ∧ DataW.trod enc Try.prog W base (fun _ => true) true n' f.type [v] = some y := by
    intro j f hj6 hj
    obtain ⟨ho, hk⟩ := hone_of hone j f hj
    have h1 := hg j f hj
    rw [ho, hk] at h1
    have hl : (Value.agg cs).cells.toList.length = 6 := by show cs.toList.length = 6; simpa using hsz
    have hd : ((Value.agg cs).cells.toList.drop j).take 1 = [cs[j]'(by omega)] := by
      rw [List.drop_eq_getElem_cons (by omega)]
      rfl
    rw [hd, List.getElem?_eq_getElem (by rw [hyl]; exact hj6)] at h1
    exact ⟨_, _, Array.getElem?_eq_getElem (by omega), h1⟩
  obtain ⟨v0, y0, k0, r0⟩ := fld 0 f0 (by omega) rfl
  obtain ⟨v1, y1, k1, r1⟩ := fld 1 f1 (by omega) rfl
  obtain ⟨v2, y2, k2, r2⟩ := fld 2 f2 (by omega) rfl
  obtain ⟨v3, y3, k3, r3⟩ := fld 3 f3 (by omega) rfl
  obtain ⟨v4, y4, k4, r4⟩ := fld 4 f4 (by omega) rfl
  obtain ⟨v5, y5, k5, r5⟩ := fld 5 f5 (by omega) rfl
  rw [t0] at r0
  rw [t1] at r1
  rw [t2] at r2
  rw [t3] at r3
  rw [t4] at r4
  rw [t5] at r5
  obtain ⟨kd, rfl, _⟩ := trod_i64 r0
  obtain ⟨cd, rfl, _⟩ := trod_i64 r1
  obtain ⟨id, rfl, _⟩ := trod_i64 r2
  obtain ⟨tA, tn, tc, tok, rfl, hb3, le3, mx3⟩ := trod_bytes r3
  obtain ⟨oA, on, oc, vs, ps, rfl, ho, le4, mx4⟩ := trod_opts r4
  obtain ⟨bA, bn, bc, body, rfl, hb5, le5, mx5⟩ := trod_bytes r5
  refine ⟨kd, cd, id, tA, tn, tc, oA, on, oc, bA, bn, bc, vs, tok, ps, body, ?_, ⟨hb3, ho, hb5⟩, by omega, by omega, by omega, le3, le4, le5⟩
  congr 1
  apply Array.ext_getElem?
  intro j
  match j with
  | 0 => rw [k0]; rfl
  | 1 => rw [k1]; rfl
  | 2 => rw [k2]; rfl
  | 3 => rw [k3]; rfl
  | 4 => rw [k4]; rfl
  | 5 => rw [k5]; rfl
  | j + 6 =>
    rw [Array.getElem?_eq_none (by omega), Array.getElem?_eq_none (by simp)]
end
end Go.Proofs.Ytihicplembaoeaa
