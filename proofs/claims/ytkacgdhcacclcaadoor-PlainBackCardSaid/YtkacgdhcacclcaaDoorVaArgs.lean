/-
  Values among the arguments.
-/
import Derived.Test.YtkacgdhcacclcaaDoorVaWire
import Derived.Test.YtkacgdhcacclcaaDoorArgs
import Derived.Deep.Slices
import Derived.Deep.Fields
import Derived.ChangeSame
namespace Go.Proofs.YtkacgdhcacclcaaDoor
open Go.ChangeShapes Go.WideShapes Go.ChangeAt Go.Deep Go.RowKit
set_option maxRecDepth 100000
set_option linter.unusedVariables false
set_option maxRecDepth 100000
section
variable {H : Type} {enc : TypeId × Value → H} {W : World} {base : Nat}
theorem trod_bytes {fuel : Nat} {v : Value} {x : DataW H × List MemPlace} (hf : DataW.trod enc Tryd.prog W base (fun _ => true) true fuel 22 [v] = some x) :
    ∃ A n c l, v = .slice A n c ∧ Bs W W.heap.size A n l ∧ n ≤ c ∧ c ≤ maxLen := by
  rcases open_ints Tryd.underlying22 Tryd.underlying5 (by kernel_rfl) hf with ⟨hcs, _⟩ | ⟨x, l, c, zs, hcs, _, hl, hm, hz, _, hcell, hwz⟩
  · obtain rfl : v = .slice none 0 0 := by simpa using hcs
    obtain ⟨l, hb, h1, h2⟩ := bs_of_row (w := W) (a := none) (len := 0) (cap := 0) (zs := []) (.inl ⟨rfl, rfl, rfl, rfl⟩)
    exact ⟨none, 0, 0, l, rfl, hb, h1, h2⟩
  · obtain rfl : v = .slice (some x) l c := by simpa using hcs
    obtain ⟨l', hb, h1, h2⟩ := bs_of_row (w := W) (a := some x) (len := l) (cap := c) (zs := zs) (.inr ⟨_, rfl, hl, hm, by simpa using hz, hcell, hwz⟩)
    exact ⟨_, _, _, l', rfl, hb, h1, h2⟩
theorem trod_i64 {fuel : Nat} {v : Value} {x : DataW H × List MemPlace} (hf : DataW.trod enc Tryd.prog W base (fun _ => true) true fuel 3 [v] = some x) : ∃ n, v = .int .i64 n ∧ I64 n := by
  obtain ⟨n, hn, _, hw⟩ := DataW.trod_int Tryd.underlying3 hf
  exact ⟨n, by simpa using hn, wf_i64 hw⟩
theorem cellsOf_val : Tryd.prog.cellsOf 24 = 6 := by kernel_rfl
theorem args_val {r : Reach} {b0 : Nat} {v : Value} {d : DataW H} {p : List MemPlace} (hv : Value.okWide Tryd.prog W r b0 24 v) (h : DataW.Trod enc Tryd.prog W base (fun _ => true) true 24 v d p) :
    ∃ (k n : Int) (s : ByteArray) (A : Option Addr) (m c : Nat) (o i : Int) (l : List UInt8), v = .agg #[.int .i64 k, .int .i64 n, .string s, .slice A m c, .int .i64 o, .int .i64 i] ∧ I64 n ∧ I64 o ∧ I64 i ∧ Bs W W.heap.size A m l ∧ m ≤ c := by
  have hE : ∃ f0 f1 f2 f3 f4 f5 : Field, Tryd.prog.underlying 24 = some (.struct #[f0, f1, f2, f3, f4, f5]) ∧ f0.type = 3 ∧ f1.type = 2 ∧ f2.type = 9 ∧ f3.type = 22 ∧ f4.type = 3 ∧ f5.type = 3 ∧ oneCellFields Tryd.prog #[f0, f1, f2, f3, f4, f5] = true := ⟨_, _, _, _, _, _, Tryd.underlying24, rfl, rfl, rfl, rfl, rfl, rfl, by kernel_rfl⟩
  obtain ⟨f0, f1, f2, f3, f4, f5, hE, t0, t1, t2, t3, t4, t5, hone⟩ := hE
  simp only [Value.okWide, Tryd.underlying24] at hv
  obtain ⟨cs, rfl, hsz, _⟩ := hv
  rw [cellsOf_val] at hsz
  obtain ⟨fuel, hf⟩ := h
  obtain ⟨ys, n', _, _, _, hyl, hg⟩ := DataW.trod_struct hE hf
  have fld : ∀ (j : Nat) (f : Field) (hj6 : j < 6), (#[f0, f1, f2, f3, f4, f5] : Array Field)[j]? = some f → ∃ v y, cs[j]? = some v ∧ DataW.trod enc Tryd.prog W base (fun _ => true) true n' f.type [v] = some y := by
    intro j f hj6 hj
    obtain ⟨ho, hk⟩ := hone_of hone j f hj
    have h1 := hg j f hj
    rw [ho, hk] at h1
    have hl : (Value.agg cs).cells.toList.length = 6 := by show cs.toList.length = 6; simpa using hsz
    have hd : ((Value.agg cs).cells.toList.drop j).take 1 = [cs[j]'(by omega)] := by
      rw [List.drop_eq_getElem_cons (by omega)]
      rfl
    rw [hd, List.getElem?_eq_getElem (by rw [hyl]; exact hj6)] at h1
    exact ⟨_, _, Array.getElem?_eq_getElem (by omega), h1⟩
  obtain ⟨v0, y0, k0, r0⟩ := fld 0 f0 (by omega) rfl
  obtain ⟨v1, y1, k1, r1⟩ := fld 1 f1 (by omega) rfl
  obtain ⟨v2, y2, k2, r2⟩ := fld 2 f2 (by omega) rfl
  obtain ⟨v3, y3, k3, r3⟩ := fld 3 f3 (by omega) rfl
  obtain ⟨v4, y4, k4, r4⟩ := fld 4 f4 (by omega) rfl
  obtain ⟨v5, y5, k5, r5⟩ := fld 5 f5 (by omega) rfl
  rw [t0] at r0
  rw [t1] at r1
  rw [t2] at r2
  rw [t3] at r3
  rw [t4] at r4
  rw [t5] at r5
  obtain ⟨k, rfl, _⟩ := trod_i64 r0
  obtain ⟨n, hn, _, hw⟩ := DataW.trod_int Tryd.underlying2 r1
  obtain rfl : v1 = .int .i64 n := by simpa using hn
  obtain ⟨s, hs, _⟩ := DataW.trod_string Tryd.underlying9 r2
  obtain rfl : v2 = .string s := by simpa using hs
  obtain ⟨A, m, c, l, rfl, hb3, le3, mx3⟩ := trod_bytes r3
  obtain ⟨o, rfl, ho⟩ := trod_i64 r4
  obtain ⟨i, rfl, hi⟩ := trod_i64 r5
  refine ⟨k, n, s, A, m, c, o, i, l, ?_, wf_i64 hw, ho, hi, hb3, le3⟩
  congr 1
  apply Array.ext_getElem?
  intro j
  match j with
  | 0 => rw [k0]; rfl
  | 1 => rw [k1]; rfl
  | 2 => rw [k2]; rfl
  | 3 => rw [k3]; rfl
  | 4 => rw [k4]; rfl
  | 5 => rw [k5]; rfl
  | j + 6 =>
    rw [Array.getElem?_eq_none (by omega), Array.getElem?_eq_none (by simp)]
end
end Go.Proofs.YtkacgdhcacclcaaDoor
