/-
  Conditions, and rows of numbers, among the arguments.
-/
import Derived.Test.YtmaeofhgbelciaaWaAlive2
import Derived.Test.YtmaeofhgbelciaaArgs
import Derived.Deep.Slices
import Derived.Deep.Fields
import Derived.ChangeSame
namespace Go.Proofs.Ytmaeofhgbelciaa
open Go.ChangeShapes Go.WideShapes Go.ChangeAt Go.Deep Go.RowKit
set_option linter.unusedVariables false
set_option maxRecDepth 100000
/-- A row of times as they lie, all below block B. -/
structure Ts (w : World) (B : Nat) (A : Option Addr) (n : Nat) (ts : List Int) : Prop where
  len : ts.length = n
  place : 0 < n → ∃ b off, A = some ⟨b, off, none⟩ ∧ b < B ∧ ∀ (i : Nat) (t : Int), ts[i]? = some t → w.cell? ⟨b, off + i, none⟩ = some (.int .i64 t)
  each : ∀ t ∈ ts, In64 t
section
variable {H : Type} {enc : TypeId × Value → H} {W : World} {base : Nat}
theorem args_ints64 {a : Option Addr} {len cap : Nat} {d : DataW H} {p : List MemPlace} (h : DataW.Trod enc Try.prog W base (fun _ => true) true 26 (.slice a len cap) d p) :
    ∃ ts, Ts W W.heap.size a len ts ∧ len ≤ cap ∧ cap ≤ maxLen := by
  obtain ⟨fuel, hf⟩ := h
  rcases open_ints Try.underlying26 Try.underlying2 (by kernel_rfl) hf with ⟨hcs, _⟩ | ⟨x, l, c, zs, hcs, _, hl, hm, hz, _, hcell, hwz⟩
  · simp [Value.cells] at hcs
    obtain ⟨rfl, rfl, rfl⟩ := hcs
    exact ⟨[], ⟨rfl, fun h => absurd h (by omega), fun t ht => by cases ht⟩, by omega, by omega⟩
  · simp [Value.cells] at hcs
    obtain ⟨rfl, rfl, rfl⟩ := hcs
    have hz' : zs.length = cap := by simpa using hz
    refine ⟨zs.take len, ⟨by rw [List.length_take]; omega, fun hn => ?_, fun t ht => wf_i64 (hwz t (List.mem_of_mem_take ht))⟩, hl, hm⟩
    obtain ⟨b, off, spot⟩ := x
    have hc := hcell 0 (by omega)
    have hspot : spot = none := by simpa [Addr.add] using World.cell?_spot hc
    subst hspot
    refine ⟨b, off, rfl, World.block_lt_of_cell? _ ⟨b, off, none⟩ (by simpa [Addr.add] using hc), fun k u hu => ?_⟩
    rw [List.getElem?_take] at hu
    split at hu
    · have hk := (List.getElem?_eq_some_iff.1 hu).1
      have h1 := hcell k hk
      rw [Addr.add_lit] at h1
      rw [h1, List.getD_eq_getElem?_getD, hu, Option.getD_some]
    · cases hu

theorem trod_boolv {fuel : Nat} {v : Value} {x : DataW H × List MemPlace} (hf : DataW.trod enc Try.prog W base (fun _ => true) true fuel 4 [v] = some x) : ∃ b, v = .bool b := by
  obtain ⟨b, hb, _⟩ := DataW.trod_bool Try.underlying4 hf
  exact ⟨b, by simpa using hb⟩
theorem cellsOf_cond : Try.prog.cellsOf 25 = 10 := by kernel_rfl
theorem args_cond {r : Reach} {b0 : Nat} {v : Value} {d : DataW H} {p : List MemPlace} (hv : Value.okWide Try.prog W r b0 25 v) (h : DataW.Trod enc Try.prog W base (fun _ => true) true 25 v d p) :
    ∃ c : Cq, v = .agg c.vals.toArray ∧ In64 c.a ∧ In64 c.b ∧ In64 c.g ∧ In64 c.l ∧ In64 c.s := by
  have hE : ∃ f0 f1 f2 f3 f4 f5 f6 f7 f8 f9 : Field, Try.prog.underlying 25 = some (.struct #[f0, f1, f2, f3, f4, f5, f6, f7, f8, f9]) ∧ f0.type = 2 ∧ f1.type = 2 ∧ f2.type = 4 ∧ f3.type = 4 ∧ f4.type = 2 ∧ f5.type = 2 ∧ f6.type = 2 ∧ f7.type = 4 ∧ f8.type = 4 ∧ f9.type = 4 ∧ oneCellFields Try.prog #[f0, f1, f2, f3, f4, f5, f6, f7, f8, f9] = true := ⟨_, _, _, _, _, _, _, _, _, _, Try.underlying25, rfl, rfl, rfl, rfl, rfl, rfl, rfl, rfl, rfl, rfl, by kernel_rfl⟩
  obtain ⟨f0, f1, f2, f3, f4, f5, f6, f7, f8, f9, hE, t0, t1, t2, t3, t4, t5, t6, t7, t8, t9, hone⟩ := hE
  simp only [Value.okWide, Try.underlying25] at hv
  obtain ⟨cs, rfl, hsz, _⟩ := hv
  rw [cellsOf_cond] at hsz
  obtain ⟨fuel, hf⟩ := h
  obtain ⟨ys, n', _, _, _, hyl, hg⟩ := DataW.trod_struct hE hf
  have fld : ∀ (j : Nat) (f : Field) (hj6 : j < 10), (#[f0, f1, f2, f3, f4, f5, f6, f7, f8, f9] : Array Field)[j]? = some f → ∃ v y, cs[j]? = some v ∧ DataW.trod enc Try.prog W base (fun _ => true) true n' f.type [v] = some y := by
    intro j f hj6 hj
    obtain ⟨ho, hk⟩ := hone_of hone j f hj
    have h1 := hg j f hj
    rw [ho, hk] at h1
    have hl : (Value.agg cs).cells.toList.length = 10 := by show cs.toList.length = 10; simpa using hsz
    have hd : ((Value.agg cs).cells.toList.drop j).take 1 = [cs[j]'(by omega)] := by
      rw [List.drop_eq_getElem_cons (by omega)]
      rfl
    rw [hd, List.getElem?_eq_getElem (by rw [hyl]; exact hj6)] at h1
    exact ⟨_, _, Array.getElem?_eq_getElem (by omega), h1⟩
  obtain ⟨v0, y0, k0, r0⟩ := fld 0 f0 (by omega) rfl
  obtain ⟨v1, y1, k1, r1⟩ := fld 1 f1 (by omega) rfl
  obtain ⟨v2, y2, k2, r2⟩ := fld 2 f2 (by omega) rfl
  obtain ⟨v3, y3, k3, r3⟩ := fld 3 f3 (by omega) rfl
  obtain ⟨v4, y4, k4, r4⟩ := fld 4 f4 (by omega) rfl
  obtain ⟨v5, y5, k5, r5⟩ := fld 5 f5 (by omega) rfl
  obtain ⟨v6, y6, k6, r6⟩ := fld 6 f6 (by omega) rfl
  obtain ⟨v7, y7, k7, r7⟩ := fld 7 f7 (by omega) rfl
  obtain ⟨v8, y8, k8, r8⟩ := fld 8 f8 (by omega) rfl
  obtain ⟨v9, y9, k9, r9⟩ := fld 9 f9 (by omega) rfl
  rw [t0] at r0
  rw [t1] at r1
  rw [t2] at r2
  rw [t3] at r3
  rw [t4] at r4
  rw [t5] at r5
  rw [t6] at r6
  rw [t7] at r7
  rw [t8] at r8
  rw [t9] at r9
  obtain ⟨a, hn0, _, hw0⟩ := DataW.trod_int Try.underlying2 r0
  obtain rfl : v0 = .int .i64 a := by simpa using hn0
  obtain ⟨b, hn1, _, hw1⟩ := DataW.trod_int Try.underlying2 r1
  obtain rfl : v1 = .int .i64 b := by simpa using hn1
  obtain ⟨ha, rfl⟩ := trod_boolv r2
  obtain ⟨hb, rfl⟩ := trod_boolv r3
  obtain ⟨g, hn4, _, hw4⟩ := DataW.trod_int Try.underlying2 r4
  obtain rfl : v4 = .int .i64 g := by simpa using hn4
  obtain ⟨l, hn5, _, hw5⟩ := DataW.trod_int Try.underlying2 r5
  obtain rfl : v5 = .int .i64 l := by simpa using hn5
  obtain ⟨s, hn6, _, hw6⟩ := DataW.trod_int Try.underlying2 r6
  obtain rfl : v6 = .int .i64 s := by simpa using hn6
  obtain ⟨hg, rfl⟩ := trod_boolv r7
  obtain ⟨hl, rfl⟩ := trod_boolv r8
  obtain ⟨hs, rfl⟩ := trod_boolv r9
  refine ⟨⟨a, b, ha, hb, g, l, s, hg, hl, hs⟩, ?_, wf_i64 hw0, wf_i64 hw1, wf_i64 hw4, wf_i64 hw5, wf_i64 hw6⟩
  congr 1
  apply Array.ext_getElem?
  intro j
  match j with
  | 0 => rw [k0]; rfl
  | 1 => rw [k1]; rfl
  | 2 => rw [k2]; rfl
  | 3 => rw [k3]; rfl
  | 4 => rw [k4]; rfl
  | 5 => rw [k5]; rfl
  | 6 => rw [k6]; rfl
  | 7 => rw [k7]; rfl
  | 8 => rw [k8]; rfl
  | 9 => rw [k9]; rfl
  | j + 10 =>
    rw [Array.getElem?_eq_none (by omega), Array.getElem?_eq_none (by simp [Cq.vals])]
end
end Go.Proofs.Ytmaeofhgbelciaa
