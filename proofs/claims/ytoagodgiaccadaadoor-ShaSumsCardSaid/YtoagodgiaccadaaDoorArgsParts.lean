/-
  Arguments opened: slices of slices of bytes.
-/
import Derived.Test.YtoagodgiaccadaaDoorArgs
import Derived.Test.YtoagodgiaccadaaDoorShaParts
import Derived.Deep.Slices
namespace Go.Proofs.YtoagodgiaccadaaDoor
open Go.ChangeShapes Go.WideShapes Go.ChangeAt Go.RowKit Go.Deep
section
variable {H : Type} {enc : TypeId × Value → H} {W : World} {base : Nat}
theorem trod_bytes {fuel : Nat} {v : Value} {x : DataW H × List MemPlace} (hf : DataW.trod enc Tryd.prog W base (fun _ => true) true fuel 27 [v] = some x) :
    ∃ A n c l, v = .slice A n c ∧ Bs W W.heap.size A n l ∧ n ≤ c ∧ c ≤ maxLen := by
  rcases open_ints Tryd.underlying27 Tryd.underlying5 (by kernel_rfl) hf with ⟨hcs, _⟩ | ⟨x, l, c, zs, hcs, _, hl, hm, hz, _, hcell, hwz⟩
  · obtain rfl : v = .slice none 0 0 := by simpa using hcs
    obtain ⟨l, hb, h1, h2⟩ := bs_of_row (w := W) (a := none) (len := 0) (cap := 0) (zs := []) (.inl ⟨rfl, rfl, rfl, rfl⟩)
    exact ⟨none, 0, 0, l, rfl, hb, h1, h2⟩
  · obtain rfl : v = .slice (some x) l c := by simpa using hcs
    obtain ⟨l', hb, h1, h2⟩ := bs_of_row (w := W) (a := some x) (len := l) (cap := c) (zs := zs) (.inr ⟨_, rfl, hl, hm, by simpa using hz, hcell, hwz⟩)
    exact ⟨_, _, _, l', rfl, hb, h1, h2⟩
theorem args_parts {a : Option Addr} {len cap : Nat} {d : DataW H} {p : List MemPlace} (h : DataW.Trod enc Tryd.prog W base (fun _ => true) true 22 (.slice a len cap) d p) :
    ∃ ls, Pc W W.heap.size a len ls ∧ len ≤ cap ∧ cap ≤ maxLen := by
  obtain ⟨fuel, hf⟩ := h
  rcases open_slice Tryd.underlying22 hf with ⟨hcs, _⟩ | ⟨x, l, c, m, n, D, Pl, hcs, _, hl, hm, hmm, _, hi⟩
  · simp [Value.cells] at hcs
    obtain ⟨rfl, rfl, rfl⟩ := hcs
    exact ⟨[], Pc.none _ _ _, by omega, by omega⟩
  · simp [Value.cells] at hcs
    obtain ⟨rfl, rfl, rfl⟩ := hcs
    have hsz : Tryd.prog.cellsOf 27 = 1 := by kernel_rfl
    rw [hsz] at hi
    have each : ∀ i : Fin len, ∃ l : List UInt8, ∃ b o A' n' c', x.add (i.val * 1) = ⟨b, o, none⟩ ∧ W.cell? ⟨b, o, none⟩ = some (.slice A' n' c') ∧ n' ≤ c' ∧ Bs W W.heap.size A' n' l := by
      intro i
      have hlt := i.isLt
      obtain ⟨cs', hc, ht⟩ := hi i.val (by rw [hmm]; simp; omega)
      obtain ⟨_, hcl, hat⟩ := World.cells?_some hc
      match cs', hcl with
      | [v0], _ =>
        obtain ⟨A3, n3, c3, l3, rfl, b3, le3, _⟩ := trod_bytes ht
        have k0 := hat 0 (by omega)
        generalize x.add (i.val * 1) = q at *
        obtain ⟨b, o, sp⟩ := q
        have hsp : sp = none := by simpa [Addr.add] using World.cell?_spot k0
        subst hsp
        rw [Addr.add_lit, Nat.add_zero] at k0
        exact ⟨l3, b, o, A3, n3, c3, rfl, k0, le3, b3⟩
    obtain ⟨F, hF⟩ := Classical.axiomOfChoice each
    refine ⟨List.ofFn F, ⟨List.length_ofFn, fun hm0 => ?_⟩, hl, hm⟩
    obtain ⟨b, o, sp⟩ := x
    obtain ⟨b0, o0, A0, n0, c0, h0, k0, _⟩ := hF ⟨0, hm0⟩
    have hsp : sp = none := by
      have := congrArg Addr.spot h0
      simpa [Addr.add] using this
    subst hsp
    have hb0 : b < W.heap.size := by
      have e : b = b0 := by have := congrArg Addr.block h0; simpa [Addr.add] using this
      rw [e]
      exact World.block_lt_of_cell? _ ⟨b0, o0, none⟩ k0
    refine ⟨b, o, rfl, hb0, fun i s hs => ?_⟩
    rw [List.getElem?_ofFn] at hs
    split at hs
    · rename_i hi'
      injection hs with hs
      subst hs
      obtain ⟨b1, o1, A1, n1, c1, h1, k1, k2, k3⟩ := hF ⟨i, hi'⟩
      rw [Addr.add_lit] at h1
      injection h1 with e1 e2 _
      refine ⟨A1, n1, c1, ?_, k2, k3⟩
      rw [e1, show o + i = o1 by rw [← e2]; simp]
      exact k1
    · cases hs
end
end Go.Proofs.YtoagodgiaccadaaDoor
