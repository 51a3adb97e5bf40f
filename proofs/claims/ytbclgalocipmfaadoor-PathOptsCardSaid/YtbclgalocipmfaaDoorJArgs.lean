/-
  Slices of slices of bytes; arguments opened: of that kind.
-/
import Derived.Test.YtbclgalocipmfaaDoorArgs
import Derived.Test.YtbclgalocipmfaaDoorMem
import Derived.Deep.Slices
import Derived.Test.YtbclgalocipmfaaDoorOps
namespace Go.Proofs.YtbclgalocipmfaaDoor
open Go.ChangeShapes Go.WideShapes Go.ChangeAt Go.RowKit Go.Deep
set_option maxRecDepth 100000
set_option linter.unusedVariables false
/-- A slice of slices of bytes, all of it below block B. -/
structure Pc (w : World) (B : Nat) (A : Option Addr) (n : Nat) (ls : List (List UInt8)) : Prop where
  len : ls.length = n
  place : 0 < n → ∃ b off, A = some ⟨b, off, none⟩ ∧ b < B ∧ ∀ k l, ls[k]? = some l → ∃ A' n' c', w.cell? ⟨b, off + k, none⟩ = some (.slice A' n' c') ∧ n' ≤ c' ∧ Bs w B A' n' l
theorem Pc.keep {w w' : World} {B n : Nat} {A : Option Addr} {ls : List (List UInt8)} (h : Pc w B A n ls) (hk : ∀ p : Addr, p.block < B → w'.cell? p = w.cell? p) : Pc w' B A n ls :=
  ⟨h.len, fun hn => by
    obtain ⟨b, off, e, hb, hc⟩ := h.place hn
    refine ⟨b, off, e, hb, fun k l hl => ?_⟩
    obtain ⟨A', n', c', h1, hcap, h2⟩ := hc k l hl
    exact ⟨A', n', c', (hk _ hb).trans h1, hcap, h2.keep hk⟩⟩
theorem Pc.below' {w w' : World} {B B' n : Nat} {A : Option Addr} {ls : List (List UInt8)} (h : Pc w B A n ls) (hb : Below B' w w') (hB : B ≤ B') : Pc w' B A n ls := h.keep fun _ hp => hb.cell (by omega)
theorem Pc.none (w : World) (B : Nat) (A : Option Addr) : Pc w B A 0 [] := ⟨rfl, fun h => absurd h (by omega)⟩
section
variable {H : Type} {enc : TypeId × Value → H} {W : World} {base : Nat}
theorem args_parts {a : Option Addr} {len cap : Nat} {d : DataW H} {p : List MemPlace} (h : DataW.Trod enc Tryd.prog W base (fun _ => true) true 102 (.slice a len cap) d p) :
    ∃ ls, Pc W W.heap.size a len ls ∧ len ≤ cap ∧ cap ≤ maxLen := by
  obtain ⟨fuel, hf⟩ := h
  rcases open_slice Tryd.underlying102 hf with ⟨hcs, _⟩ | ⟨x, l, c, m, n, D, Pl, hcs, _, hl, hm, hmm, _, hi⟩
  · simp [Value.cells] at hcs
    obtain ⟨rfl, rfl, rfl⟩ := hcs
    exact ⟨[], Pc.none _ _ _, by omega, by omega⟩
  · simp [Value.cells] at hcs
    obtain ⟨rfl, rfl, rfl⟩ := hcs
    have hsz : Tryd.prog.cellsOf 24 = 1 := by kernel_rfl
    rw [hsz] at hi
    have each : ∀ i : Fin len, ∃ l : List UInt8, ∃ b o A' n' c', x.add (i.val * 1) = ⟨b, o, none⟩ ∧ W.cell? ⟨b, o, none⟩ = some (.slice A' n' c') ∧ n' ≤ c' ∧ Bs W W.heap.size A' n' l := by
      intro i
      have hlt := i.isLt
      obtain ⟨cs', hc, ht⟩ := hi i.val (by rw [hmm]; simp; omega)
      obtain ⟨_, hcl, hat⟩ := World.cells?_some hc
      match cs', hcl with
      | [v0], _ =>
        obtain ⟨A3, n3, c3, l3, rfl, b3, le3, _⟩ := trod_bytes ht
        have k0 := hat 0 (by omega)
        generalize x.add (i.val * 1) = q at *
        obtain ⟨b, o, sp⟩ := q
        have hsp : sp = none := by simpa [Addr.add] using World.cell?_spot k0
        subst hsp
        rw [Addr.add_lit, Nat.add_zero] at k0
        exact ⟨l3, b, o, A3, n3, c3, rfl, k0, le3, b3⟩
    obtain ⟨F, hF⟩ := Classical.axiomOfChoice each
    refine ⟨List.ofFn F, ⟨List.length_ofFn, fun hm0 => ?_⟩, hl, hm⟩
    obtain ⟨b, o, sp⟩ := x
    obtain ⟨b0, o0, A0, n0, c0, h0, k0, _⟩ := hF ⟨0, hm0⟩
    have hsp : sp = none := by
      have := congrArg Addr.spot h0
      simpa [Addr.add] using this
    subst hsp
    have hb0 : b < W.heap.size := by
      have e : b = b0 := by have := congrArg Addr.block h0; simpa [Addr.add] using this
      rw [e]
      exact World.block_lt_of_cell? _ ⟨b0, o0, none⟩ k0
    refine ⟨b, o, rfl, hb0, fun i s hs => ?_⟩
    rw [List.getElem?_ofFn] at hs
    split at hs
    · rename_i hi'
      injection hs with hs
      subst hs
      obtain ⟨b1, o1, A1, n1, c1, h1, k1, k2, k3⟩ := hF ⟨i, hi'⟩
      rw [Addr.add_lit] at h1
      injection h1 with e1 e2 _
      refine ⟨A1, n1, c1, ?_, k2, k3⟩
      rw [e1, show o + i = o1 by rw [← e2]; simp]
      exact k1
    · cases hs
end
end Go.Proofs.YtbclgalocipmfaaDoor
