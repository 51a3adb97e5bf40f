/-
  The document's writing of options.
-/
import Derived.Test.YtfbddldcbjhmiaaOptRSorted
import Derived.Test.YtfbddldcbjhmiaaJoin
namespace Go.Proofs.Ytfbddldcbjhmiaa
open Go.RowKit
set_option maxRecDepth 100000
set_option linter.unusedVariables false
def TellPost (m : Nat) (w : World) (e : Ending) (w' : World) : Prop :=
  ∃ v, e = .returned (.tuple #[.int .i64 ((tl m).1 : Int), v]) ∧ w'.ownsRow w.heap.size 5 1 v (tl m).2.length (U8 (tl m).2) ∧ Below w.heap.size w w'
theorem own_bs {w : World} {base n : Nat} {v : Value} {l : List UInt8} (h : w.ownsRow base 5 1 v n (U8 l)) : ∃ A c, v = .slice A n c ∧ n ≤ c ∧ Bs w w.heap.size A n l := by
  obtain ⟨A, c, e, hc, hb⟩ := Bs.of_own h
  exact ⟨A, c, e, hc, hb⟩
theorem Ps.five (w : World) (B : Nat) (t : TypeId) (A1 A2 A3 A4 A5 : Option Addr) (n1 n2 n3 n4 n5 c1 c2 c3 c4 c5 : Nat) (l1 l2 l3 l4 l5 : List UInt8) (fr : Nat × Nat) (h1 : Bs w B A1 n1 l1) (h2 : Bs w B A2 n2 l2) (h3 : Bs w B A3 n3 l3) (h4 : Bs w B A4 n4 l4) (h5 : Bs w B A5 n5 l5) (hB : B ≤ w.heap.size) :
    Ps (w.alloc (.cells #[.slice A1 n1 c1, .slice A2 n2 c2, .slice A3 n3 c3, .slice A4 n4 c4, .slice A5 n5 c5] t fr)) (w.heap.size + 1) (some ⟨w.heap.size, 0, none⟩) 5 [l1, l2, l3, l4, l5] := by
  have hal := alloc_below w (.cells #[.slice A1 n1 c1, .slice A2 n2 c2, .slice A3 n3 c3, .slice A4 n4 c4, .slice A5 n5 c5] t fr)
  have up : ∀ {A : Option Addr} {n : Nat} {l : List UInt8}, Bs w B A n l → Bs (w.alloc (.cells #[.slice A1 n1 c1, .slice A2 n2 c2, .slice A3 n3 c3, .slice A4 n4 c4, .slice A5 n5 c5] t fr)) (w.heap.size + 1) A n l := fun h => (h.below' hal hB).more (by omega)
  refine ⟨rfl, fun _ => ⟨w.heap.size, 0, rfl, by omega, fun k l hl => ?_⟩⟩
  have hcell : ∀ j : Nat, (w.alloc (.cells #[.slice A1 n1 c1, .slice A2 n2 c2, .slice A3 n3 c3, .slice A4 n4 c4, .slice A5 n5 c5] t fr)).cell? ⟨w.heap.size, j, none⟩ = (#[Value.slice A1 n1 c1, .slice A2 n2 c2, .slice A3 n3 c3, .slice A4 n4 c4, .slice A5 n5 c5])[j]? := fun j => cell_of_row _ _ _ _ _ _ (heap_alloc_new w _)
  rw [Nat.zero_add]
  match k, hl with
  | 0, hl => obtain rfl := Option.some.inj hl; exact ⟨A1, n1, c1, hcell 0, up h1⟩
  | 1, hl => obtain rfl := Option.some.inj hl; exact ⟨A2, n2, c2, hcell 1, up h2⟩
  | 2, hl => obtain rfl := Option.some.inj hl; exact ⟨A3, n3, c3, hcell 2, up h3⟩
  | 3, hl => obtain rfl := Option.some.inj hl; exact ⟨A4, n4, c4, hcell 3, up h4⟩
  | 4, hl => obtain rfl := Option.some.inj hl; exact ⟨A5, n5, c5, hcell 4, up h5⟩
  | k + 5, hl => simp at hl
theorem badNum_iff (k : Int) : badNum k = true ↔ k < 0 ∨ 65535 < k := by unfold badNum; simp
theorem any_none {α : Type} {p : α → Bool} {l : List α} : l.any p = false ↔ ∀ x ∈ l, p x = false := by
  rw [List.any_eq_false]
  exact ⟨fun h x hx => by simpa using h x hx, fun h x hx => by simp [h x hx]⟩
end Go.Proofs.Ytfbddldcbjhmiaa
