/-
  The document's adding and sorting of options.
-/
import Derived.Test.YtdgihhepmmkkpaaOptAll
import Derived.Test.YtdgihhepmmkkpaaOptPairs
import Derived.Test.YtdgihhepmmkkpaaOptRef
namespace Go.Proofs.Ytdgihhepmmkkpaa
open Go.RowKit
set_option maxRecDepth 100000
set_option linter.unusedVariables false
def fewB (ps : List (Int × List UInt8)) : Bool := decide (ps.length ≤ 40) && ps.all fun x => decide (x.2.length ≤ 400)
theorem fewB_iff (ps : List (Int × List UInt8)) : fewB ps = true ↔ ps.length ≤ 40 ∧ ∀ x ∈ ps, x.2.length ≤ 400 := by
  unfold fewB
  rw [Bool.and_eq_true, decide_eq_true_iff, List.all_eq_true]
  constructor
  · rintro ⟨a, b⟩; exact ⟨a, fun x hx => of_decide_eq_true (b x hx)⟩
  · rintro ⟨a, b⟩; exact ⟨a, fun x hx => decide_eq_true (b x hx)⟩
/-- A row of options under way. -/
def Ost (w wr : World) (v : Value) (us : List Sv) (acc : List (Int × List UInt8)) : Prop :=
  wr.ownsRow w.heap.size 70 2 v acc.length (svs us) ∧ Mx wr w.heap.size us acc ∧ Below w.heap.size w wr
theorem Ost.push {w wr w5 w6 : World} {v v6 : Value} {us : List Sv} {acc : List (Int × List UInt8)} {s : Sv} {x : Int × List UInt8} {o : Obj} (h : Ost w wr v us acc) (hb : Below wr.heap.size wr w5)
    (ho : w6.ownsRow w.heap.size 70 2 v6 (acc.length + 1) (svs (us ++ [s]))) (hg : (w5.alloc o).grownBy w6 v.ownBlock) (hk : s.k = x.1) (hi : InS (w5.alloc o) w.heap.size s x.2) : Ost w w6 v6 (us ++ [s]) (acc ++ [x]) := by
  obtain ⟨hrow, hmx, hbr⟩ := h
  have hsz := hbr.size
  have ha : Below wr.heap.size wr (w5.alloc o) := hb.alloc hb.size o
  refine ⟨by rw [List.length_append]; exact ho, ?_, (hbr.trans (ha.mono hsz)).grown hg (by have := ha.size; omega) (own_ge hrow)⟩
  exact ((hmx.below ha hsz).push hk hi).grown (row_below hrow ha) hg (by have := ha.size; omega)
theorem addO_none {num : Int} {l : List UInt8} : ∀ {P : List (Int × List UInt8)}, (∀ x ∈ P, ¬ num < x.1) → addO num l P = P ++ [(num, l)]
  | [], _ => rfl
  | x :: r, h => by
    rw [addO, if_neg (h x List.mem_cons_self), addO_none (fun y hy => h y (List.mem_cons_of_mem _ hy))]; rfl
theorem addO_snoc {num : Int} {l : List UInt8} {y : Int × List UInt8} : ∀ {P : List (Int × List UInt8)}, (∃ x ∈ P, num < x.1) → addO num l (P ++ [y]) = addO num l P ++ [y]
  | [], h => by obtain ⟨x, hx, _⟩ := h; cases hx
  | x :: r, h => by
    rw [List.cons_append, addO, addO]
    by_cases hx : num < x.1
    · rw [if_pos hx, if_pos hx]; rfl
    · rw [if_neg hx, if_neg hx, addO_snoc]
      · rfl
      · obtain ⟨z, hz, hlt⟩ := h
        rcases List.mem_cons.1 hz with rfl | hz
        · exact absurd hlt hx
        · exact ⟨z, hz, hlt⟩
theorem addO_here {num : Int} {l : List UInt8} {y : Int × List UInt8} (hy : num < y.1) : ∀ {P : List (Int × List UInt8)}, (∀ x ∈ P, ¬ num < x.1) → addO num l (P ++ [y]) = P ++ [(num, l)] ++ [y]
  | [], _ => by rw [List.nil_append, addO, if_pos hy]; rfl
  | x :: r, h => by
    rw [List.cons_append, addO, if_neg (h x List.mem_cons_self), addO_here hy (fun z hz => h z (List.mem_cons_of_mem _ hz))]; rfl
def addAcc (num : Int) (l : List UInt8) (dn : Bool) (P : List (Int × List UInt8)) : List (Int × List UInt8) := if dn = true then addO num l P else P
def AddOk (num : Int) (dn : Bool) (P : List (Int × List UInt8)) : Prop := (dn = false → ∀ x ∈ P, ¬ num < x.1) ∧ (dn = true → ∃ x ∈ P, num < x.1)
theorem addAcc_len (num : Int) (l : List UInt8) (dn : Bool) (P : List (Int × List UInt8)) : (addAcc num l dn P).length ≤ P.length + 1 := by
  unfold addAcc
  split
  · rw [addO_len]; omega
  · omega
end Go.Proofs.Ytdgihhepmmkkpaa
