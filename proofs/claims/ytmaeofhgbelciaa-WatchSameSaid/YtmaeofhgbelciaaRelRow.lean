/-
  Drawn regions that load a row, make it anew and store it: their condition. No program is named here.
-/
import Derived.Test.YtmaeofhgbelciaaFx
namespace Go.Proofs.Ytmaeofhgbelciaa
open Go.RowKit
set_option maxRecDepth 100000
set_option linter.unusedVariables false
/-- A region that loads a row (operation il), makes it anew (ir) and stores it (is) into a cell of block tb, beside what makes memory. -/
structure WS (w3 : World) (tb : Nat) (e : TypeId) (mk : Value → Array Value) (row : Option Nat) (P : World → Value → Prop) (il ir is : Nat) (L : Nat → Bool) (g : Option Value) (w : World) : Prop where
  need : L ir = true → L il = true
  fr : Fx tb row w3 w
  early : L ir = false → g = none ∧ Below w3.heap.size w3 w
  made : ∀ x, g = some x → P w x
  cell0 : L is = false → w.heap[tb]? = w3.heap[tb]?
  cell1 : L is = true → ∃ x, g = some x ∧ w.heap[tb]? = some (.cells (mk x) e)
def WT (tb : Nat) (row : Option Nat) (g : Option Value) (w : World) (g' : Option Value) (w' : World) : Prop := Fx tb row w w' ∧ ∀ x, g = some x → g' = some x ∧ Fx tb none w w'
section
variable {w3 w w' : World} {tb : Nat} {e : TypeId} {mk : Value → Array Value} {row : Option Nat} {P : World → Value → Prop} {il ir is : Nat} {L : Nat → Bool} {g : Option Value}
theorem WT.refl (g : Option Value) (w : World) : WT tb row g w g w := ⟨Fx.refl _ _ _, fun x h => ⟨h, Fx.refl _ _ _⟩⟩
theorem WT.below (h : Below w.heap.size w w') : WT tb row g w g w' := ⟨Fx.below h, fun x hx => ⟨hx, Fx.below h⟩⟩
theorem WS.quiet (h : WS w3 tb e mk row P il ir is L g w) (i : Nat) (h1 : ir ≠ i) (h2 : is ≠ i) : WS w3 tb e mk row P il ir is (updG L i) g w :=
  ⟨fun e => by rw [updG_ne h1] at e; unfold updG; split; rfl; exact h.need e, h.fr, by rw [updG_ne h1]; exact h.early, h.made, by rw [updG_ne h2]; exact h.cell0, by rw [updG_ne h2]; exact h.cell1⟩
theorem WS.call (hP : ∀ w w' x, Fx tb none w w' → P w x → P w' x) (htb : tb < w3.heap.size) (h : WS w3 tb e mk row P il ir is L g w) (i : Nat) (h1 : ir ≠ i) (h2 : is ≠ i) (hb : Below w.heap.size w w') : WS w3 tb e mk row P il ir is (updG L i) g w' := by
  have hcw := hb.block tb (Nat.lt_of_lt_of_le htb h.fr.size)
  refine ⟨fun e => by rw [updG_ne h1] at e; unfold updG; split; rfl; exact h.need e, h.fr.trans (Fx.below hb), ?_, fun x hx => hP _ _ x (Fx.below hb) (h.made x hx), ?_, ?_⟩
  · rw [updG_ne h1]; exact fun hl => ⟨(h.early hl).1, (h.early hl).2.trans (hb.mono h.fr.size)⟩
  · rw [updG_ne h2]; exact fun hl => hcw.trans (h.cell0 hl)
  · rw [updG_ne h2]
    intro hl
    obtain ⟨x, h1, h2⟩ := h.cell1 hl
    exact ⟨x, h1, hcw.trans h2⟩
theorem WS.row_ (htb : tb < w3.heap.size) (hrow : row ≠ some tb) (h : WS w3 tb e mk row P il ir is L g w) (hl : L ir = false) (hd : L il = true) (hne : is ≠ ir) {x : Value} (hb : w.grownBy w' row) (hP : P w' x) : WS w3 tb e mk row P il ir is (updG L ir) (some x) w' ∧ WT tb row g w (some x) w' := by
  have hg := (h.early hl).1
  have hs : L is = false := by
    cases hs : L is with
    | false => rfl
    | true =>
      obtain ⟨y, h1, _⟩ := h.cell1 hs
      rw [hg] at h1; cases h1
  refine ⟨⟨(fun _ => by unfold updG; split; rfl; exact hd), h.fr.trans (Fx.grown hb), (by rw [updG_eq]; intro e; cases e), (fun y hy => by obtain rfl := Option.some.inj hy; exact hP), ?_, ?_⟩, Fx.grown hb, (fun y hy => by rw [hg] at hy; cases hy)⟩
  · rw [updG_ne hne]
    exact fun _ => (hb.block tb (Nat.lt_of_lt_of_le htb h.fr.size) (fun e => hrow e.symm)).trans (h.cell0 hs)
  · rw [updG_ne hne, hs]; intro e; cases e
theorem WS.old (h : WS w3 tb e mk row P il ir is L g w) (hl : L il = false) : Below w3.heap.size w3 w := by
  refine (h.early ?_).2
  cases e : L ir with
  | false => rfl
  | true => rw [h.need e] at hl; cases hl
theorem WS.store (hP : ∀ w w' x, Fx tb none w w' → P w x → P w' x) {k : Nat} {cs : Array Value} (h3 : w3.heap[tb]? = some (.cells cs e)) (hmk : ∀ x, cs.setIfInBounds k x = mk x) (h : WS w3 tb e mk row P il ir is L g w) (hl : L is = false) (hd : L ir = true) (hne : ir ≠ is) {x : Value} (hg : g = some x) : WS w3 tb e mk row P il ir is (updG L is) g (w.setCell ⟨tb, k, none⟩ x) ∧ WT tb row g w g (w.setCell ⟨tb, k, none⟩ x) := by
  have hf : Fx tb none w (w.setCell ⟨tb, k, none⟩ x) := Fx.store w k x
  refine ⟨⟨(fun _ => by unfold updG; split; rfl; exact h.need hd), h.fr.trans hf.wide, (by rw [updG_ne hne, hd]; intro e; cases e), (fun y hy => hP _ _ y hf (h.made y hy)), (by rw [updG_eq]; intro e; cases e), (fun _ => ⟨x, hg, ?_⟩)⟩, hf.wide, (fun y hy => ⟨hy, hf⟩)⟩
  rw [← hmk x]
  exact heap_setCell_same w tb k cs e x ((h.cell0 hl).trans h3)
theorem WS.first (w3 : World) : WS w3 tb e mk row P il ir is (fun _ => false) none w3.drew :=
  ⟨(fun e => by cases e), Fx.below (Below.drew (Below.refl _ _)), (fun _ => ⟨rfl, Below.drew (Below.refl _ _)⟩), (fun x e => by cases e), (fun _ => rfl), (fun e => by cases e)⟩
end
end Go.Proofs.Ytmaeofhgbelciaa
