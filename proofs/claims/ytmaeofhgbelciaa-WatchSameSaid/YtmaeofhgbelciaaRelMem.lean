/-
  Drawn regions that load fields of a variable, make them anew by calls, and store them: their condition. No program is named here.
-/
import Derived.Test.YtmaeofhgbelciaaFx
namespace Go.Proofs.Ytmaeofhgbelciaa
open Go.RowKit
set_option maxRecDepth 100000
set_option linter.unusedVariables false
/-- The block b is a variable of type e, its cells hd of the m fields; il: where a field is loaded, ic: where it is made anew, st: where it is stored. -/
structure MC (w1 : World) (b : Nat) (e : TypeId) (m : Nat) (il ic st : Nat → Nat) (hd : (Nat → Value) → Array Value) (x0 : Nat → Value) (P : Nat → World → Value → Prop) (L : Nat → Bool) (g : Nat → Option Value) (w : World) : Prop where
  fr : Fx b none w1 w
  need : ∀ j, j < m → L (st j) = true → L (il j) = true
  early : ∀ j, j < m → L (ic j) = false → g j = none
  made : ∀ j x, g j = some x → P j w x
  blk : ∃ y : Nat → Value, w.heap[b]? = some (.cells (hd y) e (0, 0)) ∧ ∀ j, j < m → (L (st j) = false → y j = x0 j) ∧ (L (st j) = true → g j = some (y j))
def MT (b : Nat) (g : Nat → Option Value) (w : World) (g' : Nat → Option Value) (w' : World) : Prop := Fx b none w w' ∧ ∀ j x, g j = some x → g' j = some x
def updF (g : Nat → Option Value) (j : Nat) (x : Value) : Nat → Option Value := fun i => if i = j then some x else g i
def updV (y : Nat → Value) (j : Nat) (x : Value) : Nat → Value := fun i => if i = j then x else y i
theorem updF_eq (g : Nat → Option Value) (j : Nat) (x : Value) : updF g j x j = some x := by unfold updF; rw [if_pos rfl]
theorem updG_up {L : Nat → Bool} {i k : Nat} (h : L k = true) : updG L i k = true := by unfold updG; split; rfl; exact h
section
variable {w1 w w' : World} {b : Nat} {e : TypeId} {m : Nat} {il ic st : Nat → Nat} {hd : (Nat → Value) → Array Value} {x0 : Nat → Value} {P : Nat → World → Value → Prop} {L : Nat → Bool} {g : Nat → Option Value}
theorem MT.refl (b : Nat) (g : Nat → Option Value) (w : World) : MT b g w g w := ⟨Fx.refl _ _ _, fun _ _ h => h⟩
theorem MC.first (h0 : ∃ y : Nat → Value, w1.heap[b]? = some (.cells (hd y) e (0, 0)) ∧ ∀ j, j < m → y j = x0 j) : MC w1 b e m il ic st hd x0 P (fun _ => false) (fun _ => none) w1.drew := by
  obtain ⟨y, h1, h2⟩ := h0
  exact ⟨⟨rfl, rfl, rfl, Nat.le_refl _, fun _ _ _ _ => rfl⟩, (fun _ _ h => by cases h), (fun _ _ _ => rfl), (fun _ _ h => by cases h), y, h1, fun j hj => ⟨fun _ => h2 j hj, fun h => by cases h⟩⟩
theorem MC.quiet (h : MC w1 b e m il ic st hd x0 P L g w) (i : Nat) (hi : ∀ j, j < m → ic j ≠ i ∧ st j ≠ i) : MC w1 b e m il ic st hd x0 P (updG L i) g w := by
  refine ⟨h.fr, ?_, ?_, h.made, ?_⟩
  · intro j hj hs
    rw [updG_ne (hi j hj).2] at hs
    exact updG_up (h.need j hj hs)
  · intro j hj hs
    rw [updG_ne (hi j hj).1] at hs
    exact h.early j hj hs
  · obtain ⟨y, h1, h2⟩ := h.blk
    refine ⟨y, h1, fun j hj => ?_⟩
    rw [updG_ne (hi j hj).2]
    exact h2 j hj
theorem MC.there (h : MC w1 b e m il ic st hd x0 P L g w) {n : Nat} (hn : ∀ y, (hd y).size = n) : w.there b 0 n := by
  obtain ⟨y, h1, _⟩ := h.blk
  intro j hj
  refine ⟨?_, by simp [World.frozen?, h1]⟩
  rw [Nat.zero_add, cell_of_row _ _ _ _ _ _ h1, Array.getElem?_eq_getElem (by rw [hn]; exact hj)]; rfl
/-- At its load a field is what it was. -/
theorem MC.old (h : MC w1 b e m il ic st hd x0 P L g w) {j : Nat} (hj : j < m) (hl : L (il j) = false) : ∃ y : Nat → Value, w.heap[b]? = some (.cells (hd y) e (0, 0)) ∧ y j = x0 j := by
  obtain ⟨y, h1, h2⟩ := h.blk
  refine ⟨y, h1, (h2 j hj).1 ?_⟩
  cases hs : L (st j) with
  | false => rfl
  | true => rw [h.need j hj hs] at hl; cases hl
/-- A field made anew. -/
theorem MC.call (hP : ∀ j w w' x, Fx b none w w' → P j w x → P j w' x) (hb : b < w.heap.size) (h : MC w1 b e m il ic st hd x0 P L g w) {j : Nat} (hj : j < m) (hl : L (ic j) = false) (hne : ∀ i, i < m → st i ≠ ic j ∧ (i ≠ j → ic i ≠ ic j)) (hbw : Below w.heap.size w w') (x : Value) (hx : P j w' x) : MC w1 b e m il ic st hd x0 P (updG L (ic j)) (updF g j x) w' ∧ MT b g w (updF g j x) w' := by
  have hf : Fx b none w w' := Fx.below hbw
  have hg := h.early j hj hl
  refine ⟨⟨h.fr.trans hf, ?_, ?_, ?_, ?_⟩, hf, ?_⟩
  · intro i hi hs
    rw [updG_ne (hne i hi).1] at hs
    exact updG_up (h.need i hi hs)
  · intro i hi hs
    by_cases e : i = j
    · subst e; rw [updG_eq] at hs; cases hs
    · rw [updG_ne ((hne i hi).2 e)] at hs
      unfold updF; rw [if_neg e]; exact h.early i hi hs
  · intro i y hy
    unfold updF at hy
    split at hy
    · rename_i e; subst e
      obtain rfl := Option.some.inj hy
      exact hx
    · exact hP _ _ _ _ hf (h.made i y hy)
  · obtain ⟨y, h1, h2⟩ := h.blk
    refine ⟨y, (hbw.block b hb).trans h1, fun i hi => ?_⟩
    rw [updG_ne (hne i hi).1]
    refine ⟨(h2 i hi).1, fun hs => ?_⟩
    have := (h2 i hi).2 hs
    unfold updF
    split
    · rename_i e; subst e; rw [hg] at this; cases this
    · exact this
  · intro i y hy
    unfold updF
    split
    · rename_i e; subst e; rw [hg] at hy; cases hy
    · exact hy
/-- A call beside the fields, that only makes memory. -/
theorem MC.by_ (hP : ∀ j w w' x, Fx b none w w' → P j w x → P j w' x) (hb : b < w.heap.size) (h : MC w1 b e m il ic st hd x0 P L g w) (i : Nat) (hi : ∀ j, j < m → ic j ≠ i ∧ st j ≠ i) (hbw : Below w.heap.size w w') : MC w1 b e m il ic st hd x0 P (updG L i) g w' ∧ MT b g w g w' := by
  have hf : Fx b none w w' := Fx.below hbw
  have h2 := h.quiet i hi
  obtain ⟨y, h3, h4⟩ := h2.blk
  exact ⟨⟨h2.fr.trans hf, h2.need, h2.early, fun j x hx => hP _ _ _ _ hf (h2.made j x hx), y, (hbw.block b hb).trans h3, h4⟩, hf, fun _ _ h => h⟩
/-- A field stored. -/
theorem MC.store (hP : ∀ j w w' x, Fx b none w w' → P j w x → P j w' x) (h : MC w1 b e m il ic st hd x0 P L g w) {j : Nat} (hj : j < m) (hl : L (il j) = true) (hne : ∀ i, i < m → ic i ≠ st j ∧ (i ≠ j → st i ≠ st j)) {x : Value} (hg : g j = some x) (o : Nat) (us : List Value) (hus : ∀ y, o + us.length ≤ (hd y).size) (hset : ∀ y, (hd y).toList.take o ++ us ++ (hd y).toList.drop (o + us.length) = (hd (updV y j x)).toList) : MC w1 b e m il ic st hd x0 P (updG L (st j)) g (w.setCells b o us) ∧ MT b g w g (w.setCells b o us) := by
  have hf : Fx b none w (w.setCells b o us) := by
    obtain ⟨o1, o2, o3⟩ := os_setCells us b o w
    exact ⟨o1, o2, o3, by rw [size_setCells']; exact Nat.le_refl _, fun k _ hk _ => heap_setCells_other b k hk us o w⟩
  refine ⟨⟨h.fr.trans hf, ?_, ?_, (fun i y hy => hP _ _ _ _ hf (h.made i y hy)), ?_⟩, hf, fun _ _ h => h⟩
  · intro i hi hs
    by_cases e : i = j
    · subst e; exact updG_up hl
    · rw [updG_ne ((hne i hi).2 e)] at hs
      exact updG_up (h.need i hi hs)
  · intro i hi hs
    rw [updG_ne (hne i hi).1] at hs
    exact h.early i hi hs
  · obtain ⟨y, h1, h2⟩ := h.blk
    obtain ⟨cs', h3, h4⟩ := heap_setCells_here b e us w (hd y) o h1 (hus y)
    rw [hset y] at h4
    have h5 : cs' = hd (updV y j x) := Array.toList_inj.1 h4
    rw [h5] at h3
    refine ⟨_, h3, fun i hi => ?_⟩
    by_cases e : i = j
    · subst e
      rw [updG_eq]
      refine ⟨(fun h => by cases h), fun _ => ?_⟩
      unfold updV; rw [if_pos rfl]; exact hg
    · rw [updG_ne ((hne i hi).2 e)]
      unfold updV; rw [if_neg e]
      exact h2 i hi
end
end Go.Proofs.Ytmaeofhgbelciaa
