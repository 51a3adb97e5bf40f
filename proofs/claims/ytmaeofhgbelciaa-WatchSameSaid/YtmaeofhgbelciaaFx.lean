/-
  Worlds in which one block, and one row, may have turned. No program is named here.
-/
import Derived.Test.YtmaeofhgbelciaaRowK
import Derived.Test.YtmaeofhgbelciaaRelGhost2
namespace Go.Proofs.Ytmaeofhgbelciaa
open Go.RowKit
set_option maxRecDepth 100000
set_option linter.unusedVariables false
/-- Of the block tb, all but it is as it was. -/
structure Fx (tb : Nat) (row : Option Nat) (w w' : World) : Prop where
  os : w'.os = w.os
  tape : w'.tape = w.tape
  output : w'.output = w.output
  size : w.heap.size ≤ w'.heap.size
  block : ∀ k, k < w.heap.size → k ≠ tb → some k ≠ row → w'.heap[k]? = w.heap[k]?
section
variable {tb : Nat} {row : Option Nat} {w w1 w2 : World}
theorem Fx.refl (tb : Nat) (row : Option Nat) (w : World) : Fx tb row w w := ⟨rfl, rfl, rfl, Nat.le_refl _, fun _ _ _ _ => rfl⟩
theorem Fx.trans (a : Fx tb row w w1) (b : Fx tb row w1 w2) : Fx tb row w w2 :=
  ⟨b.os.trans a.os, b.tape.trans a.tape, b.output.trans a.output, Nat.le_trans a.size b.size, fun k hk h1 h2 => (b.block k (Nat.lt_of_lt_of_le hk a.size) h1 h2).trans (a.block k hk h1 h2)⟩
/-- .. the later one may turn another row, made since. -/
theorem Fx.then_ {row' : Option Nat} (a : Fx tb row w w1) (b : Fx tb row' w1 w2) (hr : ∀ k, row' = some k → row = some k ∨ w.heap.size ≤ k) : Fx tb row w w2 :=
  ⟨b.os.trans a.os, b.tape.trans a.tape, b.output.trans a.output, Nat.le_trans a.size b.size, fun k hk h1 h2 => (b.block k (Nat.lt_of_lt_of_le hk a.size) h1 (fun e => by
    rcases hr k e.symm with h | h
    · exact h2 h.symm
    · omega)).trans (a.block k hk h1 h2)⟩
theorem Fx.wide (a : Fx tb none w w1) : Fx tb row w w1 := ⟨a.os, a.tape, a.output, a.size, fun k hk h1 _ => a.block k hk h1 (by simp)⟩
theorem Fx.below (a : Below w.heap.size w w1) : Fx tb row w w1 := ⟨a.os, a.tape, a.output, a.size, fun k hk _ _ => a.block k hk⟩
theorem Fx.grown (a : w.grownBy w1 row) : Fx tb row w w1 := ⟨a.os, a.tape, a.output, a.size, fun k hk _ h2 => a.block k hk h2⟩
theorem Fx.store (w : World) (k : Nat) (x : Value) : Fx tb none w (w.setCell ⟨tb, k, none⟩ x) :=
  ⟨rfl, rfl, rfl, by simp [World.setCell], fun j _ hk _ => heap_setCell_other w ⟨tb, k, none⟩ j x (fun e => hk (by first | exact e | exact e.symm))⟩
theorem Fx.row_ {base size n : Nat} {e : TypeId} {v : Value} {xs : List Value} (a : Fx tb row w w1) (h : w.ownsRow base e size v n xs) (h1 : v.ownBlock ≠ some tb) (h2 : v.ownBlock = none ∨ v.ownBlock ≠ row) : w1.ownsRow base e size v n xs := by
  refine ⟨h.1, ?_⟩
  rcases h.2 with hn | ⟨g, cap, cur, rfl, hb, hg, rest⟩
  · exact .inl hn
  · refine .inr ⟨g, cap, cur, rfl, hb, ?_, rest⟩
    rw [a.block g (Array.getElem?_eq_some_iff.1 hg).1 (fun e => h1 (by rw [e]; rfl)) (by simpa [Value.ownBlock] using h2)]
    exact hg
theorem Fx.toBelow (a : Fx tb row w w1) {B : Nat} (hB : B ≤ tb) (hs : B ≤ w.heap.size) (hr : ∀ k, row = some k → B ≤ k) : Below B w w1 :=
  ⟨a.os, a.tape, a.output, a.size, fun k hk => a.block k (by omega) (by omega) (fun e => by have := hr k e.symm; omega)⟩
end
theorem own_no (v : Value) : v.ownBlock = none ∨ v.ownBlock ≠ none := by cases h : v.ownBlock <;> simp
theorem Fx.cell {tb : Nat} {row : Option Nat} {w w' : World} (h : Fx tb row w w') {b : Nat} (hb : b < w.heap.size) (h1 : b ≠ tb) (h2 : some b ≠ row) (j : Nat) : w'.cell? ⟨b, j, none⟩ = w.cell? ⟨b, j, none⟩ := World.cell?_of_block (h.block b hb h1 h2)
theorem own_low {w : World} {base size n : Nat} {e : TypeId} {v : Value} {xs : List Value} (h : w.ownsRow base e size v n xs) {k : Nat} (hk : k < base) : v.ownBlock ≠ some k := fun e => by have := (h.lt k e).1; omega
theorem heap_setCells_other (b k : Nat) (hk : k ≠ b) : ∀ (us : List Value) (o : Nat) (X : World), (X.setCells b o us).heap[k]? = X.heap[k]?
  | [], o, X => rfl
  | u :: us, o, X => by rw [World.setCells, heap_setCells_other b k hk us, Below.heap_setCell _ _ _ _ hk]
theorem size_setCells' (vs : List Value) : ∀ (b o : Nat) (w : World), (w.setCells b o vs).heap.size = w.heap.size := by
  induction vs with
  | nil => intro b o w; rfl
  | cons v vs ih => intro b o w; rw [World.setCells, ih]; simp [World.setCell]
theorem os_setCells (vs : List Value) : ∀ (b o : Nat) (w : World), (w.setCells b o vs).os = w.os ∧ (w.setCells b o vs).tape = w.tape ∧ (w.setCells b o vs).output = w.output := by
  induction vs with
  | nil => intro b o w; exact ⟨rfl, rfl, rfl⟩
  | cons v vs ih =>
    intro b o w
    rw [World.setCells]
    obtain ⟨h1, h2, h3⟩ := ih b (o + 1) (w.setCell ⟨b, o, none⟩ v)
    exact ⟨h1, h2, h3⟩
theorem heap_setCells_here (b : Nat) (e : TypeId) : ∀ (us : List Value) (X : World) (cs : Array Value) (o : Nat), X.heap[b]? = some (.cells cs e) → o + us.length ≤ cs.size → ∃ cs', (X.setCells b o us).heap[b]? = some (.cells cs' e) ∧ cs'.toList = cs.toList.take o ++ us ++ cs.toList.drop (o + us.length)
  | [], X, cs, o, h, _ => ⟨cs, h, by simp⟩
  | u :: us, X, cs, o, h, ho => by
    rw [List.length_cons] at ho
    have h1 := heap_setCell_same X b o cs e u h
    obtain ⟨cs', h2, h3⟩ := heap_setCells_here b e us (X.setCell ⟨b, o, none⟩ u) _ (o + 1) h1 (by rw [Array.size_setIfInBounds]; omega)
    refine ⟨cs', by rw [World.setCells]; exact h2, ?_⟩
    rw [h3, Array.toList_setIfInBounds]
    have e1 : (cs.toList.set o u).take (o + 1) = cs.toList.take o ++ [u] := by
      rw [List.take_add_one, List.take_set, List.set_eq_of_length_le (by rw [List.length_take]; omega), List.getElem?_set_self (by rw [Array.length_toList]; omega)]; rfl
    rw [e1, List.drop_set_of_lt (by omega), List.length_cons, show o + 1 + us.length = o + (us.length + 1) by omega]
    simp
theorem updG_ne {L : Nat → Bool} {i j : Nat} (h : j ≠ i) : updG L i j = L j := by unfold updG; rw [if_neg h]
theorem updG_eq (L : Nat → Bool) (i : Nat) : updG L i i = true := by unfold updG; rw [if_pos rfl]
end Go.Proofs.Ytmaeofhgbelciaa
