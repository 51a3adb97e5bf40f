/-
  Regions that draw their order and make a variable, or turn a row and store it: their conditions. No program is named here.
-/
import Derived.Test.YtkhikpbchimodaaRowK
import Derived.Test.YtkhikpbchimodaaRelGhost2
namespace Go.Proofs.Ytkhikpbchimodaa
open Go.RowKit
set_option maxRecDepth 100000
set_option linter.unusedVariables false
/-- Of the block tb, all but it is as it was. -/
structure Fx (tb : Nat) (row : Option Nat) (w w' : World) : Prop where
  os : w'.os = w.os
  tape : w'.tape = w.tape
  output : w'.output = w.output
  size : w.heap.size ≤ w'.heap.size
  block : ∀ k, k < w.heap.size → k ≠ tb → some k ≠ row → w'.heap[k]? = w.heap[k]?
section
variable {tb : Nat} {row : Option Nat} {w w1 w2 : World}
theorem Fx.refl (tb : Nat) (row : Option Nat) (w : World) : Fx tb row w w := ⟨rfl, rfl, rfl, Nat.le_refl _, fun _ _ _ _ => rfl⟩
theorem Fx.trans (a : Fx tb row w w1) (b : Fx tb row w1 w2) : Fx tb row w w2 :=
  ⟨b.os.trans a.os, b.tape.trans a.tape, b.output.trans a.output, Nat.le_trans a.size b.size, fun k hk h1 h2 => (b.block k (Nat.lt_of_lt_of_le hk a.size) h1 h2).trans (a.block k hk h1 h2)⟩
/-- .. the later one may turn another row, made since. -/
theorem Fx.then_ {row' : Option Nat} (a : Fx tb row w w1) (b : Fx tb row' w1 w2) (hr : ∀ k, row' = some k → row = some k ∨ w.heap.size ≤ k) : Fx tb row w w2 :=
  ⟨b.os.trans a.os, b.tape.trans a.tape, b.output.trans a.output, Nat.le_trans a.size b.size, fun k hk h1 h2 => (b.block k (Nat.lt_of_lt_of_le hk a.size) h1 (fun e => by
    rcases hr k e.symm with h | h
    · exact h2 h.symm
    · omega)).trans (a.block k hk h1 h2)⟩
theorem Fx.wide (a : Fx tb none w w1) : Fx tb row w w1 := ⟨a.os, a.tape, a.output, a.size, fun k hk h1 _ => a.block k hk h1 (by simp)⟩
theorem Fx.below (a : Below w.heap.size w w1) : Fx tb row w w1 := ⟨a.os, a.tape, a.output, a.size, fun k hk _ _ => a.block k hk⟩
theorem Fx.grown (a : w.grownBy w1 row) : Fx tb row w w1 := ⟨a.os, a.tape, a.output, a.size, fun k hk _ h2 => a.block k hk h2⟩
theorem Fx.store (w : World) (k : Nat) (x : Value) : Fx tb none w (w.setCell ⟨tb, k, none⟩ x) :=
  ⟨rfl, rfl, rfl, by simp [World.setCell], fun j _ hk _ => heap_setCell_other w ⟨tb, k, none⟩ j x (fun e => hk (by first | exact e | exact e.symm))⟩
theorem Fx.row_ {base size n : Nat} {e : TypeId} {v : Value} {xs : List Value} (a : Fx tb row w w1) (h : w.ownsRow base e size v n xs) (h1 : v.ownBlock ≠ some tb) (h2 : v.ownBlock = none ∨ v.ownBlock ≠ row) : w1.ownsRow base e size v n xs := by
  refine ⟨h.1, ?_⟩
  rcases h.2 with hn | ⟨g, cap, cur, rfl, hb, hg, rest⟩
  · exact .inl hn
  · refine .inr ⟨g, cap, cur, rfl, hb, ?_, rest⟩
    rw [a.block g (Array.getElem?_eq_some_iff.1 hg).1 (fun e => h1 (by rw [e]; rfl)) (by simpa [Value.ownBlock] using h2)]
    exact hg
theorem Fx.toBelow (a : Fx tb row w w1) {B : Nat} (hB : B ≤ tb) (hs : B ≤ w.heap.size) (hr : ∀ k, row = some k → B ≤ k) : Below B w w1 :=
  ⟨a.os, a.tape, a.output, a.size, fun k hk => a.block k (by omega) (by omega) (fun e => by have := hr k e.symm; omega)⟩
end
theorem own_no (v : Value) : v.ownBlock = none ∨ v.ownBlock ≠ none := by cases h : v.ownBlock <;> simp
theorem Fx.cell {tb : Nat} {row : Option Nat} {w w' : World} (h : Fx tb row w w') {b : Nat} (hb : b < w.heap.size) (h1 : b ≠ tb) (h2 : some b ≠ row) (j : Nat) : w'.cell? ⟨b, j, none⟩ = w.cell? ⟨b, j, none⟩ := World.cell?_of_block (h.block b hb h1 h2)
theorem own_low {w : World} {base size n : Nat} {e : TypeId} {v : Value} {xs : List Value} (h : w.ownsRow base e size v n xs) {k : Nat} (hk : k < base) : v.ownBlock ≠ some k := fun e => by have := (h.lt k e).1; omega
theorem heap_setCells_other (b k : Nat) (hk : k ≠ b) : ∀ (us : List Value) (o : Nat) (X : World), (X.setCells b o us).heap[k]? = X.heap[k]?
  | [], o, X => rfl
  | u :: us, o, X => by rw [World.setCells, heap_setCells_other b k hk us, Below.heap_setCell _ _ _ _ hk]
theorem size_setCells' (vs : List Value) : ∀ (b o : Nat) (w : World), (w.setCells b o vs).heap.size = w.heap.size := by
  induction vs with
  | nil => intro b o w; rfl
  | cons v vs ih => intro b o w; rw [World.setCells, ih]; simp [World.setCell]
theorem os_setCells (vs : List Value) : ∀ (b o : Nat) (w : World), (w.setCells b o vs).os = w.os ∧ (w.setCells b o vs).tape = w.tape ∧ (w.setCells b o vs).output = w.output := by
  induction vs with
  | nil => intro b o w; exact ⟨rfl, rfl, rfl⟩
  | cons v vs ih =>
    intro b o w
    rw [World.setCells]
    obtain ⟨h1, h2, h3⟩ := ih b (o + 1) (w.setCell ⟨b, o, none⟩ v)
    exact ⟨h1, h2, h3⟩
theorem heap_setCells_here (b : Nat) (e : TypeId) : ∀ (us : List Value) (X : World) (cs : Array Value) (o : Nat), X.heap[b]? = some (.cells cs e) → o + us.length ≤ cs.size → ∃ cs', (X.setCells b o us).heap[b]? = some (.cells cs' e) ∧ cs'.toList = cs.toList.take o ++ us ++ cs.toList.drop (o + us.length)
  | [], X, cs, o, h, _ => ⟨cs, h, by simp⟩
  | u :: us, X, cs, o, h, ho => by
    rw [List.length_cons] at ho
    have h1 := heap_setCell_same X b o cs e u h
    obtain ⟨cs', h2, h3⟩ := heap_setCells_here b e us (X.setCell ⟨b, o, none⟩ u) _ (o + 1) h1 (by rw [Array.size_setIfInBounds]; omega)
    refine ⟨cs', by rw [World.setCells]; exact h2, ?_⟩
    rw [h3, Array.toList_setIfInBounds]
    have e1 : (cs.toList.set o u).take (o + 1) = cs.toList.take o ++ [u] := by
      rw [List.take_add_one, List.take_set, List.set_eq_of_length_le (by rw [List.length_take]; omega), List.getElem?_set_self (by rw [Array.length_toList]; omega)]; rfl
    rw [e1, List.drop_set_of_lt (by omega), List.length_cons, show o + 1 + us.length = o + (us.length + 1) by omega]
    simp
theorem updG_ne {L : Nat → Bool} {i j : Nat} (h : j ≠ i) : updG L i j = L j := by unfold updG; rw [if_neg h]
theorem updG_eq (L : Nat → Bool) (i : Nat) : updG L i i = true := by unfold updG; rw [if_pos rfl]
/-- A region that makes a variable of type e (operation ia) and stores into it (operation ib), beside what makes memory. -/
structure VS (w1 : World) (e : TypeId) (m : Nat) (P : World → Array Value → Prop) (ia ib : Nat) (L : Nat → Bool) (g : Option Nat) (w : World) : Prop where
  fr : Below w1.heap.size w1 w
  none_ : L ia = false → g = none
  some_ : L ia = true → ∃ b cs, g = some b ∧ w1.heap.size ≤ b ∧ w.heap[b]? = some (.cells cs e (0, 0)) ∧ cs.size = m
  done : L ib = true → ∃ b cs, g = some b ∧ w1.heap.size ≤ b ∧ w.heap[b]? = some (.cells cs e (0, 0)) ∧ P w cs
def VT (e : TypeId) (g : Option Nat) (w : World) (g' : Option Nat) (w' : World) : Prop :=
  w.heap.size ≤ w'.heap.size ∧ (∀ (k : Nat) (cs : Array Value) (t : TypeId) (fr : Nat × Nat), w.heap[k]? = some (.cells cs t fr) → t ≠ e → w'.heap[k]? = w.heap[k]?) ∧ ∀ b, g = some b → g' = some b
theorem VT.refl (e : TypeId) (g : Option Nat) (w : World) : VT e g w g w := ⟨Nat.le_refl _, fun _ _ _ _ _ _ => rfl, fun _ h => h⟩
theorem VT.below {e : TypeId} {g : Option Nat} {w w' : World} (h : Below w.heap.size w w') : VT e g w g w' := ⟨h.size, fun k _ _ _ hk _ => h.block k (Array.getElem?_eq_some_iff.1 hk).1, fun _ h => h⟩
theorem VT.row {e : TypeId} {g g' : Option Nat} {w w' : World} (h : VT e g w g' w') {base t sz n : Nat} {v : Value} {xs : List Value} (ho : w.ownsRow base t sz v n xs) (ht : t ≠ e) : w'.ownsRow base t sz v n xs := by
  refine ⟨ho.1, ?_⟩
  rcases ho.2 with hn | ⟨g, cap, cur, e1, hb, hg, rest⟩
  · exact .inl hn
  · exact .inr ⟨g, cap, cur, e1, hb, (h.2.1 g _ _ _ hg ht).trans hg, rest⟩
section
variable {w1 w w' : World} {e : TypeId} {m : Nat} {P : World → Array Value → Prop} {ia ib : Nat} {L : Nat → Bool} {g : Option Nat}
theorem VS.first (w1 : World) : VS w1 e m P ia ib (fun _ => false) none w1.drew :=
  ⟨Below.drew (Below.refl _ _), fun _ => rfl, (fun h => by cases h), (fun h => by cases h)⟩
theorem VS.quiet (h : VS w1 e m P ia ib L g w) (i : Nat) (h1 : ia ≠ i) (h2 : ib ≠ i) : VS w1 e m P ia ib (updG L i) g w :=
  ⟨h.fr, by rw [updG_ne h1]; exact h.none_, by rw [updG_ne h1]; exact h.some_, by rw [updG_ne h2]; exact h.done⟩
theorem VS.call (hP : ∀ w w' cs, Below w.heap.size w w' → P w cs → P w' cs) (h : VS w1 e m P ia ib L g w) (i : Nat) (h1 : ia ≠ i) (h2 : ib ≠ i) (hb : Below w.heap.size w w') : VS w1 e m P ia ib (updG L i) g w' := by
  refine ⟨h.fr.trans (hb.mono h.fr.size), by rw [updG_ne h1]; exact h.none_, ?_, ?_⟩
  · rw [updG_ne h1]
    intro hl
    obtain ⟨b, cs, e1, e2, e3, e4⟩ := h.some_ hl
    exact ⟨b, cs, e1, e2, (hb.block b (Array.getElem?_eq_some_iff.1 e3).1).trans e3, e4⟩
  · rw [updG_ne h2]
    intro hl
    obtain ⟨b, cs, e1, e2, e3, e4⟩ := h.done hl
    exact ⟨b, cs, e1, e2, (hb.block b (Array.getElem?_eq_some_iff.1 e3).1).trans e3, hP _ _ _ hb e4⟩
theorem VS.alloc (hP : ∀ w w' cs, Below w.heap.size w w' → P w cs → P w' cs) (h : VS w1 e m P ia ib L g w) (hl : L ia = false) (hne : ib ≠ ia) (cs : Array Value) (hcs : cs.size = m) : VS w1 e m P ia ib (updG L ia) (some w.heap.size) (w.alloc (.cells cs e)) ∧ VT e g w (some w.heap.size) (w.alloc (.cells cs e)) := by
  have hb : Below w.heap.size w (w.alloc (.cells cs e)) := (Below.refl _ w).alloc (Nat.le_refl _) _
  have hg := h.none_ hl
  refine ⟨⟨h.fr.trans (hb.mono h.fr.size), (by rw [updG_eq]; intro e; cases e), fun _ => ⟨_, cs, rfl, h.fr.size, heap_alloc_new w _, hcs⟩, ?_⟩, hb.size, (fun k _ _ _ hk _ => hb.block k (Array.getElem?_eq_some_iff.1 hk).1), fun b hb => by rw [hg] at hb; cases hb⟩
  rw [updG_ne hne]
  intro hd
  obtain ⟨b, _, e1, _⟩ := h.done hd
  rw [hg] at e1; cases e1
theorem VS.there (h : VS w1 e m P ia ib L g w) (hl : L ia = true) : ∃ b, g = some b ∧ w.there b 0 m ∧ w1.heap.size ≤ b := by
  obtain ⟨b, cs, e1, e2, e3, e4⟩ := h.some_ hl
  refine ⟨b, e1, fun j hj => ⟨?_, by simp [World.frozen?, e3]⟩, e2⟩
  rw [Nat.zero_add, cell_of_row _ _ _ _ _ _ e3, Array.getElem?_eq_getElem (by omega)]; rfl
theorem VS.store (h : VS w1 e m P ia ib L g w) (hl : L ia = true) (hne : ia ≠ ib) {b : Nat} (hg : g = some b) (us : List Value) (hus : us.length = m) (hP : P (w.setCells b 0 us) us.toArray) : VS w1 e m P ia ib (updG L ib) g (w.setCells b 0 us) ∧ VT e g w g (w.setCells b 0 us) := by
  obtain ⟨b', cs, e1, e2, e3, e4⟩ := h.some_ hl
  rw [hg] at e1
  obtain rfl := Option.some.inj e1
  obtain ⟨cs', h2, h3⟩ := heap_setCells_here b e us w cs 0 e3 (by omega)
  rw [List.take_zero, List.nil_append, List.drop_eq_nil_of_le (by rw [Array.length_toList]; omega), List.append_nil] at h3
  have h4 : cs' = us.toArray := by rw [← h3]
  rw [h4] at h2
  have hbl : ∀ k, k ≠ b → (w.setCells b 0 us).heap[k]? = w.heap[k]? := fun k hk => heap_setCells_other b k hk us 0 w
  obtain ⟨o1, o2, o3⟩ := os_setCells us b 0 w
  refine ⟨⟨⟨o1.trans h.fr.os, o2.trans h.fr.tape, o3.trans h.fr.output, by rw [size_setCells']; exact h.fr.size, fun k hk => (hbl k (by omega)).trans (h.fr.block k hk)⟩, ?_, fun _ => ⟨b, us.toArray, hg, e2, h2, by simp [hus]⟩, fun _ => ⟨b, us.toArray, hg, e2, h2, hP⟩⟩, by rw [size_setCells']; exact Nat.le_refl _, ?_, fun _ h => h⟩
  · rw [updG_ne hne, hl]; intro e; cases e
  · intro k cs2 t fr hk ht
    refine hbl k (fun e5 => ?_)
    subst e5
    rw [e3] at hk
    injection hk with hk
    injection hk with _ hk _
    exact ht hk.symm
end
/-- Another's row stands under the store. -/
theorem VT.store_row {w1 w : World} {e : TypeId} {m : Nat} {P : World → Array Value → Prop} {ia ib : Nat} {L : Nat → Bool} {g : Option Nat} (h : VS w1 e m P ia ib L g w) (hl : L ia = true) {b : Nat} (hg : g = some b) {base t sz n : Nat} {v : Value} {xs : List Value} (ho : w.ownsRow base t sz v n xs) (ht : t ≠ e) (us : List Value) : (w.setCells b 0 us).ownsRow base t sz v n xs := by
  obtain ⟨b', cs, e1, e2, e3, e4⟩ := h.some_ hl
  rw [hg] at e1
  obtain rfl := Option.some.inj e1
  have hne := rk_ne ho e3 (Ne.symm ht)
  refine ⟨ho.1, ?_⟩
  rcases ho.2 with hn | ⟨g, cap, cur, e5, hb, hg, rest⟩
  · exact .inl hn
  · refine .inr ⟨g, cap, cur, e5, hb, ?_, rest⟩
    rw [heap_setCells_other b g (fun e6 => hne (by rw [e5, e6]; rfl)) us 0 w]
    exact hg
/-- A region that loads a row (operation il), makes it anew (ir) and stores it (is) into a cell of block tb, beside what makes memory. -/
structure WS (w3 : World) (tb : Nat) (e : TypeId) (mk : Value → Array Value) (row : Option Nat) (P : World → Value → Prop) (il ir is : Nat) (L : Nat → Bool) (g : Option Value) (w : World) : Prop where
  need : L ir = true → L il = true
  fr : Fx tb row w3 w
  early : L ir = false → g = none ∧ Below w3.heap.size w3 w
  made : ∀ x, g = some x → P w x
  cell0 : L is = false → w.heap[tb]? = w3.heap[tb]?
  cell1 : L is = true → ∃ x, g = some x ∧ w.heap[tb]? = some (.cells (mk x) e)
def WT (tb : Nat) (row : Option Nat) (g : Option Value) (w : World) (g' : Option Value) (w' : World) : Prop := Fx tb row w w' ∧ ∀ x, g = some x → g' = some x ∧ Fx tb none w w'
section
variable {w3 w w' : World} {tb : Nat} {e : TypeId} {mk : Value → Array Value} {row : Option Nat} {P : World → Value → Prop} {il ir is : Nat} {L : Nat → Bool} {g : Option Value}
theorem WT.refl (g : Option Value) (w : World) : WT tb row g w g w := ⟨Fx.refl _ _ _, fun x h => ⟨h, Fx.refl _ _ _⟩⟩
theorem WT.below (h : Below w.heap.size w w') : WT tb row g w g w' := ⟨Fx.below h, fun x hx => ⟨hx, Fx.below h⟩⟩
theorem WS.quiet (h : WS w3 tb e mk row P il ir is L g w) (i : Nat) (h1 : ir ≠ i) (h2 : is ≠ i) : WS w3 tb e mk row P il ir is (updG L i) g w :=
  ⟨fun e => by rw [updG_ne h1] at e; unfold updG; split; rfl; exact h.need e, h.fr, by rw [updG_ne h1]; exact h.early, h.made, by rw [updG_ne h2]; exact h.cell0, by rw [updG_ne h2]; exact h.cell1⟩
theorem WS.call (hP : ∀ w w' x, Fx tb none w w' → P w x → P w' x) (htb : tb < w3.heap.size) (h : WS w3 tb e mk row P il ir is L g w) (i : Nat) (h1 : ir ≠ i) (h2 : is ≠ i) (hb : Below w.heap.size w w') : WS w3 tb e mk row P il ir is (updG L i) g w' := by
  have hcw := hb.block tb (Nat.lt_of_lt_of_le htb h.fr.size)
  refine ⟨fun e => by rw [updG_ne h1] at e; unfold updG; split; rfl; exact h.need e, h.fr.trans (Fx.below hb), ?_, fun x hx => hP _ _ x (Fx.below hb) (h.made x hx), ?_, ?_⟩
  · rw [updG_ne h1]; exact fun hl => ⟨(h.early hl).1, (h.early hl).2.trans (hb.mono h.fr.size)⟩
  · rw [updG_ne h2]; exact fun hl => hcw.trans (h.cell0 hl)
  · rw [updG_ne h2]
    intro hl
    obtain ⟨x, h1, h2⟩ := h.cell1 hl
    exact ⟨x, h1, hcw.trans h2⟩
theorem WS.row_ (htb : tb < w3.heap.size) (hrow : row ≠ some tb) (h : WS w3 tb e mk row P il ir is L g w) (hl : L ir = false) (hd : L il = true) (hne : is ≠ ir) {x : Value} (hb : w.grownBy w' row) (hP : P w' x) : WS w3 tb e mk row P il ir is (updG L ir) (some x) w' ∧ WT tb row g w (some x) w' := by
  have hg := (h.early hl).1
  have hs : L is = false := by
    cases hs : L is with
    | false => rfl
    | true =>
      obtain ⟨y, h1, _⟩ := h.cell1 hs
      rw [hg] at h1; cases h1
  refine ⟨⟨(fun _ => by unfold updG; split; rfl; exact hd), h.fr.trans (Fx.grown hb), (by rw [updG_eq]; intro e; cases e), (fun y hy => by obtain rfl := Option.some.inj hy; exact hP), ?_, ?_⟩, Fx.grown hb, (fun y hy => by rw [hg] at hy; cases hy)⟩
  · rw [updG_ne hne]
    exact fun _ => (hb.block tb (Nat.lt_of_lt_of_le htb h.fr.size) (fun e => hrow e.symm)).trans (h.cell0 hs)
  · rw [updG_ne hne, hs]; intro e; cases e
theorem WS.old (h : WS w3 tb e mk row P il ir is L g w) (hl : L il = false) : Below w3.heap.size w3 w := by
  refine (h.early ?_).2
  cases e : L ir with
  | false => rfl
  | true => rw [h.need e] at hl; cases hl
theorem WS.store (hP : ∀ w w' x, Fx tb none w w' → P w x → P w' x) {k : Nat} {cs : Array Value} (h3 : w3.heap[tb]? = some (.cells cs e)) (hmk : ∀ x, cs.setIfInBounds k x = mk x) (h : WS w3 tb e mk row P il ir is L g w) (hl : L is = false) (hd : L ir = true) (hne : ir ≠ is) {x : Value} (hg : g = some x) : WS w3 tb e mk row P il ir is (updG L is) g (w.setCell ⟨tb, k, none⟩ x) ∧ WT tb row g w g (w.setCell ⟨tb, k, none⟩ x) := by
  have hf : Fx tb none w (w.setCell ⟨tb, k, none⟩ x) := Fx.store w k x
  refine ⟨⟨(fun _ => by unfold updG; split; rfl; exact h.need hd), h.fr.trans hf.wide, (by rw [updG_ne hne, hd]; intro e; cases e), (fun y hy => hP _ _ y hf (h.made y hy)), (by rw [updG_eq]; intro e; cases e), (fun _ => ⟨x, hg, ?_⟩)⟩, hf.wide, (fun y hy => ⟨hy, hf⟩)⟩
  rw [← hmk x]
  exact heap_setCell_same w tb k cs e x ((h.cell0 hl).trans h3)
theorem WS.first (w3 : World) : WS w3 tb e mk row P il ir is (fun _ => false) none w3.drew :=
  ⟨(fun e => by cases e), Fx.below (Below.drew (Below.refl _ _)), (fun _ => ⟨rfl, Below.drew (Below.refl _ _)⟩), (fun x e => by cases e), (fun _ => rfl), (fun e => by cases e)⟩
end
end Go.Proofs.Ytkhikpbchimodaa
