/-
  Regions that draw their order and make a variable, or turn a row and store it: their conditions. No program is named here.
-/
/-
  Exchanges as plain lists: the document's rules of their times. No program is named here.
-/
/-
  Exchanges as they lie: rows of six cells with bytes; the table at its address.
-/
import Derived.Test.YtfbddldcbjhmiaaRowK
import Derived.Test.YtfbddldcbjhmiaaRelGhost2
import Derived.Test.YtfbddldcbjhmiaaBase
import Derived.Test.YtfbddldcbjhmiaaCrcWalks
import Derived.Deep.LoopGhost
import Derived.Deep.QuietTactic
import Derived.BigQuiet
namespace Go.Proofs.Ytfbddldcbjhmiaa
open Go.RowKit
set_option maxRecDepth 100000
set_option linter.unusedVariables false
/-- Of the block tb, all but it is as it was. -/
structure Fx (tb : Nat) (row : Option Nat) (w w' : World) : Prop where
  os : w'.os = w.os
  tape : w'.tape = w.tape
  output : w'.output = w.output
  size : w.heap.size ≤ w'.heap.size
  block : ∀ k, k < w.heap.size → k ≠ tb → some k ≠ row → w'.heap[k]? = w.heap[k]?
section
variable {tb : Nat} {row : Option Nat} {w w1 w2 : World}
theorem Fx.refl (tb : Nat) (row : Option Nat) (w : World) : Fx tb row w w := ⟨rfl, rfl, rfl, Nat.le_refl _, fun _ _ _ _ => rfl⟩
theorem Fx.trans (a : Fx tb row w w1) (b : Fx tb row w1 w2) : Fx tb row w w2 :=
  ⟨b.os.trans a.os, b.tape.trans a.tape, b.output.trans a.output, Nat.le_trans a.size b.size, fun k hk h1 h2 => (b.block k (Nat.lt_of_lt_of_le hk a.size) h1 h2).trans (a.block k hk h1 h2)⟩
/-- .. the later one may turn another row, made since. -/
theorem Fx.then_ {row' : Option Nat} (a : Fx tb row w w1) (b : Fx tb row' w1 w2) (hr : ∀ k, row' = some k → row = some k ∨ w.heap.size ≤ k) : Fx tb row w w2 :=
  ⟨b.os.trans a.os, b.tape.trans a.tape, b.output.trans a.output, Nat.le_trans a.size b.size, fun k hk h1 h2 => (b.block k (Nat.lt_of_lt_of_le hk a.size) h1 (fun e => by
    rcases hr k e.symm with h | h
    · exact h2 h.symm
    · omega)).trans (a.block k hk h1 h2)⟩
theorem Fx.wide (a : Fx tb none w w1) : Fx tb row w w1 := ⟨a.os, a.tape, a.output, a.size, fun k hk h1 _ => a.block k hk h1 (by simp)⟩
theorem Fx.below (a : Below w.heap.size w w1) : Fx tb row w w1 := ⟨a.os, a.tape, a.output, a.size, fun k hk _ _ => a.block k hk⟩
theorem Fx.grown (a : w.grownBy w1 row) : Fx tb row w w1 := ⟨a.os, a.tape, a.output, a.size, fun k hk _ h2 => a.block k hk h2⟩
theorem Fx.store (w : World) (k : Nat) (x : Value) : Fx tb none w (w.setCell ⟨tb, k, none⟩ x) :=
  ⟨rfl, rfl, rfl, by simp [World.setCell], fun j _ hk _ => heap_setCell_other w ⟨tb, k, none⟩ j x (fun e => hk (by first | exact e | exact e.symm))⟩
theorem Fx.row_ {base size n : Nat} {e : TypeId} {v : Value} {xs : List Value} (a : Fx tb row w w1) (h : w.ownsRow base e size v n xs) (h1 : v.ownBlock ≠ some tb) (h2 : v.ownBlock = none ∨ v.ownBlock ≠ row) : w1.ownsRow base e size v n xs := by
  refine ⟨h.1, ?_⟩
  rcases h.2 with hn | ⟨g, cap, cur, rfl, hb, hg, rest⟩
  · exact .inl hn
  · refine .inr ⟨g, cap, cur, rfl, hb, ?_, rest⟩
    rw [a.block g (Array.getElem?_eq_some_iff.1 hg).1 (fun e => h1 (by rw [e]; rfl)) (by simpa [Value.ownBlock] using h2)]
    exact hg
theorem Fx.toBelow (a : Fx tb row w w1) {B : Nat} (hB : B ≤ tb) (hs : B ≤ w.heap.size) (hr : ∀ k, row = some k → B ≤ k) : Below B w w1 :=
  ⟨a.os, a.tape, a.output, a.size, fun k hk => a.block k (by omega) (by omega) (fun e => by have := hr k e.symm; omega)⟩
end
theorem own_no (v : Value) : v.ownBlock = none ∨ v.ownBlock ≠ none := by cases h : v.ownBlock <;> simp
theorem Fx.cell {tb : Nat} {row : Option Nat} {w w' : World} (h : Fx tb row w w') {b : Nat} (hb : b < w.heap.size) (h1 : b ≠ tb) (h2 : some b ≠ row) (j : Nat) : w'.cell? ⟨b, j, none⟩ = w.cell? ⟨b, j, none⟩ := World.cell?_of_block (h.block b hb h1 h2)
theorem own_low {w : World} {base size n : Nat} {e : TypeId} {v : Value} {xs : List Value} (h : w.ownsRow base e size v n xs) {k : Nat} (hk : k < base) : v.ownBlock ≠ some k := fun e => by have := (h.lt k e).1; omega
theorem heap_setCells_other (b k : Nat) (hk : k ≠ b) : ∀ (us : List Value) (o : Nat) (X : World), (X.setCells b o us).heap[k]? = X.heap[k]?
  | [], o, X => rfl
  | u :: us, o, X => by rw [World.setCells, heap_setCells_other b k hk us, Below.heap_setCell _ _ _ _ hk]
theorem size_setCells' (vs : List Value) : ∀ (b o : Nat) (w : World), (w.setCells b o vs).heap.size = w.heap.size := by
  induction vs with
  | nil => intro b o w; rfl
  | cons v vs ih => intro b o w; rw [World.setCells, ih]; simp [World.setCell]
theorem os_setCells (vs : List Value) : ∀ (b o : Nat) (w : World), (w.setCells b o vs).os = w.os ∧ (w.setCells b o vs).tape = w.tape ∧ (w.setCells b o vs).output = w.output := by
  induction vs with
  | nil => intro b o w; exact ⟨rfl, rfl, rfl⟩
  | cons v vs ih =>
    intro b o w
    rw [World.setCells]
    obtain ⟨h1, h2, h3⟩ := ih b (o + 1) (w.setCell ⟨b, o, none⟩ v)
    exact ⟨h1, h2, h3⟩
theorem heap_setCells_here (b : Nat) (e : TypeId) : ∀ (us : List Value) (X : World) (cs : Array Value) (o : Nat), X.heap[b]? = some (.cells cs e) → o + us.length ≤ cs.size → ∃ cs', (X.setCells b o us).heap[b]? = some (.cells cs' e) ∧ cs'.toList = cs.toList.take o ++ us ++ cs.toList.drop (o + us.length)
  | [], X, cs, o, h, _ => ⟨cs, h, by simp⟩
  | u :: us, X, cs, o, h, ho => by
    rw [List.length_cons] at ho
    have h1 := heap_setCell_same X b o cs e u h
    obtain ⟨cs', h2, h3⟩ := heap_setCells_here b e us (X.setCell ⟨b, o, none⟩ u) _ (o + 1) h1 (by rw [Array.size_setIfInBounds]; omega)
    refine ⟨cs', by rw [World.setCells]; exact h2, ?_⟩
    rw [h3, Array.toList_setIfInBounds]
    have e1 : (cs.toList.set o u).take (o + 1) = cs.toList.take o ++ [u] := by
      rw [List.take_add_one, List.take_set, List.set_eq_of_length_le (by rw [List.length_take]; omega), List.getElem?_set_self (by rw [Array.length_toList]; omega)]; rfl
    rw [e1, List.drop_set_of_lt (by omega), List.length_cons, show o + 1 + us.length = o + (us.length + 1) by omega]
    simp
theorem updG_ne {L : Nat → Bool} {i j : Nat} (h : j ≠ i) : updG L i j = L j := by unfold updG; rw [if_neg h]
theorem updG_eq (L : Nat → Bool) (i : Nat) : updG L i i = true := by unfold updG; rw [if_pos rfl]
/-- A region that makes a variable of type e (operation ia) and stores into it (operation ib), beside what makes memory. -/
structure VS (w1 : World) (e : TypeId) (m : Nat) (P : World → Array Value → Prop) (ia ib : Nat) (L : Nat → Bool) (g : Option Nat) (w : World) : Prop where
  fr : Below w1.heap.size w1 w
  none_ : L ia = false → g = none
  some_ : L ia = true → ∃ b cs, g = some b ∧ w1.heap.size ≤ b ∧ w.heap[b]? = some (.cells cs e (0, 0)) ∧ cs.size = m
  done : L ib = true → ∃ b cs, g = some b ∧ w1.heap.size ≤ b ∧ w.heap[b]? = some (.cells cs e (0, 0)) ∧ P w cs
def VT (e : TypeId) (g : Option Nat) (w : World) (g' : Option Nat) (w' : World) : Prop :=
  w.heap.size ≤ w'.heap.size ∧ (∀ (k : Nat) (cs : Array Value) (t : TypeId) (fr : Nat × Nat), w.heap[k]? = some (.cells cs t fr) → t ≠ e → w'.heap[k]? = w.heap[k]?) ∧ ∀ b, g = some b → g' = some b
theorem VT.refl (e : TypeId) (g : Option Nat) (w : World) : VT e g w g w := ⟨Nat.le_refl _, fun _ _ _ _ _ _ => rfl, fun _ h => h⟩
theorem VT.below {e : TypeId} {g : Option Nat} {w w' : World} (h : Below w.heap.size w w') : VT e g w g w' := ⟨h.size, fun k _ _ _ hk _ => h.block k (Array.getElem?_eq_some_iff.1 hk).1, fun _ h => h⟩
theorem VT.row {e : TypeId} {g g' : Option Nat} {w w' : World} (h : VT e g w g' w') {base t sz n : Nat} {v : Value} {xs : List Value} (ho : w.ownsRow base t sz v n xs) (ht : t ≠ e) : w'.ownsRow base t sz v n xs := by
  refine ⟨ho.1, ?_⟩
  rcases ho.2 with hn | ⟨g, cap, cur, e1, hb, hg, rest⟩
  · exact .inl hn
  · exact .inr ⟨g, cap, cur, e1, hb, (h.2.1 g _ _ _ hg ht).trans hg, rest⟩
section
variable {w1 w w' : World} {e : TypeId} {m : Nat} {P : World → Array Value → Prop} {ia ib : Nat} {L : Nat → Bool} {g : Option Nat}
theorem VS.first (w1 : World) : VS w1 e m P ia ib (fun _ => false) none w1.drew :=
  ⟨Below.drew (Below.refl _ _), fun _ => rfl, (fun h => by cases h), (fun h => by cases h)⟩
theorem VS.quiet (h : VS w1 e m P ia ib L g w) (i : Nat) (h1 : ia ≠ i) (h2 : ib ≠ i) : VS w1 e m P ia ib (updG L i) g w :=
  ⟨h.fr, by rw [updG_ne h1]; exact h.none_, by rw [updG_ne h1]; exact h.some_, by rw [updG_ne h2]; exact h.done⟩
theorem VS.call (hP : ∀ w w' cs, Below w.heap.size w w' → P w cs → P w' cs) (h : VS w1 e m P ia ib L g w) (i : Nat) (h1 : ia ≠ i) (h2 : ib ≠ i) (hb : Below w.heap.size w w') : VS w1 e m P ia ib (updG L i) g w' := by
  refine ⟨h.fr.trans (hb.mono h.fr.size), by rw [updG_ne h1]; exact h.none_, ?_, ?_⟩
  · rw [updG_ne h1]
    intro hl
    obtain ⟨b, cs, e1, e2, e3, e4⟩ := h.some_ hl
    exact ⟨b, cs, e1, e2, (hb.block b (Array.getElem?_eq_some_iff.1 e3).1).trans e3, e4⟩
  · rw [updG_ne h2]
    intro hl
    obtain ⟨b, cs, e1, e2, e3, e4⟩ := h.done hl
    exact ⟨b, cs, e1, e2, (hb.block b (Array.getElem?_eq_some_iff.1 e3).1).trans e3, hP _ _ _ hb e4⟩
theorem VS.alloc (hP : ∀ w w' cs, Below w.heap.size w w' → P w cs → P w' cs) (h : VS w1 e m P ia ib L g w) (hl : L ia = false) (hne : ib ≠ ia) (cs : Array Value) (hcs : cs.size = m) : VS w1 e m P ia ib (updG L ia) (some w.heap.size) (w.alloc (.cells cs e)) ∧ VT e g w (some w.heap.size) (w.alloc (.cells cs e)) := by
  have hb : Below w.heap.size w (w.alloc (.cells cs e)) := (Below.refl _ w).alloc (Nat.le_refl _) _
  have hg := h.none_ hl
  refine ⟨⟨h.fr.trans (hb.mono h.fr.size), (by rw [updG_eq]; intro e; cases e), fun _ => ⟨_, cs, rfl, h.fr.size, heap_alloc_new w _, hcs⟩, ?_⟩, hb.size, (fun k _ _ _ hk _ => hb.block k (Array.getElem?_eq_some_iff.1 hk).1), fun b hb => by rw [hg] at hb; cases hb⟩
  rw [updG_ne hne]
  intro hd
  obtain ⟨b, _, e1, _⟩ := h.done hd
  rw [hg] at e1; cases e1
theorem VS.there (h : VS w1 e m P ia ib L g w) (hl : L ia = true) : ∃ b, g = some b ∧ w.there b 0 m ∧ w1.heap.size ≤ b := by
  obtain ⟨b, cs, e1, e2, e3, e4⟩ := h.some_ hl
  refine ⟨b, e1, fun j hj => ⟨?_, by simp [World.frozen?, e3]⟩, e2⟩
  rw [Nat.zero_add, cell_of_row _ _ _ _ _ _ e3, Array.getElem?_eq_getElem (by omega)]; rfl
theorem VS.store (h : VS w1 e m P ia ib L g w) (hl : L ia = true) (hne : ia ≠ ib) {b : Nat} (hg : g = some b) (us : List Value) (hus : us.length = m) (hP : P (w.setCells b 0 us) us.toArray) : VS w1 e m P ia ib (updG L ib) g (w.setCells b 0 us) ∧ VT e g w g (w.setCells b 0 us) := by
  obtain ⟨b', cs, e1, e2, e3, e4⟩ := h.some_ hl
  rw [hg] at e1
  obtain rfl := Option.some.inj e1
  obtain ⟨cs', h2, h3⟩ := heap_setCells_here b e us w cs 0 e3 (by omega)
  rw [List.take_zero, List.nil_append, List.drop_eq_nil_of_le (by rw [Array.length_toList]; omega), List.append_nil] at h3
  have h4 : cs' = us.toArray := by rw [← h3]
  rw [h4] at h2
  have hbl : ∀ k, k ≠ b → (w.setCells b 0 us).heap[k]? = w.heap[k]? := fun k hk => heap_setCells_other b k hk us 0 w
  obtain ⟨o1, o2, o3⟩ := os_setCells us b 0 w
  refine ⟨⟨⟨o1.trans h.fr.os, o2.trans h.fr.tape, o3.trans h.fr.output, by rw [size_setCells']; exact h.fr.size, fun k hk => (hbl k (by omega)).trans (h.fr.block k hk)⟩, ?_, fun _ => ⟨b, us.toArray, hg, e2, h2, by simp [hus]⟩, fun _ => ⟨b, us.toArray, hg, e2, h2, hP⟩⟩, by rw [size_setCells']; exact Nat.le_refl _, ?_, fun _ h => h⟩
  · rw [updG_ne hne, hl]; intro e; cases e
  · intro k cs2 t fr hk ht
    refine hbl k (fun e5 => ?_)
    subst e5
    rw [e3] at hk
    injection hk with hk
    injection hk with _ hk _
    exact ht hk.symm
end
/-- Another's row stands under the store. -/
theorem VT.store_row {w1 w : World} {e : TypeId} {m : Nat} {P : World → Array Value → Prop} {ia ib : Nat} {L : Nat → Bool} {g : Option Nat} (h : VS w1 e m P ia ib L g w) (hl : L ia = true) {b : Nat} (hg : g = some b) {base t sz n : Nat} {v : Value} {xs : List Value} (ho : w.ownsRow base t sz v n xs) (ht : t ≠ e) (us : List Value) : (w.setCells b 0 us).ownsRow base t sz v n xs := by
  obtain ⟨b', cs, e1, e2, e3, e4⟩ := h.some_ hl
  rw [hg] at e1
  obtain rfl := Option.some.inj e1
  have hne := rk_ne ho e3 (Ne.symm ht)
  refine ⟨ho.1, ?_⟩
  rcases ho.2 with hn | ⟨g, cap, cur, e5, hb, hg, rest⟩
  · exact .inl hn
  · refine .inr ⟨g, cap, cur, e5, hb, ?_, rest⟩
    rw [heap_setCells_other b g (fun e6 => hne (by rw [e5, e6]; rfl)) us 0 w]
    exact hg
/-- A region that loads a row (operation il), makes it anew (ir) and stores it (is) into a cell of block tb, beside what makes memory. -/
structure WS (w3 : World) (tb : Nat) (e : TypeId) (mk : Value → Array Value) (row : Option Nat) (P : World → Value → Prop) (il ir is : Nat) (L : Nat → Bool) (g : Option Value) (w : World) : Prop where
  need : L ir = true → L il = true
  fr : Fx tb row w3 w
  early : L ir = false → g = none ∧ Below w3.heap.size w3 w
  made : ∀ x, g = some x → P w x
  cell0 : L is = false → w.heap[tb]? = w3.heap[tb]?
  cell1 : L is = true → ∃ x, g = some x ∧ w.heap[tb]? = some (.cells (mk x) e)
def WT (tb : Nat) (row : Option Nat) (g : Option Value) (w : World) (g' : Option Value) (w' : World) : Prop := Fx tb row w w' ∧ ∀ x, g = some x → g' = some x ∧ Fx tb none w w'
section
variable {w3 w w' : World} {tb : Nat} {e : TypeId} {mk : Value → Array Value} {row : Option Nat} {P : World → Value → Prop} {il ir is : Nat} {L : Nat → Bool} {g : Option Value}
theorem WT.refl (g : Option Value) (w : World) : WT tb row g w g w := ⟨Fx.refl _ _ _, fun x h => ⟨h, Fx.refl _ _ _⟩⟩
theorem WT.below (h : Below w.heap.size w w') : WT tb row g w g w' := ⟨Fx.below h, fun x hx => ⟨hx, Fx.below h⟩⟩
theorem WS.quiet (h : WS w3 tb e mk row P il ir is L g w) (i : Nat) (h1 : ir ≠ i) (h2 : is ≠ i) : WS w3 tb e mk row P il ir is (updG L i) g w :=
  ⟨fun e => by rw [updG_ne h1] at e; unfold updG; split; rfl; exact h.need e, h.fr, by rw [updG_ne h1]; exact h.early, h.made, by rw [updG_ne h2]; exact h.cell0, by rw [updG_ne h2]; exact h.cell1⟩
theorem WS.call (hP : ∀ w w' x, Fx tb none w w' → P w x → P w' x) (htb : tb < w3.heap.size) (h : WS w3 tb e mk row P il ir is L g w) (i : Nat) (h1 : ir ≠ i) (h2 : is ≠ i) (hb : Below w.heap.size w w') : WS w3 tb e mk row P il ir is (updG L i) g w' := by
  have hcw := hb.block tb (Nat.lt_of_lt_of_le htb h.fr.size)
  refine ⟨fun e => by rw [updG_ne h1] at e; unfold updG; split; rfl; exact h.need e, h.fr.trans (Fx.below hb), ?_, fun x hx => hP _ _ x (Fx.below hb) (h.made x hx), ?_, ?_⟩
  · rw [updG_ne h1]; exact fun hl => ⟨(h.early hl).1, (h.early hl).2.trans (hb.mono h.fr.size)⟩
  · rw [updG_ne h2]; exact fun hl => hcw.trans (h.cell0 hl)
  · rw [updG_ne h2]
    intro hl
    obtain ⟨x, h1, h2⟩ := h.cell1 hl
    exact ⟨x, h1, hcw.trans h2⟩
theorem WS.row_ (htb : tb < w3.heap.size) (hrow : row ≠ some tb) (h : WS w3 tb e mk row P il ir is L g w) (hl : L ir = false) (hd : L il = true) (hne : is ≠ ir) {x : Value} (hb : w.grownBy w' row) (hP : P w' x) : WS w3 tb e mk row P il ir is (updG L ir) (some x) w' ∧ WT tb row g w (some x) w' := by
  have hg := (h.early hl).1
  have hs : L is = false := by
    cases hs : L is with
    | false => rfl
    | true =>
      obtain ⟨y, h1, _⟩ := h.cell1 hs
      rw [hg] at h1; cases h1
  refine ⟨⟨(fun _ => by unfold updG; split; rfl; exact hd), h.fr.trans (Fx.grown hb), (by rw [updG_eq]; intro e; cases e), (fun y hy => by obtain rfl := Option.some.inj hy; exact hP), ?_, ?_⟩, Fx.grown hb, (fun y hy => by rw [hg] at hy; cases hy)⟩
  · rw [updG_ne hne]
    exact fun _ => (hb.block tb (Nat.lt_of_lt_of_le htb h.fr.size) (fun e => hrow e.symm)).trans (h.cell0 hs)
  · rw [updG_ne hne, hs]; intro e; cases e
theorem WS.old (h : WS w3 tb e mk row P il ir is L g w) (hl : L il = false) : Below w3.heap.size w3 w := by
  refine (h.early ?_).2
  cases e : L ir with
  | false => rfl
  | true => rw [h.need e] at hl; cases hl
theorem WS.store (hP : ∀ w w' x, Fx tb none w w' → P w x → P w' x) {k : Nat} {cs : Array Value} (h3 : w3.heap[tb]? = some (.cells cs e)) (hmk : ∀ x, cs.setIfInBounds k x = mk x) (h : WS w3 tb e mk row P il ir is L g w) (hl : L is = false) (hd : L ir = true) (hne : ir ≠ is) {x : Value} (hg : g = some x) : WS w3 tb e mk row P il ir is (updG L is) g (w.setCell ⟨tb, k, none⟩ x) ∧ WT tb row g w g (w.setCell ⟨tb, k, none⟩ x) := by
  have hf : Fx tb none w (w.setCell ⟨tb, k, none⟩ x) := Fx.store w k x
  refine ⟨⟨(fun _ => by unfold updG; split; rfl; exact h.need hd), h.fr.trans hf.wide, (by rw [updG_ne hne, hd]; intro e; cases e), (fun y hy => hP _ _ y hf (h.made y hy)), (by rw [updG_eq]; intro e; cases e), (fun _ => ⟨x, hg, ?_⟩)⟩, hf.wide, (fun y hy => ⟨hy, hf⟩)⟩
  rw [← hmk x]
  exact heap_setCell_same w tb k cs e x ((h.cell0 hl).trans h3)
theorem WS.first (w3 : World) : WS w3 tb e mk row P il ir is (fun _ => false) none w3.drew :=
  ⟨(fun e => by cases e), Fx.below (Below.drew (Below.refl _ _)), (fun _ => ⟨rfl, Below.drew (Below.refl _ _)⟩), (fun x e => by cases e), (fun _ => rfl), (fun e => by cases e)⟩
end
/-- An exchange: its endpoint, its ID, its bytes, how often it was sent again, how long it waits, when its time is up. -/
structure Xq where
  t : Int
  i : Int
  l : List UInt8
  g : Nat
  wt : Int
  u : Int
/-- What is to be sent, or lost. -/
structure SqX where
  t : Int
  i : Int
  l : List UInt8
  lost : Bool
def addT (a b : Int) : Int := min (a + b) 1099511627776
def tellT (now x : Int) : Int := max now (min x 1099511627776)
def waitT (r : Int) : Int := 20 + (max r 0) % 11
theorem waitT_in (r : Int) : 20 ≤ waitT r ∧ waitT r ≤ 30 := by unfold waitT; omega
theorem tellT_in {now x : Int} (h : 0 ≤ now ∧ now ≤ 1099511627776) : 0 ≤ tellT now x ∧ tellT now x ≤ 1099511627776 := by unfold tellT; omega
/-- The first place of the smallest, of the first k. -/
def fmu (ts : List Int) : Nat → Nat
  | 0 => 0
  | k + 1 => if (ts[k]?).getD 0 < (ts[fmu ts k]?).getD 0 then k else fmu ts k
theorem fmu_lt (ts : List Int) : ∀ k, 0 < k → fmu ts k < k
  | 0, h => absurd h (by omega)
  | 1, _ => by
    unfold fmu; split <;> simp [fmu]
  | k + 2, _ => by
    have := fmu_lt ts (k + 1) (by omega)
    unfold fmu; split <;> omega
theorem fmu_one (ts : List Int) : fmu ts 1 = 0 := by unfold fmu; split <;> rfl
theorem fmu_le (ts : List Int) : ∀ k j, j < k → (ts[fmu ts k]?).getD 0 ≤ (ts[j]?).getD 0
  | 0, j, h => absurd h (by omega)
  | k + 1, j, h => by
    unfold fmu
    by_cases hk : j = k
    · subst hk
      split
      · exact Int.le_refl _
      · omega
    · have := fmu_le ts k j (by omega)
      split
      · omega
      · exact this
theorem fmu_first (ts : List Int) : ∀ k j, j < fmu ts k → (ts[fmu ts k]?).getD 0 < (ts[j]?).getD 0
  | 0, j, h => by unfold fmu at h; omega
  | k + 1, j, h => by
    unfold fmu at h ⊢
    split at h
    · rename_i hc
      rw [if_pos hc]
      have := fmu_le ts k j h
      omega
    · rename_i hc
      rw [if_neg hc]
      exact fmu_first ts k j h
def fstQ (qs : List Xq) : Nat := fmu (qs.map Xq.u) qs.length
theorem us_at {qs : List Xq} {k : Nat} {q : Xq} (h : qs[k]? = some q) : ((qs.map Xq.u)[k]?).getD 0 = q.u := by rw [List.getElem?_map, h]; rfl
theorem fstQ_lt {qs : List Xq} (h : 0 < qs.length) : fstQ qs < qs.length := fmu_lt _ _ h
theorem fstQ_le {qs : List Xq} {q : Xq} (h : qs[fstQ qs]? = some q) : ∀ p ∈ qs, q.u ≤ p.u := by
  intro p hp
  obtain ⟨j, hj⟩ := List.mem_iff_getElem?.1 hp
  have := fmu_le (qs.map Xq.u) qs.length j (List.getElem?_eq_some_iff.1 hj).1
  rw [us_at hj] at this
  have h2 := us_at h
  unfold fstQ at h2
  omega
theorem fstQ_first {qs : List Xq} {q : Xq} (h : qs[fstQ qs]? = some q) : ∀ (j : Nat) (p : Xq), j < fstQ qs → qs[j]? = some p → q.u < p.u := by
  intro j p hj hp
  have := fmu_first (qs.map Xq.u) qs.length j hj
  rw [us_at hp] at this
  have h2 := us_at h
  unfold fstQ at h2
  omega
def sentOf (q : Xq) : SqX := ⟨q.t, q.i, q.l, decide (q.g = 4)⟩
def nextX (q : Xq) : Xq := ⟨q.t, q.i, q.l, q.g + 1, q.wt * 2, addT q.u (q.wt * 2)⟩
def stepQ (qs : List Xq) (k : Nat) (q : Xq) : List Xq := if q.g = 4 then qs.eraseIdx k else qs.set k (nextX q)
def pot : List Xq → Nat
  | [] => 0
  | q :: qs => (5 - q.g) + pot qs
def passQ : Nat → List Xq → Int → List SqX × List Xq
  | 0, qs, _ => ([], qs)
  | f + 1, qs, now => match qs[fstQ qs]? with
    | none => ([], qs)
    | some q => if q.u ≤ now then (sentOf q :: (passQ f (stepQ qs (fstQ qs) q) now).1, (passQ f (stepQ qs (fstQ qs) q) now).2) else ([], qs)
def passed (qs : List Xq) (now : Int) : List SqX × List Xq := passQ (pot qs) qs now
/-- Each exchange's numbers are what they may be. -/
def XOk (q : Xq) : Prop := 0 ≤ q.u ∧ q.u ≤ 1099511627776 ∧ q.g ≤ 4 ∧ 0 ≤ q.wt ∧ q.wt ≤ 30 * (2 : Int) ^ q.g
theorem pow_le {g : Nat} (h : g ≤ 4) : (1 : Int) ≤ 2 ^ g ∧ (2 : Int) ^ g ≤ 16 := by
  have : g = 0 ∨ g = 1 ∨ g = 2 ∨ g = 3 ∨ g = 4 := by omega
  rcases this with rfl | rfl | rfl | rfl | rfl <;> decide
theorem XOk.wt_le {q : Xq} (h : XOk q) : q.wt ≤ 480 := by
  obtain ⟨_, _, h3, h4, h5⟩ := h
  have := pow_le h3
  omega
theorem XOk.next {q : Xq} (h : XOk q) (h4 : q.g ≠ 4) : XOk (nextX q) := by
  obtain ⟨h1, h2, h3, h5, h6⟩ := h
  refine ⟨?_, ?_, ?_, ?_, ?_⟩
  · show 0 ≤ addT q.u (q.wt * 2); unfold addT; omega
  · show addT q.u (q.wt * 2) ≤ _; unfold addT; omega
  · show q.g + 1 ≤ 4; omega
  · show 0 ≤ q.wt * 2; omega
  · show q.wt * 2 ≤ 30 * 2 ^ (q.g + 1); rw [Int.pow_succ]; omega
structure XGood (qs : List Xq) : Prop where
  few : qs.length ≤ 4
  ok : ∀ q ∈ qs, XOk q
  one : qs.Pairwise fun a b => ¬ (a.t = b.t ∧ a.i = b.i)
theorem pot_set : ∀ (qs : List Xq) (k : Nat) (q p : Xq), qs[k]? = some q → pot (qs.set k p) + (5 - q.g) = pot qs + (5 - p.g)
  | [], k, q, p, h => by simp at h
  | a :: qs, 0, q, p, h => by
    obtain rfl := Option.some.inj h
    simp only [List.set_cons_zero, pot]; omega
  | a :: qs, k + 1, q, p, h => by
    have := pot_set qs k q p (by simpa using h)
    simp only [List.set_cons_succ, pot]; omega
theorem pot_erase : ∀ (qs : List Xq) (k : Nat) (q : Xq), qs[k]? = some q → pot (qs.eraseIdx k) + (5 - q.g) = pot qs
  | [], k, q, h => by simp at h
  | a :: qs, 0, q, h => by
    obtain rfl := Option.some.inj h
    simp only [List.eraseIdx_cons_zero, pot]; omega
  | a :: qs, k + 1, q, h => by
    have := pot_erase qs k q (by simpa using h)
    simp only [List.eraseIdx_cons_succ, pot]; omega
theorem pot_step {qs : List Xq} {k : Nat} {q : Xq} (h : qs[k]? = some q) (hg : q.g ≤ 4) : pot (stepQ qs k q) < pot qs := by
  unfold stepQ
  split
  · have := pot_erase qs k q h; omega
  · have := pot_set qs k q (nextX q) h
    have e : (nextX q).g = q.g + 1 := rfl
    rw [e] at this; omega
theorem pot_le {qs : List Xq} : pot qs ≤ 5 * qs.length := by
  induction qs with
  | nil => exact Nat.le_refl _
  | cons a qs ih => simp only [pot, List.length_cons]; omega
theorem XGood.step {qs : List Xq} (h : XGood qs) {k : Nat} {q : Xq} (hk : qs[k]? = some q) : XGood (stepQ qs k q) := by
  unfold stepQ
  split
  · exact ⟨Nat.le_trans (List.length_eraseIdx_le _ _) h.few, fun p hp => h.ok p (List.mem_of_mem_eraseIdx hp), h.one.sublist (List.eraseIdx_sublist _ _)⟩
  · rename_i hg
    refine ⟨by rw [List.length_set]; exact h.few, fun p hp => ?_, ?_⟩
    · rcases List.mem_or_eq_of_mem_set hp with hp | rfl
      · exact h.ok p hp
      · exact (h.ok q (List.mem_of_getElem? hk)).next hg
    · have hm : ∀ (xs : List Xq) (k : Nat), xs[k]? = some q → (xs.set k (nextX q)).map (fun a => (a.t, a.i)) = xs.map (fun a => (a.t, a.i)) := by
        intro xs
        induction xs with
        | nil => intro k h; simp at h
        | cons a xs ih =>
          intro k h
          cases k with
          | zero => obtain rfl := Option.some.inj h; rfl
          | succ k => rw [List.set_cons_succ, List.map_cons, List.map_cons, ih k (by simpa using h)]
      have h1 : (qs.map fun a => (a.t, a.i)).Pairwise fun x y => ¬ (x.1 = y.1 ∧ x.2 = y.2) := List.pairwise_map.2 h.one
      rw [← hm qs k hk] at h1
      exact List.pairwise_map.1 h1
theorem pot_nil {qs : List Xq} (hg : ∀ q ∈ qs, q.g ≤ 4) (h : pot qs = 0) : qs = [] := by
  cases qs with
  | nil => rfl
  | cons a qs =>
    have := hg a (List.mem_cons_self ..)
    simp only [pot] at h; omega
theorem passQ_nil (f : Nat) (now : Int) : passQ f [] now = ([], []) := by cases f <;> rfl
theorem step_g {qs : List Xq} {k : Nat} {q : Xq} (hk : qs[k]? = some q) (hg : ∀ q ∈ qs, q.g ≤ 4) : ∀ x ∈ stepQ qs k q, x.g ≤ 4 := by
  intro x hx
  unfold stepQ at hx
  split at hx
  · exact hg x (List.mem_of_mem_eraseIdx hx)
  · rename_i h4
    rcases List.mem_or_eq_of_mem_set hx with hx | rfl
    · exact hg x hx
    · have := hg q (List.mem_of_getElem? hk)
      show q.g + 1 ≤ 4; omega
theorem passQ_any (f : Nat) : ∀ (f' : Nat) (qs : List Xq) (now : Int), (∀ q ∈ qs, q.g ≤ 4) → pot qs ≤ f → pot qs ≤ f' → passQ f qs now = passQ f' qs now := by
  induction f with
  | zero =>
    intro f' qs now hg h _
    obtain rfl := pot_nil hg (by omega)
    rw [passQ_nil, passQ_nil]
  | succ f ih =>
    intro f' qs now hg h h'
    cases f' with
    | zero =>
      obtain rfl := pot_nil hg (by omega)
      rw [passQ_nil, passQ_nil]
    | succ f' =>
      unfold passQ
      cases hq : qs[fstQ qs]? with
      | none => rfl
      | some q =>
        have hst := pot_step hq (hg q (List.mem_of_getElem? hq))
        dsimp only
        rw [ih f' _ now (step_g hq hg) (by omega) (by omega)]
theorem passed_nil (now : Int) : passed [] now = ([], []) := rfl
theorem passed_go {qs : List Xq} {q : Xq} {now : Int} (hg : ∀ q ∈ qs, q.g ≤ 4) (hq : qs[fstQ qs]? = some q) (hu : q.u ≤ now) : passed qs now = (sentOf q :: (passed (stepQ qs (fstQ qs) q) now).1, (passed (stepQ qs (fstQ qs) q) now).2) := by
  have hst := pot_step hq (hg q (List.mem_of_getElem? hq))
  obtain ⟨p, hp⟩ : ∃ p, pot qs = p + 1 := ⟨pot qs - 1, by omega⟩
  unfold passed
  rw [hp]
  conv => lhs; unfold passQ
  rw [hq]
  dsimp only
  rw [if_pos hu, passQ_any p (pot (stepQ qs (fstQ qs) q)) _ now (step_g hq hg) (by omega) (Nat.le_refl _)]
theorem passed_stop {qs : List Xq} {q : Xq} {now : Int} (hq : qs[fstQ qs]? = some q) (hu : ¬ q.u ≤ now) : passed qs now = ([], qs) := by
  unfold passed
  cases h : pot qs with
  | zero => rfl
  | succ p =>
    unfold passQ
    rw [hq]
    dsimp only
    rw [if_neg hu]
theorem XGood.g {qs : List Xq} (h : XGood qs) : ∀ q ∈ qs, q.g ≤ 4 := fun q hq => (h.ok q hq).2.2.1
/-- By the number of steps that are left. -/
theorem pass_ind {C : List Xq → Prop} (now : Int) (h0 : C []) (h1 : ∀ qs q, XGood qs → qs[fstQ qs]? = some q → ¬ q.u ≤ now → C qs)
    (h2 : ∀ qs q, XGood qs → qs[fstQ qs]? = some q → q.u ≤ now → C (stepQ qs (fstQ qs) q) → C qs) : ∀ qs, XGood qs → C qs := by
  have : ∀ n qs, pot qs ≤ n → XGood qs → C qs := by
    intro n
    induction n with
    | zero =>
      intro qs hn hg
      obtain rfl := pot_nil hg.g (by omega)
      exact h0
    | succ n ih =>
      intro qs hn hg
      cases hq : qs[fstQ qs]? with
      | none =>
        have : qs = [] := by
          cases qs with
          | nil => rfl
          | cons a qs =>
            have := fstQ_lt (qs := a :: qs) (by simp)
            rw [List.getElem?_eq_getElem this] at hq; cases hq
        subst this; exact h0
      | some q =>
        have hst := pot_step hq (hg.g q (List.mem_of_getElem? hq))
        by_cases hu : q.u ≤ now
        · exact h2 qs q hg hq hu (ih _ (by omega) (hg.step hq))
        · exact h1 qs q hg hq hu
  exact fun qs hg => this (pot qs) qs (Nat.le_refl _) hg
theorem passed_good {qs : List Xq} (now : Int) (h : XGood qs) : XGood (passed qs now).2 := by
  refine pass_ind (C := fun qs => XGood qs → XGood (passed qs now).2) now (fun h => h) ?_ ?_ qs h h
  · intro qs q hg hq hu _
    rw [passed_stop hq hu]; exact hg
  · intro qs q hg hq hu ih _
    rw [passed_go hg.g hq hu]; exact ih (hg.step hq)
theorem passed_late {qs : List Xq} (now : Int) (h : XGood qs) : ∀ q ∈ (passed qs now).2, now < q.u := by
  refine pass_ind (C := fun qs => ∀ q ∈ (passed qs now).2, now < q.u) now (fun q hq => by cases hq) ?_ ?_ qs h
  · intro qs q hg hq hu p hp
    rw [passed_stop hq hu] at hp
    have := fstQ_le hq p hp
    omega
  · intro qs q hg hq hu ih
    rw [passed_go hg.g hq hu]; exact ih
theorem passed_pot {qs : List Xq} (now : Int) (h : XGood qs) : pot (passed qs now).2 + (passed qs now).1.length ≤ pot qs := by
  refine pass_ind (C := fun qs => pot (passed qs now).2 + (passed qs now).1.length ≤ pot qs) now (Nat.le_refl _) ?_ ?_ qs h
  · intro qs q hg hq hu
    rw [passed_stop hq hu]; exact Nat.le_refl _
  · intro qs q hg hq hu ih
    rw [passed_go hg.g hq hu]
    have := pot_step hq (hg.g q (List.mem_of_getElem? hq))
    show pot (passed (stepQ qs (fstQ qs) q) now).2 + ((passed (stepQ qs (fstQ qs) q) now).1.length + 1) ≤ _
    omega
theorem passed_none {qs : List Xq} {now : Int} (h : ∀ q ∈ qs, now < q.u) : passed qs now = ([], qs) := by
  cases hq : qs[fstQ qs]? with
  | none =>
    have : qs = [] := by
      cases qs with
      | nil => rfl
      | cons a qs =>
        have := fstQ_lt (qs := a :: qs) (by simp)
        rw [List.getElem?_eq_getElem this] at hq; cases hq
    subst this; rfl
  | some q => exact passed_stop hq (by have := h q (List.mem_of_getElem? hq); omega)
/-- Time goes by in two steps as in one. -/
theorem passed_two {qs : List Xq} {m n : Int} (h : XGood qs) (hmn : m ≤ n) : passed qs n = ((passed qs m).1 ++ (passed (passed qs m).2 n).1, (passed (passed qs m).2 n).2) := by
  refine pass_ind (C := fun qs => passed qs n = ((passed qs m).1 ++ (passed (passed qs m).2 n).1, (passed (passed qs m).2 n).2)) m ?_ ?_ ?_ qs h
  · rfl
  · intro qs q hg hq hu
    rw [passed_stop hq hu]; rfl
  · intro qs q hg hq hu ih
    rw [passed_go hg.g hq hu, passed_go hg.g hq (show q.u ≤ n by omega), ih]; rfl
/-- Is there one? -/
def hitX (t i : Int) (q : Xq) : Bool := q.t == t && q.i == i
def startQ (qs : List Xq) (now t i : Int) (l : List UInt8) (r : Int) : List Xq × Int :=
  if qs.any (hitX t i) then (qs, 5) else if 4 ≤ qs.length then (qs, 6) else (qs ++ [⟨t, i, l, 0, waitT r, addT now (waitT r)⟩], 0)
def stopQ (qs : List Xq) (t i : Int) : List Xq := qs.filter fun q => !hitX t i q
theorem XGood.nil : XGood [] := ⟨by decide, (fun q hq => by cases hq), List.Pairwise.nil⟩
theorem XGood.start {qs : List Xq} (h : XGood qs) {now : Int} (hn : 0 ≤ now) (t i : Int) (l : List UInt8) (r : Int) : XGood (startQ qs now t i l r).1 := by
  unfold startQ
  split
  · exact h
  · split
    · exact h
    · rename_i h1 h2
      have hw := waitT_in r
      refine ⟨by simp; omega, fun q hq => ?_, ?_⟩
      · rcases List.mem_append.1 hq with hq | hq
        · exact h.ok q hq
        · obtain rfl := List.mem_singleton.1 hq
          refine ⟨?_, ?_, Nat.zero_le _, (by show 0 ≤ waitT r; omega), ?_⟩
          · show 0 ≤ addT _ _; unfold addT; omega
          · show addT _ _ ≤ _; unfold addT; omega
          · show waitT r ≤ 30 * 2 ^ 0; omega
      · refine List.pairwise_append.2 ⟨h.one, List.pairwise_singleton _ _, fun a ha b hb => ?_⟩
        obtain rfl := List.mem_singleton.1 hb
        rintro ⟨e1, e2⟩
        apply h1
        rw [List.any_eq_true]
        exact ⟨a, ha, by unfold hitX; dsimp only at e1 e2; simp [e1, e2]⟩
theorem XGood.stop {qs : List Xq} (h : XGood qs) (t i : Int) : XGood (stopQ qs t i) :=
  ⟨Nat.le_trans (List.length_filter_le _ _) h.few, fun q hq => h.ok q (List.mem_filter.1 hq).1, h.one.sublist (List.filter_sublist ..)⟩
/-- Of one that is there but once, what is struck is the first. -/
theorem stop_erase : ∀ {qs : List Xq} {t i : Int} {k : Nat} {q : Xq}, (qs.Pairwise fun a b => ¬ (a.t = b.t ∧ a.i = b.i)) → qs[k]? = some q → hitX t i q = true → stopQ qs t i = qs.eraseIdx k
  | [], _, _, k, q, _, h, _ => by simp at h
  | a :: qs, t, i, 0, q, hp, h, hh => by
    obtain rfl := Option.some.inj h
    unfold stopQ
    rw [List.filter_cons_of_neg (by rw [hh]; decide), List.eraseIdx_cons_zero]
    refine List.filter_eq_self.2 fun b hb => ?_
    have := (List.pairwise_cons.1 hp).1 b hb
    unfold hitX at hh ⊢
    rw [Bool.and_eq_true, beq_iff_eq, beq_iff_eq] at hh
    cases hx : (b.t == t && b.i == i) with
    | false => rfl
    | true =>
      rw [Bool.and_eq_true, beq_iff_eq, beq_iff_eq] at hx
      exact absurd ⟨hh.1.trans hx.1.symm, hh.2.trans hx.2.symm⟩ this
  | a :: qs, t, i, k + 1, q, hp, h, hh => by
    have hq : qs[k]? = some q := by simpa using h
    have ha := (List.pairwise_cons.1 hp).1 q (List.mem_of_getElem? hq)
    have hn : hitX t i a = false := by
      unfold hitX at hh ⊢
      rw [Bool.and_eq_true, beq_iff_eq, beq_iff_eq] at hh
      cases hx : (a.t == t && a.i == i) with
      | false => rfl
      | true =>
        rw [Bool.and_eq_true, beq_iff_eq, beq_iff_eq] at hx
        exact absurd ⟨hx.1.trans hh.1.symm, hx.2.trans hh.2.symm⟩ ha
    have ih := stop_erase (List.pairwise_cons.1 hp).2 hq hh
    unfold stopQ at ih ⊢
    rw [List.filter_cons_of_pos (by rw [hn]; rfl), List.eraseIdx_cons_succ, ih]
theorem stop_none {qs : List Xq} {t i : Int} (h : qs.any (hitX t i) = false) : stopQ qs t i = qs :=
  List.filter_eq_self.2 fun b hb => by
    rw [List.any_eq_false] at h
    have := h b hb
    simpa using this
/-- An exchange, and where its bytes lie. -/
structure Xr where
  q : Xq
  A : Option Addr
  n : Nat
  c : Nat
def Xr.vals (s : Xr) : List Value := [.int .i64 s.q.t, .int .i64 s.q.i, .slice s.A s.n s.c, .int .i64 (s.q.g : Int), .int .i64 s.q.wt, .int .i64 s.q.u]
def xrK : RowK Xr 6 where
  vals := Xr.vals
  len := fun _ => rfl
  one := fun s u hu => by
    simp only [Xr.vals, List.mem_cons, List.not_mem_nil, or_false] at hu
    rcases hu with rfl | rfl | rfl | rfl | rfl | rfl <;> rfl
  pos := by decide
/-- The document's, whose cells lie in another order. -/
def Xr.ones (s : Xr) : List Value := [.int .i64 s.q.t, .int .i64 s.q.i, .slice s.A s.n s.c, .int .i64 s.q.u, .int .i64 s.q.wt, .int .i64 (s.q.g : Int)]
def onK : RowK Xr 6 where
  vals := Xr.ones
  len := fun _ => rfl
  one := fun s u hu => by
    simp only [Xr.ones, List.mem_cons, List.not_mem_nil, or_false] at hu
    rcases hu with rfl | rfl | rfl | rfl | rfl | rfl <;> rfl
  pos := by decide
/-- What is to be sent, and where its bytes lie. -/
structure Sr where
  q : SqX
  A : Option Addr
  n : Nat
  c : Nat
def Sr.vals (s : Sr) : List Value := [.int .i64 s.q.t, .int .i64 s.q.i, .slice s.A s.n s.c, .bool s.q.lost]
def srK : RowK Sr 4 where
  vals := Sr.vals
  len := fun _ => rfl
  one := fun s u hu => by
    simp only [Sr.vals, List.mem_cons, List.not_mem_nil, or_false] at hu
    rcases hu with rfl | rfl | rfl | rfl <;> rfl
  pos := by decide
/-- Bytes of the call's own. -/
def Ob (w : World) (B : Nat) (A : Option Addr) (n c : Nat) (l : List UInt8) : Prop := w.ownsRow B 5 1 (.slice A n c) n (U8 l) ∧ (n : Int) ≤ 1099511627776
section
variable {w w' : World} {B B' n c : Nat} {A : Option Addr} {l : List UInt8}
theorem Ob.bs (h : Ob w B A n c l) : Bs w w.heap.size A n l := by
  have hl := h.1.1
  rw [U8_length, Nat.mul_one] at hl
  have hb := h.1
  rw [← hl] at hb ⊢
  obtain ⟨A', c', e, _, hbs⟩ := Bs.of_own hb
  injection e with e _ _
  rw [e]; exact hbs
theorem Ob.below (h : Ob w B A n c l) (hb : Below w.heap.size w w') : Ob w' B A n c l := ⟨rk_below h.1 hb, h.2⟩
theorem Ob.mono (h : Ob w B A n c l) (hb : B' ≤ B) : Ob w B' A n c l := ⟨rk_mono h.1 hb, h.2⟩
theorem Ob.len (h : Ob w B A n c l) : l.length = n := by have := h.1.1; rw [U8_length] at this; omega
end
theorem size_xr : (Try.prog.info? 104).map (·.size) = some 6 := by kernel_rfl
theorem info_xr : (Try.prog.info? 104).map (fun i => (i.zero, i.size, i.bytes)) = some (some (.agg #[.int .i64 0, .int .i64 0, .slice none 0 0, .int .i64 0, .int .i64 0, .int .i64 0]), 6, 64) := by kernel_rfl
theorem zero_xr (w : World) : (zeroValue 104).run Try.prog w = .ok (.agg #[.int .i64 0, .int .i64 0, .slice none 0 0, .int .i64 0, .int .i64 0, .int .i64 0]) w := by kernel_rfl
theorem xr_cells {w : World} {b o : Nat} {s : Xr} (h : w.rangeAt b o (xrK.vals s)) : w.cell? ⟨b, o, none⟩ = some (.int .i64 s.q.t) ∧ w.cell? ⟨b, o + 1, none⟩ = some (.int .i64 s.q.i) ∧ w.cell? ⟨b, o + 2, none⟩ = some (.slice s.A s.n s.c) ∧ w.cell? ⟨b, o + 3, none⟩ = some (.int .i64 (s.q.g : Int)) ∧ w.cell? ⟨b, o + 4, none⟩ = some (.int .i64 s.q.wt) ∧ w.cell? ⟨b, o + 5, none⟩ = some (.int .i64 s.q.u) :=
  ⟨h 0 _ rfl, h 1 _ rfl, h 2 _ rfl, h 3 _ rfl, h 4 _ rfl, h 5 _ rfl⟩
/-- The table at its address; what it has lies from block tb on. -/
structure TbAt (w : World) (tb : Nat) (v : Value) (now : Int) (vs : List Xr) : Prop where
  blk : w.heap[tb]? = some (.cells #[v, .int .i64 now] 98)
  row : w.ownsRow tb 104 6 v vs.length (xrK.all vs)
  each : ∀ s ∈ vs, Ob w tb s.A s.n s.c s.q.l
  good : XGood (vs.map Xr.q)
  nw : 0 ≤ now ∧ now ≤ 1099511627776
section
variable {w w' : World} {tb : Nat} {v : Value} {now : Int} {vs : List Xr}
theorem TbAt.lt (h : TbAt w tb v now vs) : tb < w.heap.size := (Array.getElem?_eq_some_iff.1 h.blk).1
theorem TbAt.below (h : TbAt w tb v now vs) (hb : Below w.heap.size w w') : TbAt w' tb v now vs :=
  ⟨(hb.block tb h.lt).trans h.blk, rk_below h.row hb, fun s hs => (h.each s hs).below hb, h.good, h.nw⟩
theorem TbAt.cell0 (h : TbAt w tb v now vs) : w.cell? ⟨tb, 0, none⟩ = some v := by rw [cell_of_row _ _ _ _ _ _ h.blk]; rfl
theorem TbAt.cell1 (h : TbAt w tb v now vs) : w.cell? ⟨tb, 1, none⟩ = some (.int .i64 now) := by rw [cell_of_row _ _ _ _ _ _ h.blk]; rfl
theorem TbAt.fz (h : TbAt w tb v now vs) (k : Nat) : w.frozen? ⟨tb, k, none⟩ = false := by simp [World.frozen?, h.blk]
theorem TbAt.few (h : TbAt w tb v now vs) : vs.length ≤ 4 := by have := h.good.few; rwa [List.length_map] at this
theorem TbAt.open_ (h : TbAt w tb v now vs) : ∃ A c, v = .slice A vs.length c ∧ vs.length ≤ c ∧ c ≤ maxLen ∧ xrK.At w w.heap.size A vs.length vs ∧ ∀ a, A = some a → ∃ g, a = ⟨g, 0, none⟩ ∧ tb ≤ g := RowK.At.of_own h.row
theorem TbAt.qok (h : TbAt w tb v now vs) {s : Xr} (hs : s ∈ vs) : XOk s.q := h.good.ok s.q (List.mem_map_of_mem hs)
theorem TbAt.row_ne (h : TbAt w tb v now vs) : v.ownBlock ≠ some tb := rk_ne h.row h.blk (by decide)
end
theorem exnew_f (w : World) : Calls Try.prog 18 #[] w fun e w' => e = .returned (.pointer (some ⟨w.heap.size, 0, none⟩)) ∧ TbAt w' w.heap.size (.slice none 0 0) 0 [] ∧ Below w.heap.size w w' ∧ w'.heap.size = w.heap.size + 1 := by
  have hj : TbAt (w.alloc (.cells #[.slice none 0 0, .int .i64 0] 98)) w.heap.size (.slice none 0 0) 0 [] :=
    ⟨heap_alloc_new w _, World.ownsRow_nil _ _ _ _, (fun s hs => by cases hs), XGood.nil, by decide⟩
  have HJ := Lib.hid hj
  clear hj
  go_enter Try.func18, Try.ntmps18
  go_wp2
  go_ret
  exact ⟨rfl, HJ.out, alloc_below _ _, alloc_size _ _⟩
theorem exlater_f (a b : Int) (w : World) (ha : 0 ≤ a ∧ a ≤ 1099511627776) (hb : 0 ≤ b ∧ b ≤ 1099511627776) : Calls Try.prog 53 #[.int .i64 a, .int .i64 b] w fun e w' => e = .returned (.int .i64 (addT a b)) ∧ w' = w := by
  have hm : min (a + b) 1099511627776 = addT a b := rfl
  obtain ⟨a0, a1⟩ := ha
  obtain ⟨b0, b1⟩ := hb
  generalize addT a b = q at *
  go_enter Try.func53, Try.ntmps53
  go_wp2
  go_ret
  exact ⟨rfl, rfl⟩
theorem exlen_f {tb : Nat} {v : Value} {now : Int} {vs : List Xr} {w : World} (h : TbAt w tb v now vs) : Calls Try.prog 28 #[.pointer (some ⟨tb, 0, none⟩)] w fun e w' => e = .returned (.int .i64 (vs.length : Int)) ∧ w' = w := by
  obtain ⟨A, c, rfl, _⟩ := h.open_
  have c0 := h.cell0
  clear h
  generalize vs.length = n at *
  go_enter Try.func28, Try.ntmps28
  go_wp2
  go_ret
  exact ⟨rfl, rfl⟩
/-- Bytes of the call's own stand under what turns a table and its row. -/
theorem Ob.fx {w w' : World} {tb B n c m k : Nat} {A : Option Addr} {l : List UInt8} {v u : Value} {now : Int} {xs : List Value} (h : Ob w B A n c l) (hf : Fx tb v.ownBlock w w') (hb : w.heap[tb]? = some (.cells #[u, .int .i64 now] 98)) (hr : w.ownsRow k 104 6 v m xs) : Ob w' B A n c l :=
  ⟨hf.row_ h.1 (rk_ne h.1 hb (by decide)) (rk_apart h.1 hr (by decide)), h.2⟩
theorem extell_f {tb : Nat} {v : Value} {now : Int} {vs : List Xr} {w : World} (h : TbAt w tb v now vs) (x : Int) : Calls Try.prog 51 #[.pointer (some ⟨tb, 0, none⟩), .int .i64 x] w fun e w' => e = .returned (.tuple #[]) ∧ TbAt w' tb v (tellT now x) vs ∧ Fx tb none w w' := by
  have c1 := h.cell1
  have f1 := h.fz 1
  have hA : TbAt (w.setCell ⟨tb, 1, none⟩ (.int .i64 (tellT now x))) tb v (tellT now x) vs :=
    ⟨heap_setCell_same w tb 1 _ 98 _ h.blk, (Fx.store (tb := tb) w 1 _).row_ h.row h.row_ne (own_no _), (fun s hs => (h.each s hs).fx (v := .slice none 0 0) (Fx.store w 1 _) h.blk (World.ownsRow_nil w tb _ _)), h.good, tellT_in h.nw⟩
  have HB := Lib.hid (And.intro hA (Fx.store (tb := tb) w 1 (.int .i64 (tellT now x))))
  clear hA h
  have hm : max now (min x 1099511627776) = tellT now x := rfl
  generalize tellT now x = q at *
  obtain ⟨y, hy⟩ : ∃ y, min x 1099511627776 = y := ⟨_, rfl⟩
  rw [hy] at hm
  go_enter Try.func51, Try.ntmps51
  go_wp2
  go_end0
  exact ⟨rfl, HB.out.1, HB.out.2⟩
/-- The closure that looks for an exchange. -/
theorem exfind1_f (b1 b2 : Nat) (t i : Int) (s : Xr) (w : World) (h1 : b1 < w.heap.size) (h2 : b2 < w.heap.size) (c1 : w.cell? ⟨b1, 0, none⟩ = some (.int .i64 t)) (c2 : w.cell? ⟨b2, 0, none⟩ = some (.int .i64 i)) :
    Calls Try.prog 81 #[.agg #[.int .i64 s.q.t, .int .i64 s.q.i, .slice s.A s.n s.c, .int .i64 (s.q.g : Int), .int .i64 s.q.wt, .int .i64 s.q.u], .pointer (some ⟨b1, 0, none⟩), .pointer (some ⟨b2, 0, none⟩)] w fun e w' => e = .returned (.bool (hitX t i s.q)) ∧ Below w.heap.size w w' := by
  obtain ⟨⟨qt, qi, ql, qg, qw, qu⟩, A, n, c⟩ := s
  unfold hitX
  dsimp only
  generalize (qg : Int) = gg
  by_cases hf : qt = t
  · have hq : (qt == t) = true := by rw [hf]; exact beq_self_eq_true _
    rw [hq]
    go_enter Try.func81, Try.ntmps81
    go_wp2
    go_ret
    exact ⟨rfl, alloc_below _ _⟩
  · have hq : (qt == t) = false := beq_eq_false_iff_ne.2 hf
    rw [hq]
    go_enter Try.func81, Try.ntmps81
    go_wp2
    go_ret
    exact ⟨rfl, alloc_below _ _⟩
theorem ret_i6 {a b : Int} (h : a = b) : Ending.returned (.int .i64 a) = .returned (.int .i64 b) := by rw [h]
/-- The first place at which a predicate holds, or -1. -/
def idxX (p : Xq → Bool) (qs : List Xq) : Int := match qs.findIdx? p with | some i => (i : Int) | none => -1
theorem idxX_hit {p : Xq → Bool} {qs : List Xq} {k : Nat} {s : Xq} (h : ∀ (j : Nat) (t : Xq), j < k → qs[j]? = some t → p t = false) (hs : qs[k]? = some s) (hp : p s = true) : idxX p qs = k := by
  have : qs.findIdx? p = some k := by
    rw [List.findIdx?_eq_some_iff_getElem]
    obtain ⟨hk, rfl⟩ := List.getElem?_eq_some_iff.1 hs
    exact ⟨hk, hp, fun j hj => by rw [h j _ hj (List.getElem?_eq_getElem (by omega))]; simp⟩
  unfold idxX; rw [this]
theorem idxX_miss {p : Xq → Bool} {qs : List Xq} (h : ∀ (j : Nat) (t : Xq), j < qs.length → qs[j]? = some t → p t = false) : idxX p qs = -1 := by
  have : qs.findIdx? p = none := by
    rw [List.findIdx?_eq_none_iff]
    intro x hx
    obtain ⟨j, hj⟩ := List.mem_iff_getElem?.1 hx
    exact h j x (List.getElem?_eq_some_iff.1 hj).1 hj
  unfold idxX; rw [this]
theorem idxX_cases (p : Xq → Bool) (qs : List Xq) : (idxX p qs = -1 ∧ qs.any p = false) ∨ ∃ (k : Nat) (s : Xq), idxX p qs = k ∧ qs[k]? = some s ∧ p s = true ∧ qs.any p = true := by
  unfold idxX
  cases h : qs.findIdx? p with
  | none =>
    rw [List.findIdx?_eq_none_iff] at h
    exact .inl ⟨rfl, List.any_eq_false.2 fun x hx => by rw [h x hx]; decide⟩
  | some i =>
    rw [List.findIdx?_eq_some_iff_getElem] at h
    obtain ⟨hi, hp, hh⟩ := h
    exact .inr ⟨i, qs[i], rfl, List.getElem?_eq_getElem hi, hp, List.any_eq_true.2 ⟨_, List.getElem_mem hi, hp⟩⟩
set_option maxHeartbeats 2000000 in
theorem exindex_f (b1 b2 : Nat) (t i : Int) (A : Option Addr) (n c : Nat) (vs : List Xr) (w : World) (hsh : xrK.At w w.heap.size A n vs) (hn : (n : Int) ≤ 4) (h1 : b1 < w.heap.size) (h2 : b2 < w.heap.size) (c1 : w.cell? ⟨b1, 0, none⟩ = some (.int .i64 t)) (c2 : w.cell? ⟨b2, 0, none⟩ = some (.int .i64 i)) :
    Calls Try.prog 80 #[.slice A n c, .func (.func 81) #[] #[.pointer (some ⟨b1, 0, none⟩), .pointer (some ⟨b2, 0, none⟩)]] w fun e w' => e = .returned (.int .i64 (idxX (hitX t i) (vs.map Xr.q))) ∧ Below w.heap.size w w' := by
  have HS : Aside _ := hsh
  have HC := Lib.hid (And.intro c1 c2)
  have eg : ∀ args w, (callFunc 81 args).run Try.prog w = .ok (.enter 81 args) w := enters_of Try.func81 (by kernel_rfl) rfl
  clear hsh c1 c2
  go_enter Try.func80, Try.ntmps80
  go_wp2
  go_loopg [5, 8] n (fun gg _ s8 wr => ∃ kk : Nat, kk ≤ n ∧ n - kk ≤ gg ∧ s8 = .int .i64 kk ∧ Aside (Below w.heap.size w wr) ∧ Aside (∀ (j : Nat) (q : Xq), j < kk → (vs.map Xr.q)[j]? = some q → hitX t i q = false))
  case atStart => exact ⟨0, Nat.zero_le _, by omega, rfl, Below.refl _ w, fun j t hj => absurd hj (Nat.not_lt_zero _)⟩
  case round =>
    obtain ⟨kk, hkk, hg, rfl, BW, HA⟩ := hrel
    by_cases hlt : kk < n
    · have hltz : (kk : Int) < (n : Int) := by omega
      have hsr := HS.out.below BW.out
      obtain ⟨b, off, rfl, hb, _⟩ := hsr.place (by omega)
      obtain ⟨s, hs⟩ := hsr.get hlt
      have hr := hsr.range hs
      simp only [xrK, Xr.vals] at hr
      have hcall := fun W (hb : Below wr.heap.size wr W) => exfind1_f b1 b2 t i s W (Nat.lt_of_lt_of_le h1 (Nat.le_trans BW.out.size hb.size)) (Nat.lt_of_lt_of_le h2 (Nat.le_trans BW.out.size hb.size)) (((BW.out.trans (hb.mono BW.out.size)).cell (p := ⟨b1, 0, none⟩) h1).trans HC.out.1) (((BW.out.trans (hb.mono BW.out.size)).cell (p := ⟨b2, 0, none⟩) h2).trans HC.out.2)
      have HS1 : Aside _ := hs
      clear hsr hs
      obtain ⟨q, hq⟩ : ∃ q, hitX t i s.q = q := ⟨_, rfl⟩
      rw [hq] at hcall
      have HQ := Lib.hid hq
      clear hq
      cases q with
      | true =>
        go_wp2_with (first
          | (refine wpList_load_mid rfl 104 (.tmp 14) rfl b (off + kk * 6) rfl [.int .i64 s.q.t, .int .i64 s.q.i, .slice s.A s.n s.c, .int .i64 (s.q.g : Int), .int .i64 s.q.wt, .int .i64 s.q.u] _ hr Try.underlying104 rfl size_xr ?_)
          | (go_at_fn 81; refine (hcall _ (Below.refl _ _)).mono ?_; rintro e w' ⟨rfl, hb'⟩))
        go_ret
        refine ⟨?_, BW.out.trans (hb'.mono BW.out.size)⟩
        exact ret_i6 (idxX_hit HA.out (by rw [List.getElem?_map, HS1.out]; rfl) HQ.out).symm
      | false =>
        go_wp2_with (first
          | (refine wpList_load_mid rfl 104 (.tmp 14) rfl b (off + kk * 6) rfl [.int .i64 s.q.t, .int .i64 s.q.i, .slice s.A s.n s.c, .int .i64 (s.q.g : Int), .int .i64 s.q.wt, .int .i64 s.q.u] _ hr Try.underlying104 rfl size_xr ?_)
          | (go_at_fn 81; refine (hcall _ (Below.refl _ _)).mono ?_; rintro e w' ⟨rfl, hb'⟩))
        go_roundg (n - (kk + 1))
        case measure => omega
        case rel =>
          refine ⟨kk + 1, by omega, by omega, by go_num, BW.out.trans (hb'.mono BW.out.size), (show Aside _ from fun j t hj ht => ?_)⟩
          by_cases e : j = kk
          · subst e
            rw [List.getElem?_map, HS1.out] at ht
            obtain rfl := Option.some.inj ht
            exact HQ.out
          · exact HA.out j t (by omega) ht
    · have hltz : ¬ (kk : Int) < (n : Int) := by omega
      have : kk = n := by omega
      subst this
      go_wp2
      go_ret
      refine ⟨?_, BW.out⟩
      exact ret_i6 (idxX_miss fun j t hj ht => HA.out j t (by rw [List.length_map, HS.out.len] at hj; exact hj) ht).symm
end Go.Proofs.Ytfbddldcbjhmiaa
