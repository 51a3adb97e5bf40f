/-
  An answer is kept.
-/
import Derived.Test.YtdlgemlpbpbhcaaCaPut
import Derived.Test.YtdlgemlpbpbhcaaRelGhost
namespace Go.Proofs.Ytdlgemlpbpbhcaa
open Go.RowKit
set_option linter.unusedVariables false
/-- The list with one more. -/
def keepQ (qs : List Qa) (f i now : Int) (l : List UInt8) : List Qa :=
  let d := qs.filter (fun q => !(q.f == f && q.i == i))
  let k := (d.findIdx? (fun q => decide (clampN now < q.t))).getD d.length
  let r := d.take k ++ ⟨f, i, clampN now, l⟩ :: d.drop k
  if 8 < r.length then r.drop 1 else r
/-- All but the cache and its row of answers is as it was. -/
structure KpT (cb : Nat) (w w' : World) : Prop where
  os : w'.os = w.os
  tape : w'.tape = w.tape
  output : w'.output = w.output
  size : w.heap.size ≤ w'.heap.size
  low : ∀ k, k < cb → w'.heap[k]? = w.heap[k]?
  typ : ∀ (k : Nat) (cs : Array Value) (t : TypeId) (fr : Nat × Nat), w.heap[k]? = some (.cells cs t fr) → t ≠ 44 → t ≠ 48 → w'.heap[k]? = w.heap[k]?
theorem KpT.refl (cb : Nat) (w : World) : KpT cb w w := ⟨rfl, rfl, rfl, Nat.le_refl _, fun _ _ => rfl, fun _ _ _ _ _ _ _ => rfl⟩
theorem KpT.trans {cb : Nat} {w w1 w2 : World} (a : KpT cb w w1) (b : KpT cb w1 w2) : KpT cb w w2 :=
  ⟨b.os.trans a.os, b.tape.trans a.tape, b.output.trans a.output, Nat.le_trans a.size b.size, fun k hk => (b.low k hk).trans (a.low k hk), fun k cs t fr h h1 h2 => by
    have e1 := a.typ k cs t fr h h1 h2
    exact (b.typ k cs t fr (e1.trans h) h1 h2).trans e1⟩
theorem KpT.below {cb : Nat} {w w' : World} (h : Below w.heap.size w w') (hcb : cb ≤ w.heap.size) : KpT cb w w' :=
  ⟨h.os, h.tape, h.output, h.size, fun k hk => h.block k (by omega), fun k cs t fr hk _ _ => h.block k (Array.getElem?_eq_some_iff.1 hk).1⟩
/-- All but one block and a row is as it was. -/
structure Fr (cb : Nat) (row : Option Nat) (w w' : World) : Prop where
  os : w'.os = w.os
  tape : w'.tape = w.tape
  output : w'.output = w.output
  size : w.heap.size ≤ w'.heap.size
  block : ∀ k, k < w.heap.size → k ≠ cb → some k ≠ row → w'.heap[k]? = w.heap[k]?
section
variable {cb : Nat} {row : Option Nat} {w w1 w2 : World}
theorem Fr.refl (cb : Nat) (row : Option Nat) (w : World) : Fr cb row w w := ⟨rfl, rfl, rfl, Nat.le_refl _, fun _ _ _ _ => rfl⟩
theorem Fr.trans (a : Fr cb row w w1) (b : Fr cb row w1 w2) : Fr cb row w w2 :=
  ⟨b.os.trans a.os, b.tape.trans a.tape, b.output.trans a.output, Nat.le_trans a.size b.size, fun k hk h1 h2 => (b.block k (Nat.lt_of_lt_of_le hk a.size) h1 h2).trans (a.block k hk h1 h2)⟩
theorem Fr.wide (a : Fr cb none w w1) : Fr cb row w w1 := ⟨a.os, a.tape, a.output, a.size, fun k hk h1 _ => a.block k hk h1 (by simp)⟩
theorem Fr.below (a : Below w.heap.size w w1) : Fr cb row w w1 := ⟨a.os, a.tape, a.output, a.size, fun k hk _ _ => a.block k hk⟩
theorem Fr.grown (a : w.grownBy w1 row) : Fr cb row w w1 := ⟨a.os, a.tape, a.output, a.size, fun k hk _ h2 => a.block k hk h2⟩
theorem Fr.store (w : World) (x : Value) : Fr cb none w (w.setCell ⟨cb, 0, none⟩ x) :=
  ⟨rfl, rfl, rfl, by simp [World.setCell], fun k _ hk _ => heap_setCell_other w ⟨cb, 0, none⟩ k x (fun e => hk (by first | exact e | exact e.symm))⟩
theorem Fr.row_ {base size n : Nat} {e : TypeId} {v : Value} {xs : List Value} (a : Fr cb row w w1) (h : w.ownsRow base e size v n xs) (h1 : v.ownBlock ≠ some cb) (h2 : v.ownBlock = none ∨ v.ownBlock ≠ row) : w1.ownsRow base e size v n xs := by
  refine ⟨h.1, ?_⟩
  rcases h.2 with hn | ⟨g, cap, cur, rfl, hb, hg, rest⟩
  · exact .inl hn
  · refine .inr ⟨g, cap, cur, rfl, hb, ?_, rest⟩
    rw [a.block g (Array.getElem?_eq_some_iff.1 hg).1 (fun e => h1 (by rw [e]; rfl)) (by simpa [Value.ownBlock] using h2)]
    exact hg
end
/-- The region's conditions: which operation makes the row anew, which one stores it. -/
structure GS (w3 : World) (cb : Nat) (row : Option Nat) (P : World → Value → Prop) (il ir is : Nat) (L : Nat → Bool) (g : Option Value) (w : World) : Prop where
  need : L ir = true → L il = true
  fr : Fr cb row w3 w
  early : L ir = false → g = none ∧ Below w3.heap.size w3 w
  made : ∀ x, g = some x → P w x
  cell0 : L is = false → w.heap[cb]? = w3.heap[cb]?
  cell1 : L is = true → ∃ x, g = some x ∧ w.heap[cb]? = some (.cells #[x] 44)
def GT (cb : Nat) (row : Option Nat) (g : Option Value) (w : World) (g' : Option Value) (w' : World) : Prop := Fr cb row w w' ∧ ∀ x, g = some x → g' = some x ∧ Fr cb none w w'
section
variable {w3 w w' : World} {cb : Nat} {row : Option Nat} {P : World → Value → Prop} {il ir is : Nat} {L : Nat → Bool} {g : Option Value}
theorem GT.refl (g : Option Value) (w : World) : GT cb row g w g w := ⟨Fr.refl _ _ _, fun x h => ⟨h, Fr.refl _ _ _⟩⟩
theorem GT.below (h : Below w.heap.size w w') : GT cb row g w g w' := ⟨Fr.below h, fun x hx => ⟨hx, Fr.below h⟩⟩
theorem updG_other {L : Nat → Bool} {i j : Nat} (h : j ≠ i) : updG L i j = L j := by unfold updG; rw [if_neg h]
theorem updG_same (L : Nat → Bool) (i : Nat) : updG L i i = true := by unfold updG; rw [if_pos rfl]
theorem GS.quiet (h : GS w3 cb row P il ir is L g w) (i : Nat) (h1 : ir ≠ i) (h2 : is ≠ i) : GS w3 cb row P il ir is (updG L i) g w :=
  ⟨fun e => by rw [updG_other h1] at e; unfold updG; split; rfl; exact h.need e, h.fr, by rw [updG_other h1]; exact h.early, h.made, by rw [updG_other h2]; exact h.cell0, by rw [updG_other h2]; exact h.cell1⟩
theorem GS.call (hP : ∀ w w' x, Fr cb none w w' → P w x → P w' x) (hcb : cb < w3.heap.size) (h : GS w3 cb row P il ir is L g w) (i : Nat) (h1 : ir ≠ i) (h2 : is ≠ i) (hb : Below w.heap.size w w') : GS w3 cb row P il ir is (updG L i) g w' := by
  have hcw := hb.block cb (Nat.lt_of_lt_of_le hcb h.fr.size)
  refine ⟨fun e => by rw [updG_other h1] at e; unfold updG; split; rfl; exact h.need e, h.fr.trans (Fr.below hb), ?_, fun x hx => hP _ _ x (Fr.below hb) (h.made x hx), ?_, ?_⟩
  · rw [updG_other h1]; exact fun hl => ⟨(h.early hl).1, (h.early hl).2.trans (hb.mono h.fr.size)⟩
  · rw [updG_other h2]; exact fun hl => hcw.trans (h.cell0 hl)
  · rw [updG_other h2]
    intro hl
    obtain ⟨x, h1, h2⟩ := h.cell1 hl
    exact ⟨x, h1, hcw.trans h2⟩
theorem GS.row_ (hcb : cb < w3.heap.size) (hrow : row ≠ some cb) (h : GS w3 cb row P il ir is L g w) (hl : L ir = false) (hd : L il = true) (hne : is ≠ ir) {x : Value} (hb : w.grownBy w' row) (hP : P w' x) : GS w3 cb row P il ir is (updG L ir) (some x) w' ∧ GT cb row g w (some x) w' := by
  have hg := (h.early hl).1
  have hs : L is = false := by
    cases hs : L is with
    | false => rfl
    | true =>
      obtain ⟨y, h1, _⟩ := h.cell1 hs
      rw [hg] at h1; cases h1
  refine ⟨⟨(fun _ => by unfold updG; split; rfl; exact hd), h.fr.trans (Fr.grown hb), (by rw [updG_same]; intro e; cases e), (fun y hy => by obtain rfl := Option.some.inj hy; exact hP), ?_, ?_⟩, Fr.grown hb, (fun y hy => by rw [hg] at hy; cases hy)⟩
  · rw [updG_other hne]
    exact fun _ => (hb.block cb (Nat.lt_of_lt_of_le hcb h.fr.size) (fun e => hrow e.symm)).trans (h.cell0 hs)
  · rw [updG_other hne, hs]; intro e; cases e
theorem GS.old (h : GS w3 cb row P il ir is L g w) (hl : L il = false) : Below w3.heap.size w3 w := by
  refine (h.early ?_).2
  cases e : L ir with
  | false => rfl
  | true => rw [h.need e] at hl; cases hl
theorem GS.store (hP : ∀ w w' x, Fr cb none w w' → P w x → P w' x) {v : Value} (h3 : w3.heap[cb]? = some (.cells #[v] 44)) (h : GS w3 cb row P il ir is L g w) (hl : L is = false) (hd : L ir = true) (hne : ir ≠ is) {x : Value} (hg : g = some x) : GS w3 cb row P il ir is (updG L is) g (w.setCell ⟨cb, 0, none⟩ x) ∧ GT cb row g w g (w.setCell ⟨cb, 0, none⟩ x) := by
  have hf : Fr cb none w (w.setCell ⟨cb, 0, none⟩ x) := Fr.store w x
  refine ⟨⟨(fun _ => by unfold updG; split; rfl; exact h.need hd), h.fr.trans hf.wide, (by rw [updG_other hne, hd]; intro e; cases e), (fun y hy => hP _ _ y hf (h.made y hy)), (by rw [updG_same]; intro e; cases e), (fun _ => ⟨x, hg, ?_⟩)⟩, hf.wide, (fun y hy => ⟨hy, hf⟩)⟩
  exact heap_setCell_same w cb 0 _ 44 x ((h.cell0 hl).trans h3)
theorem GS.first (hP : True) (w3 : World) (hcb : cb < w3.heap.size) : GS w3 cb row P il ir is (fun _ => false) none w3.drew :=
  ⟨(fun e => by cases e), Fr.below (Below.drew (Below.refl _ _)), (fun _ => ⟨rfl, Below.drew (Below.refl _ _)⟩), (fun x e => by cases e), (fun _ => rfl), (fun e => by cases e)⟩
end
theorem KpT.of_fr {cb : Nat} {w w' : World} {v x : Value} {n : Nat} {xs : List Value} (h : Fr cb v.ownBlock w w') (hc : w.heap[cb]? = some (.cells #[x] 44)) (hr : w.ownsRow (cb + 1) 48 4 v n xs) : KpT cb w w' := by
  have hlt := (Array.getElem?_eq_some_iff.1 hc).1
  refine ⟨h.os, h.tape, h.output, h.size, fun k hk => h.block k (by omega) (by omega) (fun e => ?_), fun k cs t fr hk h1 h2 => h.block k (Array.getElem?_eq_some_iff.1 hk).1 (fun e => ?_) (fun e => ?_)⟩
  · have := (hr.lt k e.symm).1; omega
  · subst e
    rw [hc] at hk
    injection hk with hk
    injection hk with _ hk _
    exact h1 hk.symm
  · rcases hr.2 with ⟨rfl, _⟩ | ⟨g, cap, cur, rfl, _, hg, _⟩
    · simp [Value.ownBlock] at e
    · simp only [Value.ownBlock, Option.some.injEq] at e
      subst e
      rw [hg] at hk
      injection hk with hk
      injection hk with _ hk _
      exact h2 hk.symm
theorem Ka.kpt {cb B : Nat} {w w' : World} {s : An} {q : Qa} (h : Ka w B s q) (hk : KpT cb w w') : Ka w' B s q := by
  refine ⟨h.f, h.i, h.t, ?_, h.max⟩
  refine ⟨h.b.1, ?_⟩
  rcases h.b.2 with hn | ⟨g, cap, cur, e, hb, hg, rest⟩
  · exact .inl hn
  · exact .inr ⟨g, cap, cur, e, hb, (hk.typ g _ _ _ hg (by decide) (by decide)).trans hg, rest⟩
/-- Two lists go along. -/
def All2 (R : An → Qa → Prop) : List An → List Qa → Prop
  | [], [] => True
  | s :: vs, q :: qs => R s q ∧ All2 R vs qs
  | _, _ => False
section
variable {R : An → Qa → Prop}
theorem All2.len : ∀ {vs : List An} {qs : List Qa}, All2 R vs qs → vs.length = qs.length
  | [], [], _ => rfl
  | [], _ :: _, h => h.elim
  | _ :: _, [], h => h.elim
  | _ :: vs, _ :: qs, h => by rw [List.length_cons, List.length_cons, h.2.len]
theorem All2.of : ∀ {vs : List An} {qs : List Qa}, vs.length = qs.length → (∀ (k : Nat) (s : An) (q : Qa), vs[k]? = some s → qs[k]? = some q → R s q) → All2 R vs qs
  | [], [], _, _ => trivial
  | [], _ :: _, h, _ => by simp at h
  | _ :: _, [], h, _ => by simp at h
  | s :: vs, q :: qs, h, he => ⟨he 0 s q rfl rfl, All2.of (by simpa using h) fun k a b ha hb => he (k + 1) a b (by simpa using ha) (by simpa using hb)⟩
theorem All2.at_ : ∀ {vs : List An} {qs : List Qa}, All2 R vs qs → ∀ (k : Nat) (s : An) (q : Qa), vs[k]? = some s → qs[k]? = some q → R s q
  | [], _, _, k, s, q, h, _ => by simp at h
  | _ :: _, [], h, _, _, _, _, _ => h.elim
  | a :: vs, b :: qs, h, 0, s, q, hs, hq => by
    obtain rfl := Option.some.inj hs
    obtain rfl := Option.some.inj hq
    exact h.1
  | a :: vs, b :: qs, h, k + 1, s, q, hs, hq => h.2.at_ k s q (by simpa using hs) (by simpa using hq)
theorem All2.filter {p : An → Bool} {p' : Qa → Bool} (hp : ∀ s q, R s q → p s = p' q) : ∀ {vs : List An} {qs : List Qa}, All2 R vs qs → All2 R (vs.filter p) (qs.filter p')
  | [], [], _ => trivial
  | [], _ :: _, h => h.elim
  | _ :: _, [], h => h.elim
  | s :: vs, q :: qs, h => by
    have e := hp s q h.1
    cases hb : p s with
    | true => rw [List.filter_cons_of_pos hb, List.filter_cons_of_pos (by rw [← e]; exact hb)]; exact ⟨h.1, h.2.filter hp⟩
    | false => rw [List.filter_cons_of_neg (by rw [hb]; decide), List.filter_cons_of_neg (by rw [← e, hb]; decide)]; exact h.2.filter hp
theorem All2.idx {p : An → Bool} {p' : Qa → Bool} (hp : ∀ s q, R s q → p s = p' q) : ∀ {vs : List An} {qs : List Qa}, All2 R vs qs → vs.findIdx? p = qs.findIdx? p'
  | [], [], _ => rfl
  | [], _ :: _, h => h.elim
  | _ :: _, [], h => h.elim
  | s :: vs, q :: qs, h => by rw [List.findIdx?_cons, List.findIdx?_cons, hp s q h.1, h.2.idx hp]
theorem All2.take : ∀ (k : Nat) {vs : List An} {qs : List Qa}, All2 R vs qs → All2 R (vs.take k) (qs.take k)
  | 0, _, _, _ => by rw [List.take_zero, List.take_zero]; trivial
  | k + 1, [], [], _ => trivial
  | k + 1, [], _ :: _, h => h.elim
  | k + 1, _ :: _, [], h => h.elim
  | k + 1, _ :: _, _ :: _, h => ⟨h.1, h.2.take k⟩
theorem All2.drop : ∀ (k : Nat) {vs : List An} {qs : List Qa}, All2 R vs qs → All2 R (vs.drop k) (qs.drop k)
  | 0, _, _, h => h
  | k + 1, [], [], _ => trivial
  | k + 1, [], _ :: _, h => h.elim
  | k + 1, _ :: _, [], h => h.elim
  | k + 1, _ :: _, _ :: _, h => h.2.drop k
theorem All2.append : ∀ {a : List An} {x : List Qa} {b : List An} {y : List Qa}, All2 R a x → All2 R b y → All2 R (a ++ b) (x ++ y)
  | [], [], _, _, _, h => h
  | [], _ :: _, _, _, h, _ => h.elim
  | _ :: _, [], _, _, h, _ => h.elim
  | _ :: _, _ :: _, _, _, h, h2 => ⟨h.1, h.2.append h2⟩
end
end Go.Proofs.Ytdlgemlpbpbhcaa
