/-
  Rows of elements that lie in some cells each: a theory for any kind of element. No program is named here.
-/
import Derived.Test.YtmaeofhgbelciaaBase
import Derived.Laws.OwnMore
import Derived.Lib.SliceRun
import Derived.Laws.Externs
import Derived.Laws.IdiomCopy
import Derived.Deep.RegionLaw
import Derived.Test.YtmaeofhgbelciaaMem
namespace Go.Proofs.Ytmaeofhgbelciaa
open Go.RowKit
set_option maxRecDepth 100000
set_option linter.unusedVariables false
/-- How an element lies: in z cells. -/
structure RowK (α : Type) (z : Nat) where
  vals : α → List Value
  len : ∀ s, (vals s).length = z
  one : ∀ s, ∀ u ∈ vals s, u.oneCell' = true
  pos : 0 < z
section
variable {α : Type} {z : Nat} (K : RowK α z)
def RowK.all (vs : List α) : List Value := vs.flatMap K.vals
theorem RowK.all_nil : K.all [] = [] := rfl
theorem RowK.all_cons (s : α) (vs : List α) : K.all (s :: vs) = K.vals s ++ K.all vs := rfl
theorem RowK.all_append (a b : List α) : K.all (a ++ b) = K.all a ++ K.all b := List.flatMap_append
theorem RowK.all_length (vs : List α) : (K.all vs).length = vs.length * z := by
  induction vs with
  | nil => simp [RowK.all]
  | cons s vs ih => rw [K.all_cons, List.length_append, K.len, ih, List.length_cons, Nat.succ_mul]; omega
theorem RowK.all_get (vs : List α) (i : Nat) (s : α) (j : Nat) (u : Value) (h : vs[i]? = some s) (hj : (K.vals s)[j]? = some u) : (K.all vs)[i * z + j]? = some u := by
  have hjl : j < z := by have := (List.getElem?_eq_some_iff.1 hj).1; rwa [K.len] at this
  induction vs generalizing i with
  | nil => simp at h
  | cons a vs ih =>
    cases i with
    | zero =>
      obtain rfl := Option.some.inj h
      rw [K.all_cons, Nat.zero_mul, Nat.zero_add, List.getElem?_append_left (by rw [K.len]; exact hjl)]
      exact hj
    | succ i =>
      rw [List.getElem?_cons_succ] at h
      rw [K.all_cons, List.getElem?_append_right (by rw [K.len, Nat.succ_mul]; omega), K.len, show (i + 1) * z + j - z = i * z + j by rw [Nat.succ_mul]; omega]
      exact ih i h
theorem RowK.all_one (vs : List α) : ∀ u ∈ K.all vs, u.oneCell' = true := by
  intro u hu
  obtain ⟨s, _, h⟩ := List.mem_flatMap.1 hu
  exact K.one s u h
theorem RowK.all_take (vs : List α) (i : Nat) (hi : i ≤ vs.length) : K.all (vs.take i) = (K.all vs).take (i * z) ∧ K.all (vs.drop i) = (K.all vs).drop (i * z) := by
  have e1 : K.all vs = K.all (vs.take i) ++ K.all (vs.drop i) := by rw [← K.all_append, List.take_append_drop]
  have hl : (K.all (vs.take i)).length = i * z := by rw [K.all_length, List.length_take, Nat.min_eq_left hi]
  exact ⟨by rw [e1, List.take_left' hl], by rw [e1, List.drop_left' hl]⟩
theorem RowK.all_set (vs : List α) (i : Nat) (s : α) (hi : i < vs.length) : (K.all vs).take (i * z) ++ K.vals s ++ (K.all vs).drop (i * z + (K.vals s).length) = K.all (vs.set i s) := by
  rw [List.set_eq_take_append_cons_drop, if_pos hi, K.all_append, K.all_cons, (K.all_take vs i (by omega)).1, (K.all_take vs (i + 1) (by omega)).2, K.len, Nat.succ_mul, List.append_assoc]
/-- One cell of an element turned. -/
theorem RowK.all_put (vs : List α) (i : Nat) (s s' : α) (j : Nat) (u : Value) (h : vs[i]? = some s) (hj : j < z) (hv : K.vals s' = (K.vals s).set j u) : (K.all vs).set (i * z + j) u = K.all (vs.set i s') := by
  induction vs generalizing i with
  | nil => simp at h
  | cons a vs ih =>
    cases i with
    | zero =>
      obtain rfl := Option.some.inj h
      rw [List.set_cons_zero, K.all_cons, K.all_cons, Nat.zero_mul, Nat.zero_add, List.set_append_left _ _ (by rw [K.len]; exact hj), hv]
    | succ i =>
      rw [List.getElem?_cons_succ] at h
      rw [List.set_cons_succ, K.all_cons, K.all_cons, List.set_append_right _ _ (by rw [K.len, Nat.succ_mul]; omega), K.len, show (i + 1) * z + j - z = i * z + j by rw [Nat.succ_mul]; omega, ih i h]
/-- A slice of elements as they lie, all below block B. -/
structure RowK.At (K : RowK α z) (w : World) (B : Nat) (A : Option Addr) (n : Nat) (vs : List α) : Prop where
  len : vs.length = n
  place : 0 < n → ∃ b off, A = some ⟨b, off, none⟩ ∧ b < B ∧ ∀ (i : Nat) (s : α), vs[i]? = some s → w.rangeAt b (off + i * z) (K.vals s)
section
variable {K}
variable {w w' : World} {B B' n : Nat} {A : Option Addr} {vs : List α}
theorem RowK.At.get (h : K.At w B A n vs) {k : Nat} (hk : k < n) : ∃ s, vs[k]? = some s := ⟨_, List.getElem?_eq_getElem (by have := h.len; omega)⟩
theorem RowK.At.nil_ (w : World) (B : Nat) (A : Option Addr) : K.At w B A 0 [] := ⟨rfl, fun h => absurd h (by omega)⟩
theorem RowK.At.keep (h : K.At w B A n vs) (hk : ∀ p : Addr, p.block < B → w'.cell? p = w.cell? p) : K.At w' B A n vs :=
  ⟨h.len, fun hn => by
    obtain ⟨b, off, e, hb, hc⟩ := h.place hn
    exact ⟨b, off, e, hb, fun i s hs j v hj => (hk ⟨b, off + i * z + j, none⟩ hb).trans (hc i s hs j v hj)⟩⟩
theorem RowK.At.below (h : K.At w B A n vs) (hb : Below B w w') : K.At w' B A n vs := h.keep fun _ hp => hb.cell hp
theorem RowK.At.below' (h : K.At w B A n vs) (hb : Below B' w w') (hB : B ≤ B') : K.At w' B A n vs := h.keep fun _ hp => hb.cell (by omega)
theorem RowK.At.more (h : K.At w B A n vs) (hB : B ≤ B') : K.At w B' A n vs :=
  ⟨h.len, fun hn => by
    obtain ⟨b, off, e, hb, hc⟩ := h.place hn
    exact ⟨b, off, e, by omega, hc⟩⟩
theorem RowK.At.range {b off : Nat} (h : K.At w B (some ⟨b, off, none⟩) n vs) {k : Nat} {s : α} (hs : vs[k]? = some s) : w.rangeAt b (off + k * z) (K.vals s) := by
  obtain ⟨b', off', e, _, hc⟩ := h.place (by have := (List.getElem?_eq_some_iff.1 hs).1; have := h.len; omega)
  injection e with e
  injection e with e1 e2
  subst e1 e2
  exact hc k s hs
theorem RowK.own_len {base : Nat} {e : TypeId} {v : Value} (h : w.ownsRow base e z v n (K.all vs)) : vs.length = n := by
  have := h.1
  rw [K.all_length] at this
  exact Nat.eq_of_mul_eq_mul_right K.pos this
theorem RowK.At.of_own {base : Nat} {e : TypeId} {v : Value} (h : w.ownsRow base e z v n (K.all vs)) : ∃ A c, v = .slice A n c ∧ n ≤ c ∧ c ≤ maxLen ∧ K.At w w.heap.size A n vs ∧ ∀ a, A = some a → ∃ g, a = ⟨g, 0, none⟩ ∧ base ≤ g := by
  have hlen := RowK.own_len h
  have h' := h
  rcases h.2 with ⟨rfl, hn⟩ | ⟨g, cap, cur, rfl, hbg, hg, hnc, hcm, hcs, htake⟩
  · subst hn
    have : vs = [] := List.eq_nil_of_length_eq_zero hlen
    subst this
    exact ⟨Option.none, 0, rfl, Nat.le_refl _, Nat.zero_le _, RowK.At.nil_ _ _ _, fun a ha => by cases ha⟩
  · refine ⟨_, cap, rfl, hnc, hcm, ⟨hlen, fun hn => ⟨g, 0, rfl, (Array.getElem?_eq_some_iff.1 hg).1, fun i s hs j u hj => ?_⟩⟩, fun a ha => ⟨g, (Option.some.inj ha).symm, hbg⟩⟩
    have hil := (List.getElem?_eq_some_iff.1 hs).1
    have hj4 : j < z := by have := (List.getElem?_eq_some_iff.1 hj).1; rwa [K.len] at this
    have hm : (i + 1) * z ≤ n * z := Nat.mul_le_mul_right _ (by omega)
    rw [Nat.succ_mul] at hm
    rw [Nat.zero_add, h'.cellAt (i * z + j) (by omega)]
    exact K.all_get vs i s j u hs hj
theorem RowK.At.cut (h : K.At w B A n vs) {lo hi c : Nat} (hlo : lo ≤ hi) (hhi : hi ≤ n) (hc : n ≤ c) {A' : Option Addr} (hA : A' = if c = lo then A else A.map (·.add (lo * z))) : K.At w B A' (hi - lo) ((vs.take hi).drop lo) := by
  refine ⟨by rw [List.length_drop, List.length_take, h.len]; omega, fun hn => ?_⟩
  obtain ⟨b, off, rfl, hb, hcell⟩ := h.place (by omega)
  rw [if_neg (by omega)] at hA
  refine ⟨b, off + lo * z, by rw [hA]; simp [Addr.add], hb, fun i s hs => ?_⟩
  rw [List.getElem?_drop] at hs
  have hl : lo + i < hi := by have := (List.getElem?_eq_some_iff.1 hs).1; rw [List.length_take] at this; omega
  rw [List.getElem?_take_of_lt hl] at hs
  have := hcell _ s hs
  rw [show off + lo * z + i * z = off + (lo + i) * z by rw [Nat.add_mul]; omega]
  exact this
end
end
/-- Rows under later worlds. -/
theorem rk_below {w w' : World} {base size n : Nat} {e : TypeId} {v : Value} {xs : List Value} (h : w.ownsRow base e size v n xs) (hb : Below w.heap.size w w') : w'.ownsRow base e size v n xs := by
  refine ⟨h.1, ?_⟩
  rcases h.2 with h2 | ⟨g, cap, cur, rfl, h3, h4, h5, h6, h7, h8⟩
  · exact .inl h2
  · exact .inr ⟨g, cap, cur, rfl, h3, (hb.block g (Array.getElem?_eq_some_iff.1 h4).1).trans h4, h5, h6, h7, h8⟩
theorem rk_mono {w : World} {base base' size n : Nat} {e : TypeId} {v : Value} {xs : List Value} (h : w.ownsRow base e size v n xs) (hb : base' ≤ base) : w.ownsRow base' e size v n xs :=
  ⟨h.1, h.2.imp id fun ⟨g, cap, cur, h1, h2, h3⟩ => ⟨g, cap, cur, h1, by omega, h3⟩⟩
theorem rk_trans {w w1 w2 : World} {row : Option Nat} (a : w.grownBy w1 row) (b : w1.grownBy w2 row) : w.grownBy w2 row :=
  ⟨b.os.trans a.os, b.tape.trans a.tape, b.output.trans a.output, Nat.le_trans a.size b.size, fun k hk hne => (b.block k (Nat.lt_of_lt_of_le hk a.size) hne).trans (a.block k hk hne)⟩
theorem rk_grown {w w1 : World} (row : Option Nat) (a : Below w.heap.size w w1) : w.grownBy w1 row := ⟨a.os, a.tape, a.output, a.size, fun k hk _ => a.block k hk⟩
theorem rk_puts {base : Nat} {e : TypeId} {sz g N cap : Nat} : ∀ (ys : List Value) (w : World) (xs : List Value) (o : Nat), w.ownsRow base e sz (.slice (some ⟨g, 0, none⟩) N cap) N xs → o + ys.length ≤ xs.length →
    (w.setCells g o ys).ownsRow base e sz (.slice (some ⟨g, 0, none⟩) N cap) N (xs.take o ++ ys ++ xs.drop (o + ys.length)) ∧ w.grownBy (w.setCells g o ys) (some g)
  | [], w, xs, o, h, _ => by
    refine ⟨?_, World.grownBy.refl w _⟩
    rw [World.setCells, List.append_nil, List.length_nil, Nat.add_zero, List.take_append_drop]; exact h
  | y :: ys, w, xs, o, h, ho => by
    rw [List.length_cons] at ho
    obtain ⟨a, b⟩ := h.stored o y
    obtain ⟨c, d⟩ := rk_puts ys _ (xs.set o y) (o + 1) a (by rw [List.length_set]; omega)
    rw [World.setCells]
    refine ⟨?_, rk_trans b d⟩
    have e1 : (xs.set o y).take (o + 1) = xs.take o ++ [y] := by
      rw [List.take_add_one, List.take_set, List.set_eq_of_length_le (by rw [List.length_take]; omega), List.getElem?_set_self (by omega)]; rfl
    rw [e1, List.drop_set_of_lt (by omega)] at c
    rw [List.length_cons, show o + (ys.length + 1) = o + 1 + ys.length by omega]
    simpa using c
theorem rk_setCells (w : World) (g : Nat) (vs : List Value) : ∀ o, w.grownBy (w.setCells g o vs) (some g) := by
  induction vs generalizing w with
  | nil => intro o; exact World.grownBy.refl w _
  | cons v vs ih =>
    intro o
    rw [World.setCells]
    have a : w.grownBy (w.setCell ⟨g, o, none⟩ v) (some g) := ⟨rfl, rfl, rfl, by simp [World.setCell], fun k _ hk => heap_setCell_other w ⟨g, o, none⟩ k v (fun e => hk (by simp [e]))⟩
    exact rk_trans a (ih _ _)
theorem rk_behind {w : World} {base : Nat} {e : TypeId} {g n cap sz : Nat} {xs : List Value} (h : w.ownsRow base e sz (.slice (some ⟨g, 0, none⟩) n cap) n xs) (us : List Value) : ∀ o, n * sz ≤ o → (w.setCells g o us).ownsRow base e sz (.slice (some ⟨g, 0, none⟩) n cap) n xs := by
  induction us generalizing w with
  | nil => intro o _; exact h
  | cons u us ih =>
    intro o ho
    rw [World.setCells]
    refine ih ?_ (o + 1) (by omega)
    have := (h.stored o u).1
    rw [List.set_eq_of_length_le (by rw [h.1]; exact ho)] at this
    exact this
theorem rk_add (b o j : Nat) : (⟨b, o, none⟩ : Addr).add j = ⟨b, o + j, none⟩ := by unfold Addr.add; split <;> simp_all
theorem rk_ne {w : World} {base size n k : Nat} {e t : TypeId} {v : Value} {xs : List Value} {cs : Array Value} {fr : Nat × Nat} (h : w.ownsRow base e size v n xs) (hk : w.heap[k]? = some (.cells cs t fr)) (ht : t ≠ e) : v.ownBlock ≠ some k := by
  intro e1
  rcases h.2 with ⟨rfl, _⟩ | ⟨g, cap, cur, rfl, _, hg, _⟩
  · simp [Value.ownBlock] at e1
  · simp only [Value.ownBlock, Option.some.injEq] at e1
    subst e1
    rw [hg] at hk
    injection hk with hk
    injection hk with _ hk _
    exact ht hk.symm
theorem rk_apart {w : World} {base base' sz sz' n n' : Nat} {e e' : TypeId} {v v' : Value} {xs xs' : List Value} (h : w.ownsRow base e sz v n xs) (h' : w.ownsRow base' e' sz' v' n' xs') (he : e ≠ e') : v.ownBlock = none ∨ v.ownBlock ≠ v'.ownBlock := by
  cases hv : v.ownBlock with
  | none => exact .inl rfl
  | some k =>
    refine .inr fun e1 => ?_
    rcases h.2 with ⟨rfl, _⟩ | ⟨g, cap, cur, rfl, _, hg, _⟩
    · simp [Value.ownBlock] at hv
    · simp only [Value.ownBlock, Option.some.injEq] at hv
      subst hv
      exact rk_ne h' hg he e1.symm
theorem rk_in {w wr w1 : World} {v : Value} {base n : Nat} {e : TypeId} {xs : List Value} {sz : Nat} (h : Below w.heap.size w wr) (ho : wr.ownsRow base e sz v n xs) (hb : w.heap.size ≤ base) (hg : wr.grownBy w1 v.ownBlock) : Below w.heap.size w w1 :=
  h.grown hg h.size (fun g e => by have := (ho.lt g e).1; omega)
theorem rk_in' {w wr w1 : World} {v : Value} {B n : Nat} {e : TypeId} {xs : List Value} {sz : Nat} (h : Below B w wr) (ho : wr.ownsRow B e sz v n xs) (hg : wr.grownBy w1 v.ownBlock) (hs : B ≤ wr.heap.size := by omega) : Below B w w1 :=
  h.grown hg hs (fun g e => (ho.lt g e).1)
section
variable {α : Type} {z : Nat} {K : RowK α z} {w : World} {base : Nat} {e : TypeId} {g n cap : Nat} {X : List α}
/-- An element of a row written over. -/
theorem RowK.own_set (h : w.ownsRow base e z (.slice (some ⟨g, 0, none⟩) n cap) n (K.all X)) (i : Nat) (s : α) (hi : i < n) :
    (w.setCells g (i * z) (K.vals s)).ownsRow base e z (.slice (some ⟨g, 0, none⟩) n cap) n (K.all (X.set i s)) ∧ w.grownBy (w.setCells g (i * z) (K.vals s)) (some g) := by
  have hl := RowK.own_len h
  have hm : (i + 1) * z ≤ X.length * z := Nat.mul_le_mul_right _ (by omega)
  rw [Nat.succ_mul] at hm
  have hp := rk_puts (K.vals s) w (K.all X) (i * z) h (by rw [K.all_length, K.len]; omega)
  rw [K.all_set X i s (by omega)] at hp
  exact hp
/-- A cell of an element written over. -/
theorem RowK.own_put (h : w.ownsRow base e z (.slice (some ⟨g, 0, none⟩) n cap) n (K.all X)) (i : Nat) (s s' : α) (j : Nat) (u : Value) (hs : X[i]? = some s) (hj : j < z) (hv : K.vals s' = (K.vals s).set j u) :
    (w.setCell ⟨g, i * z + j, none⟩ u).ownsRow base e z (.slice (some ⟨g, 0, none⟩) n cap) n (K.all (X.set i s')) ∧ w.grownBy (w.setCell ⟨g, i * z + j, none⟩ u) (some g) := by
  have hp := h.stored (i * z + j) u
  rw [K.all_put X i s s' j u hs hj hv] at hp
  exact hp
theorem RowK.own_there (h : w.ownsRow base e z (.slice (some ⟨g, 0, none⟩) n cap) n (K.all X)) (i k : Nat) (hi : i + k ≤ n * z) : w.there g i k := by
  intro j hj
  refine ⟨?_, h.frozenAt _⟩
  rw [h.cellAt (i + j) (by omega)]
  rw [List.getElem?_eq_getElem (by rw [h.1]; omega)]
  rfl
theorem RowK.own_cut (h : w.ownsRow base e z (.slice (some ⟨g, 0, none⟩) n cap) n (K.all X)) (i : Nat) (hi : i ≤ n) : w.ownsRow base e z (.slice (some ⟨g, 0, none⟩) i cap) i (K.all (X.take i)) := by
  have hl := RowK.own_len h
  rcases h.2 with ⟨h', _⟩ | ⟨g', cap', cur, h', hb, hg, hnc, hcm, hcs, htake⟩
  · simp at h'
  · simp only [Value.slice.injEq, Option.some.injEq, Addr.mk.injEq, and_true, true_and] at h'
    obtain ⟨rfl, rfl⟩ := h'
    refine ⟨by rw [K.all_length, List.length_take, Nat.min_eq_left (by omega)], .inr ⟨g, cap, cur, rfl, hb, hg, by omega, hcm, hcs, ?_⟩⟩
    rw [(K.all_take X i (by omega)).1, ← htake, List.take_take, Nat.min_eq_left (Nat.mul_le_mul_right _ hi)]
theorem RowK.own_cap (h : w.ownsRow base e z (.slice (some ⟨g, 0, none⟩) n cap) n (K.all X)) : n ≤ cap ∧ cap ≤ maxLen := by
  rcases h.2 with ⟨h', _⟩ | ⟨g', cap', cur, h', hb, hg, hnc, hcm, hcs, htake⟩
  · simp at h'
  · simp only [Value.slice.injEq, Option.some.injEq, Addr.mk.injEq, and_true, true_and] at h'
    obtain ⟨rfl, rfl⟩ := h'
    exact ⟨hnc, hcm⟩
/-- A new block holds the element. -/
theorem RowK.lit_new (K : RowK α z) (w : World) (e : TypeId) (fr : Nat × Nat) (cs : Array Value) (s : α) (hcs : cs.toList = K.vals s) : ∀ j u, (K.vals s)[j]? = some u → (w.alloc (.cells cs e fr)).cell? ((⟨w.heap.size, 0, none⟩ : Addr).add j) = some u := by
  intro j u hu
  rw [rk_add, cell_of_row _ _ _ _ _ _ (heap_alloc_new w _), Nat.zero_add, ← Array.getElem?_toList, hcs]
  exact hu
theorem rk_size (w : World) (o : Obj) : (w.alloc o).heap.size = w.heap.size + 1 := Array.size_push ..
theorem rk_new (w : World) (o : Obj) : Below w.heap.size w (w.alloc o) := (Below.refl _ w).alloc (Nat.le_refl _) o
theorem rk_empty (w : World) (B : Nat) (hB : B ≤ w.heap.size) (e : TypeId) (size : Nat) : (w.alloc (.cells #[] e)).ownsRow B e size (.slice (some ⟨w.heap.size, 0, none⟩) 0 0) 0 [] :=
  World.ownsRow_made (base := B) (e := e) (size := size) w #[] 0 hB (Nat.zero_le _) (by simp)
end
section
variable {α : Type} {z : Nat} (K : RowK α z) {P : Program} (w : World)
/-- 'append(s, x)': one element, that lies in a block of its own, appended to the call's own row. -/
theorem RowK.append_one {ops : Array Oper} {rest : List Oper} {o : Oper} {a : Act} {Q : Exit → Act → World → Prop} (hgd : o.guard = none) (s y : Operand) (t : TypeId)
    (ho : o.op = .call { callee := .builtin .append, args := #[s, y], argTypes := #[t, t] })
    (base : Nat) (e : TypeId) (i : TypeInfo) (zv : Value) (bytes : Nat) (ht : P.underlying t = some (.slice e)) (hi : P.info? e = some i) (hz : i.zero = some zv)
    (hsize : i.size = z) (hby : i.bytes = bytes) (hzs : zv.cells.size = z) (v : Value) (n : Nat) (X : List α) (hs : a.eval s = v) (hown : w.ownsRow base e z v n (K.all X))
    (x : α) (cs : Array Value) (hcs : cs.toList = K.vals x) (fr : Nat × Nat) (hy : a.eval y = .slice (some ⟨w.heap.size, 0, none⟩) 1 1) (hX : (n + 1) * bytes ≤ 140737488355328) (hX2 : n + 1 ≤ maxLen) (hbase : base ≤ w.heap.size)
    (h : ∀ A' c' w', w'.ownsRow base e z (.slice A' (n + 1) c') (n + 1) (K.all (X ++ [x])) → (w.alloc (.cells cs e fr)).grownBy w' v.ownBlock → wpList P ops Q rest (a.put o.dst (.slice A' (n + 1) c')) w') :
    wpList P ops Q (o :: rest) a (w.alloc (.cells cs e fr)) := by
  refine wpList_append_own _ hgd s y t ho base e i zv z bytes ht hi hz hsize hby hzs K.pos v n (K.all X) hs (hown.alloc _) ⟨w.heap.size, 0, none⟩ 1 1 (K.vals x) hy (by rw [K.len, Nat.one_mul]) (K.lit_new w e fr cs x hcs) (K.one x) hX2 hX (by rw [rk_size]; omega) ?_
  intro v' w' h2 h3 _
  have h4 : w'.ownsRow base e z v' (n + 1) (K.all (X ++ [x])) := by
    rw [K.all_append]
    have e1 : K.all [x] = K.vals x := List.append_nil _
    rw [e1]; exact h2
  obtain ⟨A', c', rfl, _⟩ := RowK.At.of_own h4
  exact h A' c' w' h4 h3
theorem rk_clear (t e ty : TypeId) (cs : Array Value) (ht : P.underlying t = some (.slice e)) (hv : ∀ w, (zeroValue e).run P w = .ok (.agg cs) w) (hcs : cs.size = z) (hone : ∀ i, i < z → (cs.getD i undef).oneCell' = true) (hz : 0 < z) (b o n c : Nat) (hn : 0 < n)
    (hth : w.there b o (n * z)) : ∃ us, (Builtin.clear_ #[t] ty #[.slice (some ⟨b, o, none⟩) n c]).run P w = .ok (.tuple #[]) (w.setCells b o us) := by
  have hcc : (Value.agg cs).cells = cs := rfl
  have hone : ∀ v ∈ (Builtin.zeroCells cs n).toList, v.oneCell' = true := by
    intro v hv'
    simp only [Builtin.zeroCells, Array.toList_map, List.mem_map] at hv'
    obtain ⟨i, _, rfl⟩ := hv'
    have h1 : i % cs.size < cs.size := Nat.mod_lt _ (by omega)
    have := hone (i % cs.size) (by omega)
    rw [Array.getD_eq_getD_getElem?, Array.getElem?_eq_getElem h1] at this
    rw [getElem!_pos cs _ h1]
    exact this
  have hlen : (Builtin.zeroCells cs n).toList.length = n * z := by rw [Array.length_toList, size_zeroCells, hcs]
  have hst := run_storeCells_cells (P := P) b o (Builtin.zeroCells cs n).toList 0 w (fun j hj => by rw [hlen] at hj; exact (hth j hj).1) (fun j hj => by rw [hlen] at hj; exact (hth j hj).2) hone
  simp only [Nat.add_zero] at hst
  refine ⟨(Builtin.zeroCells cs n).toList, ?_⟩
  obtain ⟨m, rfl⟩ : ∃ m, n = m + 1 := ⟨n - 1, by omega⟩
  simp [Builtin.clear_, run_underlying ht, hv, hcc, hst]
theorem rk_wpList_clear {ops : Array Oper} {rest : List Oper} {o : Oper} {a : Act} {Q : Exit → Act → World → Prop} (hgd : o.guard = none) (s : Operand) (t : TypeId)
    (ho : o.op = .call { callee := .builtin .clear, args := #[s], argTypes := #[t] }) (b o' n c : Nat) (hs : a.eval s = .slice (some ⟨b, o', none⟩) n c)
    (hr : ∀ ty, ∃ us, (Builtin.clear_ #[t] ty #[.slice (some ⟨b, o', none⟩) n c]).run P w = .ok (.tuple #[]) (w.setCells b o' us)) (h : ∀ us, wpList P ops Q rest (a.put o.dst (.tuple #[])) (w.setCells b o' us)) : wpList P ops Q (o :: rest) a w :=
  wpList_plain hgd fun _ hK => by
    obtain ⟨us, hr⟩ := hr o.type
    unfold Oper.wp execOp
    simp only [ho, resolve, invoke, builtin, Sem.run_bind, Sem.run_pure, Result.andThen_ok, List.map_toArray, List.map_cons, List.map_nil, hs, hr]
    exact hK _ _ (h us)
end
section
variable {P : Program} (w : World)
/-- What an append answers: the same block, or a new one. -/
theorem run_append_from (base : Nat) (t ty e : TypeId) (i : TypeInfo) (zv : Value) (size bytes : Nat) (ht : P.underlying t = some (.slice e)) (hi : P.info? e = some i) (hz : i.zero = some zv)
    (hsize : i.size = size) (hby : i.bytes = bytes) (hzs : zv.cells.size = size) (hsz : 0 < size) (v : Value) (n : Nat) (xs : List Value) (hown : w.ownsRow base e size v n xs)
    (ad : Addr) (m c : Nat) (news : List Value) (hl : news.length = m * size) (hnews : ∀ j u, news[j]? = some u → w.cell? (ad.add j) = some u) (h1 : ∀ u ∈ news, u.oneCell' = true)
    (h63 : n + m ≤ maxLen) (hbytes : (n + m) * bytes ≤ 140737488355328) (hbase : base ≤ w.heap.size) :
    ∃ v' w', (Builtin.append_ #[t, t] ty #[v, .slice (some ad) m c]).run P w = .ok v' w' ∧ w'.ownsRow base e size v' (n + m) (xs ++ news) ∧ w.grownBy w' v.ownBlock ∧ ∀ k, v'.ownBlock = some k → v.ownBlock = some k ∨ w.heap.size ≤ k := by
  obtain ⟨v', w', hr, ho, hg, _⟩ := run_append_own (P := P) w base t ty e i zv size bytes ht hi hz hsize hby hzs hsz v n xs hown ad m c news hl hnews h1 h63 hbytes hbase
  refine ⟨v', w', hr, ho, hg, fun k hk => ?_⟩
  rcases hown.2 with ⟨hv, hn0⟩ | ⟨g, cap, cur, hv, hbg, hgg, hnc, hcm, hcs, htake⟩
  · obtain ⟨v2, w2, hr2, ho2, _⟩ := run_append_own (P := P) w w.heap.size t ty e i zv size bytes ht hi hz hsize hby hzs hsz v n xs ⟨hown.1, .inl ⟨hv, hn0⟩⟩ ad m c news hl hnews h1 h63 hbytes (Nat.le_refl _)
    rw [hr] at hr2
    injection hr2 with e1 e2
    subst e1 e2
    exact .inr (ho2.lt k hk).1
  · subst hv
    by_cases hroom : n + m ≤ cap
    · obtain ⟨w2, hr2, _⟩ := run_append_fits (P := P) w base t ty e i size ht hi hsize g n cap xs hown ad m c news hl hnews h1 hroom
      rw [hr] at hr2
      injection hr2 with e1 e2
      subst e1
      exact .inl hk
    · have holds : ∀ j u, xs[j]? = some u → w.cell? ((⟨g, 0, none⟩ : Addr).add j) = some u := hown.cells (g := g) rfl
      subst hsize hby
      have hr2 := run_append_grow (P := P) w t ty e i zv ht hi hz ⟨g, 0, none⟩ n cap xs hown.1 holds ad m c news hl hnews (by omega) (by unfold maxLen at h63; omega) (growslice_fits (by omega) hbytes)
      rw [hr] at hr2
      injection hr2 with e1 e2
      subst e1
      exact .inr (by simp only [Value.ownBlock, Option.some.injEq] at hk; omega)
theorem wp_append_from {o : Oper} {a : Act} {K : Act → World → Prop} {Q : Exit → Act → World → Prop} (s x : Operand) (t : TypeId)
    (ho : o.op = .call { callee := .builtin .append, args := #[s, x], argTypes := #[t, t] })
    (base : Nat) (e : TypeId) (i : TypeInfo) (zv : Value) (size bytes : Nat) (ht : P.underlying t = some (.slice e)) (hi : P.info? e = some i) (hz : i.zero = some zv)
    (hsize : i.size = size) (hby : i.bytes = bytes) (hzs : zv.cells.size = size) (hsz : 0 < size) (v : Value) (n : Nat) (xs : List Value) (hs : a.eval s = v) (hown : w.ownsRow base e size v n xs)
    (ad : Addr) (m c : Nat) (news : List Value) (hx : a.eval x = .slice (some ad) m c) (hl : news.length = m * size) (hnews : ∀ j u, news[j]? = some u → w.cell? (ad.add j) = some u) (h1 : ∀ u ∈ news, u.oneCell' = true)
    (h63 : n + m ≤ maxLen) (hbytes : (n + m) * bytes ≤ 140737488355328) (hbase : base ≤ w.heap.size)
    (h : ∀ v' w', w'.ownsRow base e size v' (n + m) (xs ++ news) → w.grownBy w' v.ownBlock → (∀ k, v'.ownBlock = some k → v.ownBlock = some k ∨ w.heap.size ≤ k) → K (a.put o.dst v') w') : o.wp P a w K Q := by
  obtain ⟨v', w', hr, h2, h3, h4⟩ := run_append_from (P := P) w base t o.type e i zv size bytes ht hi hz hsize hby hzs hsz v n xs hown ad m c news hl hnews h1 h63 hbytes hbase
  unfold Oper.wp execOp
  simp only [ho, resolve, invoke, builtin, Sem.run_bind, Sem.run_pure, Result.andThen_ok, List.map_toArray, List.map_cons, List.map_nil, hs, hx, hr]
  exact h v' w' h2 h3 h4
end
end Go.Proofs.Ytmaeofhgbelciaa
