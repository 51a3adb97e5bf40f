/-
  A digest that is being made: what lies in memory, and what a copy of bytes into it does.
-/
import Derived.Test.YtiieianbmldnbaaDoorShaMix
namespace Go.Proofs.YtiieianbmldnbaaDoor
open Go.RowKit
set_option maxRecDepth 100000
section
variable {P : Program} (w : World)
theorem run_copy_bs (dT sT ty elem : TypeId) (b o dLen dCap : Nat) {B : Nat} {A : Option Addr} {m c : Nat} {l : List UInt8} (hu : P.underlying dT = some (.slice elem)) (hs : (P.info? elem).map (·.size) = some 1)
    (hb : Bs w B A m l) (ht : w.there b o (min m dLen)) :
    (Builtin.copy_ #[dT, sT] ty #[.slice (some ⟨b, o, none⟩) dLen dCap, .slice A m c]).run P w = .ok (.int .i64 ((min m dLen : Nat) : Int)) (w.setCells b o (U8 (l.take (min m dLen)))) := by
  have hl := hb.len
  by_cases h0 : min m dLen = 0
  · have := run_copy_none (P := P) w dT sT ty elem (some ⟨b, o, none⟩) A dLen dCap m c hu hs h0
    rw [this, h0]; rfl
  · obtain ⟨b', o', rfl, _, hc⟩ := hb.place (by omega)
    have hlen : (U8 (l.take (min m dLen))).length = min m dLen := by rw [U8_length, List.length_take, hl]; omega
    have := run_copy_cells (P := P) w dT sT ty elem b o dLen dCap ⟨b', o', none⟩ m c (U8 (l.take (min m dLen))) hu hs hlen (fun j v hj => by
      rw [U8_get] at hj
      obtain ⟨x, hx, rfl⟩ := Option.map_eq_some_iff.1 hj
      rw [List.getElem?_take] at hx
      split at hx
      · rw [Addr.add_lit]; exact hc j x hx
      · cases hx) (fun j hj => (ht j (by omega)).1) (fun j hj => (ht j (by omega)).2) (U8_one _)
    rw [this, hlen]; rfl
theorem wpList_copy_bs {ops : Array Oper} {rest : List Oper} {o : Oper} {a : Act} {Q : Exit → Act → World → Prop} (hgd : o.guard = none) (d s : Operand) (dT sT : TypeId)
    (ho : o.op = .call { callee := .builtin .copy, args := #[d, s], argTypes := #[dT, sT] }) (elem : TypeId) (hu : P.underlying dT = some (.slice elem)) (hs : (P.info? elem).map (·.size) = some 1)
    (b off dLen dCap : Nat) (hd : a.eval d = .slice (some ⟨b, off, none⟩) dLen dCap) (B : Nat) (A : Option Addr) (m c : Nat) (l : List UInt8) (hx : a.eval s = .slice A m c) (hb : Bs w B A m l) (ht : w.there b off (min m dLen))
    (h : wpList P ops Q rest (a.put o.dst (.int .i64 ((min m dLen : Nat) : Int))) (w.setCells b off (U8 (l.take (min m dLen))))) : wpList P ops Q (o :: rest) a w := by
  refine wpList_plain hgd fun K hK => ?_
  have hrun := run_copy_bs (P := P) w dT sT o.type elem b off dLen dCap (c := c) hu hs hb ht
  unfold Oper.wp execOp
  simp only [ho, resolve, invoke, builtin, Sem.run_bind, Sem.run_pure, Result.andThen_ok, List.map_toArray, List.map_cons, List.map_nil, hd, hx, hrun]
  exact hK _ _ h
end
/-- n blocks mixed in, one behind the other. -/
def compN : Nat → S8 → List UInt8 → S8
  | 0, s, _ => s
  | n + 1, s, l => compN n (mixed s (l.take 64)) (l.drop 64)
def H0 : S8 := ⟨1779033703, 3144134277, 1013904242, 2773480762, 1359893119, 2600822924, 528734635, 1541459225⟩
/-- The words behind all whole blocks of bytes. -/
def stOf (l : List UInt8) : S8 := compN (l.length / 64) H0 l
/-- What came behind the last whole block. -/
def tailOf (l : List UInt8) : List UInt8 := l.drop (64 * (l.length / 64))
theorem compN_snoc (n : Nat) (s : S8) (l : List UInt8) : compN (n + 1) s l = mixed (compN n s l) ((l.drop (64 * n)).take 64) := by
  induction n generalizing s l with
  | zero => simp [compN]
  | succ n ih =>
    rw [compN, ih, compN, List.drop_drop, show 64 + 64 * n = 64 * (n + 1) by omega]
theorem compN_take (n : Nat) (s : S8) (l : List UInt8) (x : List UInt8) (h : 64 * n ≤ l.length) : compN n s (l ++ x) = compN n s l := by
  induction n generalizing s l with
  | zero => rfl
  | succ n ih =>
    rw [compN, compN, List.take_append_of_le_length (by omega), List.drop_append_of_le_length (by omega), ih _ _ (by simp; omega)]
theorem compN_add (n m : Nat) (s : S8) (l : List UInt8) : compN (n + m) s l = compN m (compN n s l) (l.drop (64 * n)) := by
  induction n generalizing s l with
  | zero => simp [compN]
  | succ n ih =>
    rw [show n + 1 + m = (n + m) + 1 by omega, compN, ih, compN, List.drop_drop, show 64 + 64 * n = 64 * (n + 1) by omega]
theorem tail_length (l : List UInt8) : (tailOf l).length = l.length % 64 := by unfold tailOf; rw [List.length_drop]; omega
/-- The 73 cells of a digest that is being made are there, and those of the rest are bytes. -/
def T73 (w : World) (g : Nat) : Prop := w.there g 0 73 ∧ ∀ i, i < 64 → ∃ u : UInt8, w.cell? ⟨g, 8 + i, none⟩ = some (.int .u8 (u.toNat : Int))
theorem t73_len {w : World} {g : Nat} (h : T73 w g) (v : Value) : T73 (w.setCell ⟨g, 72, none⟩ v) g := by
  refine ⟨fun j hj => ?_, fun i hi => ?_⟩
  · obtain ⟨h1, h2⟩ := h.1 j hj
    refine ⟨?_, by rw [World.frozen?_setCell]; exact h2⟩
    by_cases e : (⟨g, 72, none⟩ : Addr) = ⟨g, 0 + j, none⟩
    · rw [← e] at h1 ⊢
      obtain ⟨x, hx⟩ := Option.isSome_iff_exists.1 h1
      rw [World.cell?_setCell_same _ _ _ hx]; rfl
    · rw [World.cell?_setCell_other _ _ _ _ e]; exact h1
  · obtain ⟨u, hu⟩ := h.2 i hi
    exact ⟨u, by rw [World.cell?_setCell_other _ _ _ _ (fun e => by injection e; omega)]; exact hu⟩
theorem t73_below {w w' : World} {g B : Nat} (h : T73 w g) (hb : Below B w w') (hg : g < B) : T73 w' g :=
  ⟨there_below h.1 hb hg, fun i hi => by
    obtain ⟨u, hu⟩ := h.2 i hi
    exact ⟨u, (hb.cell (p := ⟨g, 8 + i, none⟩) hg).trans hu⟩⟩
theorem t73_words {w : World} {g : Nat} (h : T73 w g) (m : S8) : T73 (w.setCells g 0 (W32 m.list)) g :=
  ⟨World.there_setCells h.1 g 0 _, fun i hi => by
    obtain ⟨u, hu⟩ := h.2 i hi
    exact ⟨u, by rw [World.cell?_setCells_out _ _ _ _ _ (fun _ _ => Or.inr (by rw [W32_length, S8.list_length]; show 0 + 8 ≤ 8 + i; omega))]; exact hu⟩⟩
theorem t73_bytes {w : World} {g : Nat} (h : T73 w g) (o : Nat) (_ho : 8 ≤ o) (x : List UInt8) (hx : o + x.length ≤ 72) : T73 (w.setCells g o (U8 x)) g :=
  ⟨World.there_setCells h.1 g o _, fun i hi => by
    by_cases hin : o ≤ 8 + i ∧ 8 + i < o + x.length
    · have hr := World.rangeAt_setCells_same w g o (U8 x) (fun j hj => by
        rw [show o + j = 0 + (o + j) by omega]; exact h.1 (o + j) (by rw [U8_length] at hj; omega))
      obtain ⟨u, hu⟩ := byte_get (l := x) (k := 8 + i - o) (by omega)
      refine ⟨u, ?_⟩
      have := hr (8 + i - o) (.int .u8 (u.toNat : Int)) (by rw [U8_get, hu]; rfl)
      rwa [show o + (8 + i - o) = 8 + i by omega] at this
    · obtain ⟨u, hu⟩ := h.2 i hi
      exact ⟨u, by rw [World.cell?_setCells_out _ _ _ _ _ (fun _ _ => by rw [U8_length]; show 8 + i < o ∨ _ ≤ 8 + i; omega)]; exact hu⟩⟩
/-- A digest of the bytes l that is being made lies in block g. -/
structure HashAt (w : World) (g : Nat) (l : List UInt8) : Prop where
  words : w.rangeAt g 0 (W32 (stOf l).list)
  rest : w.rangeAt g 8 (U8 (tailOf l))
  len : w.cell? ⟨g, 72, none⟩ = some (.int .i64 (l.length : Int))
  there : T73 w g
/-- Bytes that lie in another block than g. -/
def Off (g : Nat) (A : Option Addr) : Prop := ∀ a, A = some a → a.block ≠ g
theorem Bs.keepOff {w w' : World} {B n g : Nat} {A : Option Addr} {l : List UInt8} (h : Bs w B A n l) (ho : Off g A) (hk : ∀ p : Addr, p.block < B → p.block ≠ g → w'.cell? p = w.cell? p) : Bs w' B A n l :=
  ⟨h.len, fun hn => by
    obtain ⟨b, off, e, hb, hc⟩ := h.place hn
    exact ⟨b, off, e, hb, fun k u hu => (hk ⟨b, off + k, none⟩ hb (ho ⟨b, off, none⟩ e)).trans (hc k u hu)⟩⟩
/-- The blocks 0 .. B - 1 but g are as they were. -/
structure Only (B g : Nat) (w w' : World) : Prop where
  os : w'.os = w.os
  tape : w'.tape = w.tape
  output : w'.output = w.output
  size : w.heap.size ≤ w'.heap.size
  block : ∀ k, k < B → k ≠ g → w'.heap[k]? = w.heap[k]?
theorem Only.refl (B g : Nat) (w : World) : Only B g w w := ⟨rfl, rfl, rfl, Nat.le_refl _, fun _ _ _ => rfl⟩
theorem Only.below {B g : Nat} {a b c : World} (h : Only B g a b) (k : Below B b c) : Only B g a c :=
  ⟨k.os.trans h.os, k.tape.trans h.tape, k.output.trans h.output, Nat.le_trans h.size k.size, fun i hi hg => (k.block i hi).trans (h.block i hi hg)⟩
theorem Only.setCell {B g : Nat} {a w : World} (h : Only B g a w) (o : Nat) (v : Value) : Only B g a (w.setCell ⟨g, o, none⟩ v) :=
  ⟨h.os, h.tape, h.output, Nat.le_trans h.size (by simp [World.setCell]), fun i hi hg => (Below.heap_setCell w ⟨g, o, none⟩ v i hg).trans (h.block i hi hg)⟩
theorem Only.setCells {B g : Nat} {a w : World} (h : Only B g a w) (vs : List Value) : ∀ o, Only B g a (w.setCells g o vs) := by
  induction vs generalizing w with
  | nil => intro o; exact h
  | cons v vs ih => intro o; rw [World.setCells]; exact ih (h.setCell o v) (o + 1)
theorem Only.cell {B g : Nat} {w w' : World} (h : Only B g w w') {p : Addr} (hp : p.block < B) (hg : p.block ≠ g) : w'.cell? p = w.cell? p := World.cell?_of_block (w := w) (h.block p.block hp hg)
theorem Only.range {B g b o : Nat} {w w' : World} (h : Only B g w w') {vs : List Value} (hr : w.rangeAt b o vs) (hb : b < B) (hg : b ≠ g) : w'.rangeAt b o vs :=
  fun j v hj => (h.cell (p := ⟨b, o + j, none⟩) hb hg).trans (hr j v hj)
end Go.Proofs.YtiieianbmldnbaaDoor
