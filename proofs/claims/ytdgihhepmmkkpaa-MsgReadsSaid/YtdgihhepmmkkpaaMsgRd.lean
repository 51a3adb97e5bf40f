/-
  The document's Read: what its drawn line (the message that is made) has done so far.
-/
import Derived.Test.YtdgihhepmmkkpaaMsgRead
import Derived.Test.YtdgihhepmmkkpaaRelGhost
namespace Go.Proofs.Ytdgihhepmmkkpaa
open Go.RowKit
set_option maxRecDepth 100000
set_option linter.unusedVariables false
/-- What the line is about: the caller's world, the numbers, the token. -/
structure Dp_ where
  w0 : World
  kd : Int
  cd : Int
  id : Int
  sz : Nat
  tk : List UInt8
structure DS (p : Dp_) (L : Nat → Bool) (g : Option Nat) (w : World) : Prop where
  zm : Zm p.w0 w
  n : L 26 = false → g = none
  l : L 27 = true → L 26 = true ∧ L 24 = true
  y : L 26 = true → ∃ I, g = some I ∧ p.w0.heap.size + 1 ≤ I ∧ (L 27 = false → w.heap[I]? = some (.cells Z6.toArray 26))
    ∧ (L 27 = true → ∃ tA tc, (p.sz ≤ tc ∧ tc ≤ maxLen) ∧ w.heap[I]? = some (.cells #[.int .i64 p.kd, .int .i64 p.cd, .int .i64 p.id, .slice tA p.sz tc, .slice none 0 0, .slice none 0 0] 26) ∧ Bs w w.heap.size tA p.sz p.tk)
def DT (g : Option Nat) (w : World) (g' : Option Nat) (w' : World) : Prop := (∀ I, g = some I → g' = some I) ∧ ∀ (A : Option Addr) (n : Nat) (l : List UInt8), Bs w w.heap.size A n l → Bs w' w'.heap.size A n l
theorem DT.refl (g : Option Nat) (w : World) : DT g w g w := ⟨fun _ h => h, fun _ _ _ h => h⟩
theorem DT.below {g : Option Nat} {w w' : World} (hb : Below w.heap.size w w') : DT g w g w' := ⟨fun _ h => h, fun _ _ _ h => (h.below hb).more hb.size⟩
def DR (p : Dp_) (b off n c x0 k16 x1 x2 x3 s4 o4 c4 : Nat) (g : Option Nat) (i : Nat) (w : World) (v : Value) : Prop :=
  match i with
  | 0 | 6 | 10 | 15 | 20 => v = .slice (some ⟨b, off, none⟩) n c
  | 1 => v = .pointer (some ⟨b, off, none⟩)
  | 2 => v = .int .u8 (x0 : Int)
  | 3 => v = .int .u8 (k16 : Int)
  | 4 => v = .int .i64 (k16 : Int)
  | 5 => v = .int .i64 p.kd
  | 7 => v = .pointer (some ⟨b, off + 1, none⟩)
  | 8 => v = .int .u8 (x1 : Int)
  | 9 => v = .int .i64 p.cd
  | 11 => v = .pointer (some ⟨b, off + 2, none⟩)
  | 12 => v = .int .u8 (x2 : Int)
  | 13 => v = .int .i64 (x2 : Int)
  | 14 => v = .int .i64 ((x2 : Int) * 256)
  | 16 => v = .pointer (some ⟨b, off + 3, none⟩)
  | 17 => v = .int .u8 (x3 : Int)
  | 18 => v = .int .i64 (x3 : Int)
  | 19 => v = .int .i64 p.id
  | 21 => v = .int .i64 (p.sz : Int)
  | 22 => v = .int .i64 (s4 : Int)
  | 23 => v = .slice (some ⟨b, o4, none⟩) p.sz c4
  | 24 => ∃ tA tc, v = .slice tA p.sz tc ∧ (p.sz ≤ tc ∧ tc ≤ maxLen) ∧ Bs w w.heap.size tA p.sz p.tk
  | 25 => ∃ tA tc, v = .agg #[.int .i64 p.kd, .int .i64 p.cd, .int .i64 p.id, .slice tA p.sz tc, .slice none 0 0, .slice none 0 0] ∧ (p.sz ≤ tc ∧ tc ≤ maxLen) ∧ Bs w w.heap.size tA p.sz p.tk
  | 26 => ∃ I, g = some I ∧ v = .pointer (some ⟨I, 0, none⟩)
  | _ => True
theorem DR.grow (p : Dp_) (b off n c x0 k16 x1 x2 x3 s4 o4 c4 : Nat) (i : Nat) (g : Option Nat) (w : World) (g' : Option Nat) (w' : World) (v : Value) (ht : DT g w g' w') (h : DR p b off n c x0 k16 x1 x2 x3 s4 o4 c4 g i w v) : DR p b off n c x0 k16 x1 x2 x3 s4 o4 c4 g' i w' v := by
  unfold DR at h ⊢
  split at h
  all_goals first
    | exact h
    | (obtain ⟨tA, tc, h1, h2, h3⟩ := h; exact ⟨tA, tc, h1, h2, ht.2 _ _ _ h3⟩)
    | (obtain ⟨I, h1, h2⟩ := h; exact ⟨I, ht.1 I h1, h2⟩)
section
variable {p : Dp_} {L : Nat → Bool} {g : Option Nat} {w w' : World}
theorem DS.quiet (h : DS p L g w) (i : Nat) (e26 : updG L i 26 = L 26) (e27 : updG L i 27 = L 27) : DS p (updG L i) g w := by
  have up : ∀ j, L j = true → updG L i j = true := fun j hj => by unfold updG; split; rfl; exact hj
  refine ⟨h.zm, ?_, ?_, ?_⟩
  · rw [e26]; exact h.n
  · rw [e26, e27]; exact fun x => ⟨(h.l x).1, up 24 (h.l x).2⟩
  · rw [e26, e27]; exact h.y
theorem DS.call (h : DS p L g w) (hL : L 24 = false) (hb : Below w.heap.size w w') : DS p (updG L 24) g w' := by
  have l27 : L 27 = false := by
    cases e : L 27 with
    | false => rfl
    | true => have := (h.l e).2; rw [hL] at this; cases this
  refine ⟨h.zm.step hb, h.n, fun e => ?_, fun e => ?_⟩
  · have e' : L 27 = true := e
    rw [l27] at e'; cases e'
  · obtain ⟨I, h1, h2, h3, _⟩ := h.y e
    refine ⟨I, h1, h2, fun _ => ?_, fun e => ?_⟩
    · have hz := h3 l27
      exact (hb.block I (Array.getElem?_eq_some_iff.1 hz).1).trans hz
    · have e' : L 27 = true := e
      rw [l27] at e'; cases e'
theorem DS.made (h : DS p L g w) (hL : L 26 = false) : DS p (updG L 26) (some w.heap.size) (w.alloc (.cells Z6.toArray 26)) := by
  refine ⟨h.zm.step (alloc_below w _), fun e => (by cases e), fun e => ?_, fun _ => ⟨_, rfl, h.zm.size, fun _ => heap_alloc_new w _, fun e => ?_⟩⟩
  · have e' : L 27 = true := e
    have := (h.l e').1
    rw [hL] at this; cases this
  · have e' : L 27 = true := e
    have := (h.l e').1
    rw [hL] at this; cases this
theorem DS.stored (h : DS p L g w) (hL : L 27 = false) (h26 : L 26 = true) (h24 : L 24 = true) {I : Nat} (hg : g = some I) {tA : Option Addr} {tc : Nat} (hc : p.sz ≤ tc ∧ tc ≤ maxLen) (hb : Bs w w.heap.size tA p.sz p.tk) :
    w.there I 0 6 ∧ DS p (updG L 27) g (w.setCells I 0 [.int .i64 p.kd, .int .i64 p.cd, .int .i64 p.id, .slice tA p.sz tc, .slice none 0 0, .slice none 0 0])
      ∧ DT g w g (w.setCells I 0 [.int .i64 p.kd, .int .i64 p.cd, .int .i64 p.id, .slice tA p.sz tc, .slice none 0 0, .slice none 0 0]) := by
  obtain ⟨I', h1, h2, h3, _⟩ := h.y h26
  rw [hg] at h1
  obtain rfl := Option.some.inj h1
  have hz := h3 hL
  have hth : w.there I 0 6 := fun j hj => by
    rw [Nat.zero_add]
    refine ⟨?_, by simp [World.frozen?, hz]⟩
    rw [cell_of_row _ _ _ _ _ _ hz]
    match j, hj with
    | 0, _ | 1, _ | 2, _ | 3, _ | 4, _ | 5, _ => rfl
  have hdt : DT g w g (w.setCells I 0 [.int .i64 p.kd, .int .i64 p.cd, .int .i64 p.id, .slice tA p.sz tc, .slice none 0 0, .slice none 0 0]) := ⟨fun _ h => h, fun A n l hB => by rw [size_setCells_]; exact hB.set_ hz _⟩
  have hlt := (Array.getElem?_eq_some_iff.1 hz).1
  have hne : p.w0.heap.size ≠ I := by omega
  have hblk : (w.setCells I 0 [.int .i64 p.kd, .int .i64 p.cd, .int .i64 p.id, .slice tA p.sz tc, .slice none 0 0, .slice none 0 0]).heap[I]? = some (.cells #[.int .i64 p.kd, .int .i64 p.cd, .int .i64 p.id, .slice tA p.sz tc, .slice none 0 0, .slice none 0 0] 26) := by
    simp only [World.setCells]
    rw [heap_setCell_same _ I 5 _ 26 _ (heap_setCell_same _ I 4 _ 26 _ (heap_setCell_same _ I 3 _ 26 _ (heap_setCell_same _ I 2 _ 26 _ (heap_setCell_same _ I 1 _ 26 _ (heap_setCell_same w I 0 _ 26 _ hz)))))]
    rfl
  refine ⟨hth, ⟨⟨?_, below_setCells h.zm.bel (by omega) _ _, by rw [size_setCells_]; exact h.zm.size, ?_⟩, h.n, fun _ => ⟨h26, h24⟩, fun _ => ⟨I, hg, h2, fun e => (by cases e), fun _ => ⟨tA, tc, hc, hblk, by rw [size_setCells_]; exact hb.set_ hz _⟩⟩⟩, hdt⟩
  · exact World.there_setCells h.zm.there _ _ _
  · simp only [World.setCells]
    rw [Below.heap_setCell _ _ _ _ hne, Below.heap_setCell _ _ _ _ hne, Below.heap_setCell _ _ _ _ hne, Below.heap_setCell _ _ _ _ hne, Below.heap_setCell _ _ _ _ hne, Below.heap_setCell _ _ _ _ hne]
    exact h.zm.blk
theorem DS.first {W1 : World} (h : Zm p.w0 W1) : DS p (fun _ => false) none W1.drew := ⟨h.step (Below.drew (Below.refl _ _)), fun _ => rfl, fun e => (by cases e), fun e => (by cases e)⟩
end
end Go.Proofs.Ytdgihhepmmkkpaa
