/-
  What a step leaves alone: all but the journal and its flash.
-/
import Derived.Test.YtiieianbmldnbaaJournalSmall
namespace Go.Proofs.Ytiieianbmldnbaa
open Go.RowKit Go.Maps Go.Shelf
set_option maxRecDepth 100000
set_option linter.unusedVariables false
structure But4 (J : JP) (W w' : World) : Prop where
  os : w'.os = W.os
  tape : w'.tape = W.tape
  output : w'.output = W.output
  size : W.heap.size ≤ w'.heap.size
  block : ∀ k, k < W.heap.size → k ≠ J.jb → k ≠ J.g → k ≠ J.bb → k ≠ J.wb → w'.heap[k]? = W.heap[k]?
section
variable {J : JP} {W W1 w' : World}
theorem But4.of_below (h : Below W.heap.size W w') : But4 J W w' := ⟨h.os, h.tape, h.output, h.size, fun k hk _ _ _ _ => h.block k hk⟩
theorem But4.trans (h : But4 J W W1) (k : But4 J W1 w') : But4 J W w' :=
  ⟨k.os.trans h.os, k.tape.trans h.tape, k.output.trans h.output, Nat.le_trans h.size k.size, fun i hi a b c d => (k.block i (Nat.lt_of_lt_of_le hi h.size) a b c d).trans (h.block i hi a b c d)⟩
theorem But4.of_but3 (h : But3 W.heap.size J.g J.bb J.wb W w') : But4 J W w' := ⟨h.os, h.tape, h.output, h.size, fun k hk _ a b c => h.block k hk a b c⟩
theorem But4.cells (h : But4 J W w') (vs : List Value) : ∀ o, But4 J W (w'.setCells J.jb o vs) := by
  induction vs generalizing w' with
  | nil => intro o; exact h
  | cons v vs ih =>
    intro o
    rw [World.setCells]
    refine ih (w' := w'.setCell ⟨J.jb, o, none⟩ v) ⟨h.os, h.tape, h.output, by simpa [World.setCell] using h.size, fun k hk a b c d => (Below.heap_setCell w' ⟨J.jb, o, none⟩ v k a).trans (h.block k hk a b c d)⟩ (o + 1)
theorem But4.below (h : But4 J W w') {B : Nat} (hB : B ≤ W.heap.size) (h1 : B ≤ J.jb) (h2 : B ≤ J.g) (h3 : B ≤ J.bb) (h4 : B ≤ J.wb) : Below B W w' :=
  ⟨h.os, h.tape, h.output, h.size, fun k hk => h.block k (by omega) (by omega) (by omega) (by omega) (by omega)⟩
theorem But4.cell (h : But4 J W w') {p : Addr} (hp : p.block < W.heap.size) (a : p.block ≠ J.jb) (b : p.block ≠ J.g) (c : p.block ≠ J.bb) (d : p.block ≠ J.wb) : w'.cell? p = W.cell? p := World.cell?_of_block (w := W) (h.block p.block hp a b c d)
theorem LayPost.but4 {gi fi be si co : Nat} {F : Fl} {pv : Option Nat} {V : Int → Option (List UInt8)} {ep : Int} {e : Ending} (h : LayPost W J.jb gi J.g J.bb J.wb fi be si co F pv V ep e w') : But4 J W w' := by
  obtain ⟨_, _, _, _, ec, _, _, _, _, w1, hb, rfl⟩ := h
  split
  · exact (But4.of_but3 hb).cells _ 3
  · exact But4.of_but3 hb
theorem TurnPost.but4 {F : Fl} {s : JS} {pn : Option Nat} {V : Int → Option (List UInt8)} {b : List UInt8} {e : Ending} (h : TurnPost W J F s pn V b e w') : But4 J W w' := by
  unfold TurnPost at h
  split at h
  · exact But4.of_below h.2
  · split at h
    · obtain ⟨w1, hb, ⟨_, _, rfl⟩ | ⟨_, hl⟩⟩ := h
      · exact But4.of_below hb
      · exact (But4.of_below (hb.trans ((below_drew w1).mono hb.size))).trans hl.but4
    · obtain ⟨_, _, ec, w1, _, _, _, hb, rfl⟩ := h
      split
      · exact (But4.of_but3 hb).cells _ 5
      · exact But4.of_but3 hb
theorem PutPost.but4 {F : Fl} {s : JS} {key : Int} {l : List UInt8} {e : Ending} (h : PutPost W J F s key l e w') : But4 J W w' := by
  unfold PutPost at h
  split at h
  · exact But4.of_below h.2
  · split at h
    · exact But4.of_below h.2
    · split at h
      · exact But4.of_below h.2
      · obtain ⟨w1, b, D', hb, _, ht⟩ := h
        exact (But4.of_below hb).trans ht.but4
end
end Go.Proofs.Ytiieianbmldnbaa
