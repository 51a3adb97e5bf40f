/-
  One field of a message that is made, stored into.
-/
import Derived.Test.YtdgihhepmmkkpaaMsgRd
namespace Go.Proofs.Ytdgihhepmmkkpaa
open Go.RowKit
set_option maxRecDepth 100000
set_option linter.unusedVariables false
theorem cell_setR {w : World} {R j : Nat} {v : Value} {x : Addr} (h : x ≠ ⟨R, j, none⟩) : (w.setCell ⟨R, j, none⟩ v).cell? x = w.cell? x := by
  have := World.cell?_setCells_out R [v] j w x (fun hb hs => by
    obtain ⟨b, o, s⟩ := x
    dsimp only at hb hs
    subst hb hs
    have : o ≠ j := fun e => h (by rw [e])
    simp only [List.length_cons, List.length_nil]
    show o < j ∨ j + (0 + 1) ≤ o
    omega)
  exact this
theorem Bs.setR {w : World} {B n R j : Nat} {A : Option Addr} {l : List UInt8} {a : Option Addr} {b c : Nat} (h : Bs w B A n l) (hc : w.cell? ⟨R, j, none⟩ = some (.slice a b c)) (v : Value) : Bs (w.setCell ⟨R, j, none⟩ v) B A n l :=
  ⟨h.len, fun hn => by
    obtain ⟨b', off, e, hb, hk⟩ := h.place hn
    refine ⟨b', off, e, hb, fun k u hu => ?_⟩
    rw [cell_setR (fun e => by have := hk k u hu; rw [e, hc] at this; cases this)]
    exact hk k u hu⟩
theorem Os.setR {w : World} {B n R j : Nat} {A : Option Addr} {vs : List Sv} {ps : List (Int × List UInt8)} {a : Option Addr} {b c : Nat} (h : Os w B A n vs ps) (hf : Fresh A (R + 1)) (hc : w.cell? ⟨R, j, none⟩ = some (.slice a b c)) (v : Value) :
    Os (w.setCell ⟨R, j, none⟩ v) B A n vs ps := by
  refine ⟨⟨h.sh.len, fun hn => ?_⟩, fun s hs => ?_, ?_⟩
  · obtain ⟨bb, off, e, hb, hk⟩ := h.sh.place hn
    have hne : bb ≠ R := fun e2 => by have := hf _ e; rw [e2] at this; exact absurd this (by show ¬ R + 1 ≤ R; omega)
    refine ⟨bb, off, e, hb, fun i s hs => ?_⟩
    obtain ⟨q1, q2⟩ := hk i s hs
    exact ⟨by rw [cell_setR (fun e => hne (by injection e))]; exact q1, by rw [cell_setR (fun e => hne (by injection e))]; exact q2⟩
  · have q := h.dp s hs
    exact (SvAt.mk_ (q.bs.setR hc v) q.cap q.max).1
  · rw [← h.eq]
    refine List.map_congr_left fun s hs => ?_
    have q := h.dp s hs
    exact (SvAt.mk_ (q.bs.setR hc v) q.cap q.max).2
theorem size_setR (w : World) (R j : Nat) (v : Value) : (w.setCell ⟨R, j, none⟩ v).heap.size = w.heap.size := size_setCells_ [v] R j w
theorem Zm.setR {w W : World} (h : Zm w W) {R j : Nat} (hR : w.heap.size + 1 ≤ R) (v : Value) : Zm w (W.setCell ⟨R, j, none⟩ v) :=
  ⟨World.there_setCells h.there R j [v], h.bel.setCell (p := ⟨R, j, none⟩) (by show w.heap.size ≤ R; omega) v, by rw [size_setR]; exact h.size, by rw [Below.heap_setCell _ _ _ _ (by show w.heap.size ≠ R; omega)]; exact h.blk⟩
theorem frz_r {w : World} {b j : Nat} {cs : Array Value} {t : TypeId} (h : w.heap[b]? = some (.cells cs t)) : w.frozen? ⟨b, j, none⟩ = false := by
  simp [World.frozen?, h]
theorem range_blk {w : World} {b : Nat} {cs : Array Value} {t : TypeId} {vs : List Value} (h : w.heap[b]? = some (.cells cs t)) (e : cs.toList = vs) : w.rangeAt b 0 vs := by
  intro j v hv
  rw [Nat.zero_add, cell_of_row _ _ _ _ _ _ h, ← hv, ← e]
  exact (Array.getElem?_toList ..).symm
theorem blk_setR {w : World} {b j : Nat} {cs : Array Value} {t : TypeId} (h : w.heap[b]? = some (.cells cs t)) (v : Value) : (w.setCell ⟨b, j, none⟩ v).heap[b]? = some (.cells (cs.setIfInBounds j v) t) := heap_setCell_same w b j _ t _ h
end Go.Proofs.Ytdgihhepmmkkpaa
