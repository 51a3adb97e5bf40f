/-
  Reply's loop: the four operations of its drawn line that turn the world.
-/
import Derived.Test.YtihicplembaoeaaMsgRs
namespace Go.Proofs.Ytihicplembaoeaa
open Go.RowKit
set_option maxRecDepth 100000
set_option linter.unusedVariables false
section
variable {p : Rp} {L : Nat → Bool} {g : Gh} {w w' : World}
theorem nt {b : Bool} (h : b = true → False) : b = false := by cases b with | false => rfl | true => exact (h rfl).elim
theorem RS.l96 (h : RS p L g w) (hL : L 6 = false) : L 9 = false := nt fun e => by have := h.l7 (h.l8 (h.l9 e).1); rw [hL] at this; cases this
theorem RS.l98 (h : RS p L g w) (hL : L 8 = false) : L 9 = false := nt fun e => by have := (h.l9 e).1; rw [hL] at this; cases this
theorem RS.l91 (h : RS p L g w) (hL : L 1 = false) : L 9 = false := nt fun e => by have := (h.l9 e).2; rw [hL] at this; cases this
theorem RS.clone (h : RS p L g w) (hL : L 6 = false) (hb : Below w.heap.size w w') {A5 : Option Addr} {c5 : Nat} (ho : w'.ownsRow w.heap.size 5 1 (.slice A5 p.ll.length c5) p.ll.length (U8 p.ll)) : RS p (updG L 6) (some (A5, c5), g.2) w' := by
  have l9 := h.l96 hL
  refine ⟨h.bel.trans (hb.mono h.bel.size), Nat.lt_of_lt_of_le h.gxl hb.size, (hb.cell (p := ⟨p.gx, 0, none⟩) h.gxl).trans h.c0, (hb.cell (p := ⟨p.gx, 1, none⟩) h.gxl).trans h.c1, h.l9, h.l8, fun _ => rfl, h.l11, fun e => (by cases e), h.n8, h.n9, fun _ => (h.old l9).below hb, fun _ => ⟨_, rfl, fun _ => InS.of_own (row_mono ho h.bel.size)⟩, fun e => ?_, fun e => ?_⟩
  · have := h.l7 (h.l8 e); rw [hL] at this; cases this
  · have e' : L 9 = true := e; rw [l9] at e'; cases e'
theorem RS.one (h : RS p L g w) (hL : L 8 = false) (h7 : L 7 = true) {a : Option Addr × Nat} (hg : g.1 = some a) : RS p (updG L 8) (g.1, some w.heap.size, g.2.2) (w.alloc (.cells #[.int .i64 p.sk, .slice a.1 p.ll.length a.2] 69)) := by
  have l9 := h.l98 hL
  have hb := alloc_below w (.cells #[.int .i64 p.sk, .slice a.1 p.ll.length a.2] 69)
  have hs := Sh.lit0 w 69 ⟨p.sk, a.1, p.ll.length, a.2⟩ (0, 0)
  refine ⟨h.bel.trans (hb.mono h.bel.size), Nat.lt_of_lt_of_le h.gxl hb.size, (hb.cell (p := ⟨p.gx, 0, none⟩) h.gxl).trans h.c0, (hb.cell (p := ⟨p.gx, 1, none⟩) h.gxl).trans h.c1, fun e => ?_, fun _ => h7, h.l7, h.l11, h.n6, fun e => (by cases e), h.n9, fun _ => (h.old l9).below hb, fun e => ?_, fun _ => ⟨a, _, hg, rfl, fun _ => (by rw [alloc_size]; exact hs)⟩, fun e => ?_⟩
  · have e' : L 9 = true := e; rw [l9] at e'; cases e'
  · obtain ⟨a', h1, h2⟩ := h.y6 e
    exact ⟨a', h1, fun _ => (h2 l9).below hb h.bel.size⟩
  · have e' : L 9 = true := e; rw [l9] at e'; cases e'
theorem RS.app (h : RS p L g w) (hL : L 9 = false) (h1 : L 1 = true) (h8 : L 8 = true) (hgx : p.w2.heap.size < p.gx) (hub : ∀ b, p.u.ownBlock = some b → b < p.gx) (hq : p.qs[p.k]? = some (p.sk, p.ll)) {a : Option Addr × Nat} (ha : g.1 = some a) {A6 : Option Addr} {c6 : Nat}
    (ho : w'.ownsRow p.w2.heap.size 69 2 (.slice A6 (p.k + 1) c6) (p.k + 1) (svs (p.us ++ [⟨p.sk, a.1, p.ll.length, a.2⟩]))) (hgr : w.grownBy w' p.u.ownBlock) : RS p (updG L 9) (g.1, g.2.1, some (A6, c6)) w' := by
  have hst := h.old hL
  have hrow : w.ownsRow p.w2.heap.size 69 2 p.u p.k (svs p.us) := hst.row
  have hR : p.w2.heap.size < w.heap.size := by have := hst.size; omega
  have bel : Below p.w2.heap.size p.w2 w' := h.bel.grown hgr h.bel.size (own_ge hrow)
  have hsz : w.heap.size ≤ w'.heap.size := (Below.grown (Below.refl p.w2.heap.size w) hgr h.bel.size (own_ge hrow)).size
  have hne : some p.gx ≠ p.u.ownBlock := fun e => absurd (hub _ e.symm) (Nat.lt_irrefl _)
  have hneR : some p.w2.heap.size ≠ p.u.ownBlock := fun e => by
    rcases hrow.2 with ⟨e1, _⟩ | ⟨g', cap, cur, e1, _, h4, _⟩
    · rw [e1] at e; cases e
    · rw [e1] at e
      have e' : p.w2.heap.size = g' := by injection e
      rw [← e', hst.blk] at h4
      injection h4 with h4
      injection h4 with _ h4
      exact absurd h4 (by decide)
  obtain ⟨a', h2, h3⟩ := h.y6 (h.l7 (h.l8 h8))
  rw [ha] at h2
  obtain rfl := Option.some.inj h2
  have hmx : Mx w' p.w2.heap.size (p.us ++ [⟨p.sk, a.1, p.ll.length, a.2⟩]) (p.qs.take (p.k + 1)) := by
    have e : p.qs.take (p.k + 1) = p.qs.take p.k ++ [(p.sk, p.ll)] := by rw [List.take_add_one, hq]; rfl
    rw [e]
    exact (hst.mx.push (x := (p.sk, p.ll)) rfl (h3 hL)).grown hrow hgr h.bel.size
  refine ⟨bel, Nat.lt_of_lt_of_le h.gxl hsz, (hgr.cell_far ⟨p.gx, 0, none⟩ h.gxl hne).trans h.c0, (hgr.cell_far ⟨p.gx, 1, none⟩ h.gxl hne).trans h.c1, fun _ => ⟨h8, h1⟩, h.l8, h.l7, fun _ => rfl, h.n6, h.n8, fun e => (by cases e), fun e => (by cases e), fun e => ?_, fun e => ?_, fun _ => ⟨_, _, rfl, fun _ => ⟨(hgr.block _ hR hneR).trans hst.blk, ho, hmx, bel, by omega⟩, fun e => ?_⟩⟩
  · obtain ⟨a', x1, x2⟩ := h.y6 e
    exact ⟨a', x1, fun e => (by cases e)⟩
  · obtain ⟨a', b', x1, x2, x3⟩ := h.y8 e
    exact ⟨a', b', x1, x2, fun e => (by cases e)⟩
  · have e' : L 11 = true := e
    have := h.l11 e'
    rw [hL] at this; cases this
theorem RS.sto (h : RS p L g w) (hL : L 11 = false) (h9 : L 9 = true) (hgx : p.w2.heap.size < p.gx) {a : Option Addr × Nat} (hg : g.2.2 = some a) : RS p (updG L 11) g (w.setCell ⟨p.w2.heap.size, 4, none⟩ (.slice a.1 (p.k + 1) a.2)) := by
  obtain ⟨a', us', h1, h2, _⟩ := h.y9 h9
  rw [hg] at h1
  obtain rfl := Option.some.inj h1
  obtain ⟨hblk, hrow, hmx, hbel, hsz⟩ := h2 hL
  have hoth : ∀ k, k ≠ p.w2.heap.size → (w.setCell ⟨p.w2.heap.size, 4, none⟩ (.slice a.1 (p.k + 1) a.2)).heap[k]? = w.heap[k]? := fun k hk => Below.heap_setCell w _ _ k hk
  have hc : ∀ j, (w.setCell ⟨p.w2.heap.size, 4, none⟩ (.slice a.1 (p.k + 1) a.2)).cell? ⟨p.gx, j, none⟩ = w.cell? ⟨p.gx, j, none⟩ := fun j => World.cell?_of_block (w := w) (hoth _ (by show p.gx ≠ _; omega))
  have hss : (w.setCell ⟨p.w2.heap.size, 4, none⟩ (.slice a.1 (p.k + 1) a.2)).heap.size = w.heap.size := size_setCells_ [.slice a.1 (p.k + 1) a.2] p.w2.heap.size 4 w
  have bel := hbel.setCell (p := ⟨p.w2.heap.size, 4, none⟩) (Nat.le_refl _) (.slice a.1 (p.k + 1) a.2)
  have hty : ∀ (k : Nat) (cs : Array Value) (t : TypeId), t ≠ 51 → w.heap[k]? = some (.cells cs t (0, 0)) → k ≠ p.w2.heap.size := fun k cs t ht hk e => by
    rw [e, hblk] at hk
    injection hk with hk
    injection hk with _ hk
    exact ht hk.symm
  refine ⟨bel, (by rw [hss]; exact h.gxl), (hc 0).trans h.c0, (hc 1).trans h.c1, h.l9, h.l8, h.l7, fun _ => h9, h.n6, h.n8, h.n9, fun e => ?_, fun e => ?_, fun e => ?_, fun _ => ⟨a, us', hg, fun e => (by cases e), fun _ => ⟨?_, ?_, ?_, bel, (by rw [hss]; exact hsz)⟩⟩⟩
  · have e' : L 9 = false := e; rw [h9] at e'; cases e'
  · obtain ⟨a', x1, _⟩ := h.y6 e
    exact ⟨a', x1, fun e => (by have e' : L 9 = false := e; rw [h9] at e'; cases e')⟩
  · obtain ⟨a', b', x1, x2, _⟩ := h.y8 e
    exact ⟨a', b', x1, x2, fun e => (by have e' : L 9 = false := e; rw [h9] at e'; cases e')⟩
  · rw [heap_setCell_same w p.w2.heap.size 4 _ 51 _ hblk]; rfl
  · exact row_kept hrow fun k cs _ hk => hoth k (hty k cs _ (by decide) hk)
  · exact hmx.kept (fun k hk => hoth k (by omega)) (fun k cs hk => hoth k (hty k cs _ (by decide) hk))
theorem RS.first {wr W4 : World} (hst : p.st wr p.k p.u p.us) (hb : Below wr.heap.size wr W4) (hl : p.gx < W4.heap.size) (c0 : W4.cell? ⟨p.gx, 0, none⟩ = some (.int .i64 p.sk)) (c1 : W4.cell? ⟨p.gx, 1, none⟩ = some (.slice p.sA p.sn p.sc)) : RS p (fun _ => false) (none, none, none) W4.drew := by
  have hs : p.st W4 p.k p.u p.us := Rs.below hst hb
  have hd : p.st W4.drew p.k p.u p.us := Rs.below hs (Below.drew (Below.refl _ _))
  exact ⟨hd.bel, hl, c0, c1, fun e => (by cases e), fun e => (by cases e), fun e => (by cases e), fun e => (by cases e), fun _ => rfl, fun _ => rfl, fun _ => rfl, fun _ => hd, fun e => (by cases e), fun e => (by cases e), fun e => (by cases e)⟩
theorem RS.done (h : RS p L g w) (h11 : L 11 = true) : ∃ u' us', p.st w (p.k + 1) u' us' := by
  obtain ⟨a, us', _, _, h2⟩ := h.y9 (h.l11 h11)
  exact ⟨_, us', h2 h11⟩
end
end Go.Proofs.Ytihicplembaoeaa
