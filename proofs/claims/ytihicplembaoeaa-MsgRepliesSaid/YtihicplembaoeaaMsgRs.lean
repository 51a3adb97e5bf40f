/-
  Reply's loop: the message under way; what its drawn line has done so far.
-/
import Derived.Test.YtihicplembaoeaaMsgReply0
import Derived.Test.YtihicplembaoeaaOptCat
import Derived.Test.YtihicplembaoeaaRelGhost
namespace Go.Proofs.Ytihicplembaoeaa
open Go.RowKit
set_option maxRecDepth 100000
set_option linter.unusedVariables false
/-- The message under way, its options so far in rows of the call's own. -/
structure Rs (w2 wr : World) (K C I : Int) (tB : Option Addr) (tl td : Nat) (qB : Option Addr) (ql qd : Nat) (k : Nat) (u : Value) (us : List Sv) (qs : List (Int × List UInt8)) : Prop where
  blk : wr.heap[w2.heap.size]? = some (.cells #[.int .i64 K, .int .i64 C, .int .i64 I, .slice tB tl td, u, .slice qB ql qd] 51)
  row : wr.ownsRow w2.heap.size 69 2 u k (svs us)
  mx : Mx wr w2.heap.size us (qs.take k)
  bel : Below w2.heap.size w2 wr
  size : w2.heap.size + 1 ≤ wr.heap.size
theorem Rs.start (w2 : World) (K C I : Int) (tB : Option Addr) (tl td : Nat) (qB : Option Addr) (ql qd : Nat) (qs : List (Int × List UInt8)) : Rs w2 (w2.alloc (.cells #[.int .i64 K, .int .i64 C, .int .i64 I, .slice tB tl td, .slice none 0 0, .slice qB ql qd] 51)) K C I tB tl td qB ql qd 0 (.slice none 0 0) [] qs :=
  ⟨heap_alloc_new w2 _, World.ownsRow_nil _ _ _ _, Mx.nil _ _, alloc_below w2 _, by rw [alloc_size]; exact Nat.le_refl _⟩
theorem Rs.start_drew (w2 : World) (K C I : Int) (tB : Option Addr) (tl td : Nat) (qB : Option Addr) (ql qd : Nat) (qs : List (Int × List UInt8)) : Rs w2 (w2.alloc (.cells #[.int .i64 K, .int .i64 C, .int .i64 I, .slice tB tl td, .slice none 0 0, .slice qB ql qd] 51)).drew K C I tB tl td qB ql qd 0 (.slice none 0 0) [] qs :=
  ⟨heap_alloc_new w2 _, World.ownsRow_nil _ _ _ _, Mx.nil _ _, (alloc_below w2 _).drew, by show _ ≤ (w2.alloc _).heap.size; rw [alloc_size]; exact Nat.le_refl _⟩
theorem frz_of_row {w : World} {b j : Nat} {cs : Array Value} {t : TypeId} (h : w.heap[b]? = some (.cells cs t)) : w.frozen? ⟨b, j, none⟩ = false := by
  simp [World.frozen?, h]
section
variable {w2 wr W : World} {K C I : Int} {tB : Option Addr} {tl td : Nat} {qB : Option Addr} {ql qd k : Nat} {u : Value} {us : List Sv} {qs : List (Int × List UInt8)}
theorem Rs.below (h : Rs w2 wr K C I tB tl td qB ql qd k u us qs) (hb : Below wr.heap.size wr W) : Rs w2 W K C I tB tl td qB ql qd k u us qs :=
  ⟨(hb.block _ (by have := h.size; omega)).trans h.blk, row_below h.row hb, h.mx.below hb (by have := h.size; omega), h.bel.trans (hb.mono (by have := h.size; omega)), Nat.le_trans h.size hb.size⟩
theorem Rs.cell4 (h : Rs w2 wr K C I tB tl td qB ql qd k u us qs) : wr.cell? ⟨w2.heap.size, 4, none⟩ = some u := by
  rw [cell_of_row _ _ _ _ _ _ h.blk]; rfl
theorem Rs.range (h : Rs w2 wr K C I tB tl td qB ql qd k u us qs) : wr.rangeAt w2.heap.size 0 [.int .i64 K, .int .i64 C, .int .i64 I, .slice tB tl td, u, .slice qB ql qd] := by
  intro j v hv
  rw [Nat.zero_add, cell_of_row _ _ _ _ _ _ h.blk, ← hv]
  exact (Array.getElem?_toList ..).symm
theorem Rs.os (h : Rs w2 wr K C I tB tl td qB ql qd k u us qs) : ∃ A c, u = .slice A k c ∧ k ≤ c ∧ c ≤ maxLen ∧ Fresh A w2.heap.size ∧ Os wr wr.heap.size A k us (qs.take k) := by
  obtain ⟨A, c, rfl, hc, ho⟩ := h.mx.os h.row (by have := h.size; omega)
  exact ⟨A, c, rfl, hc, row_cap h.row, fresh_own h.row, ho⟩
end
/-- One round's things. -/
structure Rp where
  w2 : World
  gx : Nat
  k : Nat
  sk : Int
  sA : Option Addr
  sn : Nat
  sc : Nat
  ll : List UInt8
  u : Value
  us : List Sv
  qs : List (Int × List UInt8)
  K : Int
  C : Int
  I : Int
  tB : Option Addr
  tl : Nat
  td : Nat
  qB : Option Addr
  ql : Nat
  qd : Nat
/-- What the line has made: the clone, the row of one, the row. -/
abbrev Gh := Option (Option Addr × Nat) × Option Nat × Option (Option Addr × Nat)
def Rp.st (p : Rp) (w : World) (k : Nat) (u : Value) (us : List Sv) : Prop := Rs p.w2 w p.K p.C p.I p.tB p.tl p.td p.qB p.ql p.qd k u us p.qs
/-- Appended, not yet stored. -/
def Rp.mid (p : Rp) (w : World) (a : Option Addr × Nat) (us : List Sv) : Prop :=
  w.heap[p.w2.heap.size]? = some (.cells #[.int .i64 p.K, .int .i64 p.C, .int .i64 p.I, .slice p.tB p.tl p.td, p.u, .slice p.qB p.ql p.qd] 51)
  ∧ w.ownsRow p.w2.heap.size 69 2 (.slice a.1 (p.k + 1) a.2) (p.k + 1) (svs us) ∧ Mx w p.w2.heap.size us (p.qs.take (p.k + 1)) ∧ Below p.w2.heap.size p.w2 w ∧ p.w2.heap.size + 1 ≤ w.heap.size
structure RS (p : Rp) (L : Nat → Bool) (g : Gh) (w : World) : Prop where
  bel : Below p.w2.heap.size p.w2 w
  gxl : p.gx < w.heap.size
  c0 : w.cell? ⟨p.gx, 0, none⟩ = some (.int .i64 p.sk)
  c1 : w.cell? ⟨p.gx, 1, none⟩ = some (.slice p.sA p.sn p.sc)
  l9 : L 9 = true → L 8 = true ∧ L 1 = true
  l8 : L 8 = true → L 7 = true
  l7 : L 7 = true → L 6 = true
  l11 : L 11 = true → L 9 = true
  n6 : L 6 = false → g.1 = none
  n8 : L 8 = false → g.2.1 = none
  n9 : L 9 = false → g.2.2 = none
  old : L 9 = false → p.st w p.k p.u p.us
  y6 : L 6 = true → ∃ a, g.1 = some a ∧ (L 9 = false → InS w p.w2.heap.size ⟨p.sk, a.1, p.ll.length, a.2⟩ p.ll)
  y8 : L 8 = true → ∃ a b, g.1 = some a ∧ g.2.1 = some b ∧ (L 9 = false → Sh w w.heap.size (some ⟨b, 0, none⟩) 1 [⟨p.sk, a.1, p.ll.length, a.2⟩])
  y9 : L 9 = true → ∃ a us', g.2.2 = some a ∧ (L 11 = false → p.mid w a us') ∧ (L 11 = true → p.st w (p.k + 1) (.slice a.1 (p.k + 1) a.2) us')
def RT (g : Gh) (w : World) (g' : Gh) (w' : World) : Prop := (∀ a, g.1 = some a → g'.1 = some a) ∧ (∀ b, g.2.1 = some b → g'.2.1 = some b) ∧ (∀ a, g.2.2 = some a → g'.2.2 = some a)
theorem RT.refl (g : Gh) (w w' : World) : RT g w g w' := ⟨fun _ h => h, fun _ h => h, fun _ h => h⟩
def RR (p : Rp) (g : Gh) (i : Nat) (w : World) (v : Value) : Prop :=
  match i with
  | 0 => v = .pointer (some ⟨p.w2.heap.size, 4, none⟩)
  | 1 => v = p.u
  | 2 => v = .pointer (some ⟨p.gx, 0, none⟩)
  | 3 => v = .int .i64 p.sk
  | 4 => v = .pointer (some ⟨p.gx, 1, none⟩)
  | 5 => v = .slice p.sA p.sn p.sc
  | 6 => ∃ a, g.1 = some a ∧ v = .slice a.1 p.ll.length a.2
  | 7 => ∃ a, g.1 = some a ∧ v = .agg #[.int .i64 p.sk, .slice a.1 p.ll.length a.2]
  | 8 => ∃ b, g.2.1 = some b ∧ v = .slice (some ⟨b, 0, none⟩) 1 1
  | 9 => ∃ a, g.2.2 = some a ∧ v = .slice a.1 (p.k + 1) a.2
  | 10 => v = .pointer (some ⟨p.w2.heap.size, 4, none⟩)
  | _ => True
theorem RR.grow (p : Rp) (i : Nat) (g : Gh) (w : World) (g' : Gh) (w' : World) (v : Value) (ht : RT g w g' w') (h : RR p g i w v) : RR p g' i w' v := by
  unfold RR at h ⊢
  split at h
  case h_7 => obtain ⟨a, h1, h2⟩ := h; exact ⟨a, ht.1 a h1, h2⟩
  case h_8 => obtain ⟨a, h1, h2⟩ := h; exact ⟨a, ht.1 a h1, h2⟩
  case h_9 => obtain ⟨b, h1, h2⟩ := h; exact ⟨b, ht.2.1 b h1, h2⟩
  case h_10 => obtain ⟨a, h1, h2⟩ := h; exact ⟨a, ht.2.2 a h1, h2⟩
  all_goals exact h
/-- An operation that only reads. -/
theorem RS.quiet {p : Rp} {L : Nat → Bool} {g : Gh} {w : World} (h : RS p L g w) (i : Nat) (e6 : updG L i 6 = L 6) (e8 : updG L i 8 = L 8) (e9 : updG L i 9 = L 9) (e11 : updG L i 11 = L 11) (m7 : updG L i 7 = true → L 6 = true) : RS p (updG L i) g w := by
  have up : ∀ j, L j = true → updG L i j = true := fun j hj => by unfold updG; split; rfl; exact hj
  refine ⟨h.bel, h.gxl, h.c0, h.c1, ?_, ?_, ?_, ?_, ?_, ?_, ?_, ?_, ?_, ?_, ?_⟩
  · rw [e9, e8]; exact fun x => ⟨(h.l9 x).1, up 1 (h.l9 x).2⟩
  · rw [e8]; exact fun x => up 7 (h.l8 x)
  · rw [e6]; exact m7
  · rw [e11, e9]; exact h.l11
  · rw [e6]; exact h.n6
  · rw [e8]; exact h.n8
  · rw [e9]; exact h.n9
  · rw [e9]; exact h.old
  · rw [e6, e9]; exact h.y6
  · rw [e8, e9]; exact h.y8
  · rw [e9, e11]; exact h.y9
end Go.Proofs.Ytihicplembaoeaa
