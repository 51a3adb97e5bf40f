/-
  journal.turn.
-/
import Derived.Test.YtpdlipkmojhnnaaJournalMove
import Derived.Deep.RegionHeld
namespace Go.Proofs.Ytpdlipkmojhnnaa
open Go.RowKit Go.Maps Go.Shelf
set_option maxRecDepth 100000
theorem JAt.below {W W' : World} {J : JP} {F : Fl} {s : JS} (h : JAt W J F s) (hb : Below W.heap.size W W') : JAt W' J F s := by
  have hl : J.jb < W.heap.size := World.block_lt_of_cell? _ _ h.c2
  have hc : ∀ j, W'.cell? ⟨J.jb, j, none⟩ = W.cell? ⟨J.jb, j, none⟩ := fun j => hb.cell (p := ⟨J.jb, j, none⟩) hl
  exact ⟨fun i hi => (hc i).trans (h.c0 i hi), (hc 2).trans h.c2, (hc 3).trans h.c3, (hc 4).trans h.c4, (hc 5).trans h.c5, (hc 6).trans h.c6, there_below h.frz hb hl,
    fun i hi => (h.part i hi).below hb, h.ok, h.fl.below hb, h.sane, h.off, h.joff, h.low, h.jlow, h.vals.below hb, h.cnt, h.ep, h.size, h.en, Nat.le_trans h.top hb.size⟩
theorem room_f (W : World) (J : JP) (F : Fl) (s : JS) (h : JAt W J F s) : Calls Try.prog 20 #[.pointer (some ⟨J.jb, 0, none⟩)] W fun e w' => e = .returned (.int .i64 ((s.size : Int) - (s.en : Int))) ∧ Below W.heap.size W w' := by
  have c2 := h.c2
  have c5 := h.c5
  have hen := h.en
  have hsz := h.size 0 (by omega)
  have hsm := h.fl.ok.small
  have hft := (h.ok 0 (by omega)).fits h.fl.ok
  have hw : IntKind.i64.wrap ((s.size : Int) - (s.en : Int)) = (s.size : Int) - (s.en : Int) := by rw [IntKind.wrap_i64]; omega
  clear h hsz hsm hft
  go_enter Try.func20, Try.ntmps20
  go_wp2_with fail
  go_region_held (fun w => w.cell? ⟨J.jb, 2, none⟩ = some (.int .i64 (s.size : Int)) ∧ w.cell? ⟨J.jb, 5, none⟩ = some (.int .i64 (s.en : Int))) (exact ⟨c2, c5⟩) (fail)
  go_wp2
  go_ret
  exact ⟨rfl, below_drew W⟩
set_option maxRecDepth 100000 in
/-- What has no room is refused. -/
theorem turn_full (W : World) (J : JP) (F : Fl) (s : JS) (h : JAt W J F s) (pn : Option Nat) (D : DataW Value) (V : Int → Option (List UInt8)) (hV : Vals W J.lo pn D V) (A : Option Addr) (n c : Nat) (hfull : s.size < sizeAll V) :
    Calls Try.prog 29 #[.pointer (some ⟨J.jb, 0, none⟩), .map pn, .slice A n c] W fun e w' => e = .returned (.int .i64 6) ∧ Below W.heap.size W w' := by
  have c2 := h.c2
  have hjl : J.jb < W.heap.size := World.block_lt_of_cell? _ _ c2
  have ks := sizeof_f J.lo pn D V W.drew (hV.below (below_drew W))
  have c2d : W.drew.cell? ⟨J.jb, 2, none⟩ = some (.int .i64 (s.size : Int)) := c2
  generalize sizeAll V = sv at *
  generalize s.size = sz at *
  clear h hV
  go_enter Try.func29, Try.ntmps29
  go_wp2_with fail
  go_region_held (fun w => w.cell? ⟨J.jb, 2, none⟩ = some (.int .i64 (sz : Int))) (first | assumption | exact c2) ((go_at_call 46; refine ks.mono ?_; rintro e w1 ⟨rfl, hb⟩; have hc1 := (hb.cell (p := ⟨J.jb, 2, none⟩) hjl).trans c2))
  go_wp2
  go_ret
  exact ⟨rfl, (below_drew W).trans (by assumption)⟩
set_option maxRecDepth 100000 in
/-- What has no room behind the last record is moved. -/
theorem turn_moves (W : World) (J : JP) (F : Fl) (s : JS) (h : JAt W J F s) (pn : Option Nat) (D : DataW Value) (V : Int → Option (List UInt8)) (hV : Vals W J.lo pn D V) (A : Option Addr) (n c : Nat) (hfull : sizeAll V ≤ s.size) (hroom : s.size < n + 1 + s.en) (hn : (n : Int) ≤ 262144) :
    Calls Try.prog 29 #[.pointer (some ⟨J.jb, 0, none⟩), .map pn, .slice A n c] W fun e w' => ∃ w1, Below W.heap.size W w1 ∧ ((s.ep = 4294967295 ∧ e = .returned (.int .i64 3) ∧ w' = w1) ∨
      (s.ep ≠ 4294967295 ∧ LayPost w1.drew J.jb (1 - s.cnt) J.g J.bb J.wb (J.fi (1 - s.cnt)) (J.be (1 - s.cnt)) (J.si (1 - s.cnt)) (J.co (1 - s.cnt)) F pn V (s.ep + 1) e w')) := by
  have c2 := h.c2
  have hjl : J.jb < W.heap.size := World.block_lt_of_cell? _ _ c2
  have ks := sizeof_f J.lo pn D V W.drew (hV.below (below_drew W))
  have c2d : W.drew.cell? ⟨J.jb, 2, none⟩ = some (.int .i64 (s.size : Int)) := c2
  have km : Aside (∀ w1, Below W.heap.size W w1 → Calls Try.prog 44 #[.pointer (some ⟨J.jb, 0, none⟩), .map pn] w1 fun e w' => (s.ep = 4294967295 ∧ e = .returned (.int .i64 3) ∧ w' = w1) ∨
      (s.ep ≠ 4294967295 ∧ LayPost w1.drew J.jb (1 - s.cnt) J.g J.bb J.wb (J.fi (1 - s.cnt)) (J.be (1 - s.cnt)) (J.si (1 - s.cnt)) (J.co (1 - s.cnt)) F pn V (s.ep + 1) e w')) :=
    fun w1 hb => move_f w1 J F s (h.below hb) pn D V (hV.below hb)
  have kr : Aside (∀ w1, Below W.heap.size W w1 → Calls Try.prog 20 #[.pointer (some ⟨J.jb, 0, none⟩)] w1 fun e w' => e = .returned (.int .i64 ((s.size : Int) - (s.en : Int))) ∧ Below w1.heap.size w1 w') := fun w1 hb => room_f w1 J F s (h.below hb)
  have hw1 : IntKind.i64.wrap ((n : Int) + 1) = (n : Int) + 1 := by rw [IntKind.wrap_i64]; omega
  generalize sizeAll V = sv at *
  generalize hsz : s.size = sz at *
  generalize hse : s.en = en at *
  clear h hV hsz hse
  go_enter Try.func29, Try.ntmps29
  go_wp2_with fail
  go_region_held (fun w => w.cell? ⟨J.jb, 2, none⟩ = some (.int .i64 (sz : Int))) (first | assumption | exact c2) ((go_at_call 46; refine ks.mono ?_; rintro e w1 ⟨rfl, hb⟩; have hc1 := (hb.cell (p := ⟨J.jb, 2, none⟩) hjl).trans c2))
  have hB1 : Aside (Below W.heap.size W w1) := (below_drew W).trans hb
  go_wp2_with fail
  refine (kr.out w1 hB1.out).mono ?_
  rintro e w2 ⟨rfl, hb2⟩
  have hB2 : Aside (Below W.heap.size W w2) := hB1.out.trans (hb2.mono hB1.out.size)
  go_wp2_with fail
  refine (km.out w2 hB2.out).mono ?_
  intro e w' hp
  rcases hp with ⟨h1, rfl, hw⟩ | ⟨h1, hp⟩
  · have HW : Aside _ := hw
    clear hw
    go_wp2
    go_ret
    exact ⟨w2, hB2.out, .inl ⟨h1, rfl, HW.out⟩⟩
  · have hp' := hp
    obtain ⟨_, _, _, _, ec, _, _, he', _⟩ := hp'
    subst he'
    have HP : Aside _ := hp
    clear hp
    go_wp2
    go_ret
    exact ⟨w2, hB2.out, .inr ⟨h1, HP.out⟩⟩
end Go.Proofs.Ytpdlipkmojhnnaa
