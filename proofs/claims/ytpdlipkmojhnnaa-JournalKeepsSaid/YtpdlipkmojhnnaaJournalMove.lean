/-
  A journal in memory, whole; journal.move.
-/
import Derived.Test.YtpdlipkmojhnnaaJournalLay
import Derived.Test.YtpdlipkmojhnnaaJournalDown
import Derived.StillTailTactics
namespace Go.Proofs.Ytpdlipkmojhnnaa
open Go.RowKit Go.Maps Go.Shelf
set_option maxRecDepth 100000
/-- Where a journal's things lie: its block, its flash's, its two parts. -/
structure JP where
  jb : Nat
  lo : Nat
  g : Nat
  bb : Nat
  wb : Nat
  pp : Nat → Nat
  fi : Nat → Nat
  co : Nat → Nat
  be : Nat → Nat
  si : Nat → Nat
/-- What it is: its size, the group that counts, the epoch, its end, its values. -/
structure JS where
  size : Nat
  cnt : Nat
  ep : Int
  en : Nat
  pv : Option Nat
  D : DataW Value
  V : Int → Option (List UInt8)
structure JAt (W : World) (J : JP) (F : Fl) (s : JS) : Prop where
  c0 : ∀ i, i < 2 → W.cell? ⟨J.jb, i, none⟩ = some (.pointer (some ⟨J.pp i, 0, none⟩))
  c2 : W.cell? ⟨J.jb, 2, none⟩ = some (.int .i64 (s.size : Int))
  c3 : W.cell? ⟨J.jb, 3, none⟩ = some (.int .i64 (s.cnt : Int))
  c4 : W.cell? ⟨J.jb, 4, none⟩ = some (.int .u32 s.ep)
  c5 : W.cell? ⟨J.jb, 5, none⟩ = some (.int .i64 (s.en : Int))
  c6 : W.cell? ⟨J.jb, 6, none⟩ = some (.map s.pv)
  frz : W.there J.jb 0 7
  part : ∀ i, i < 2 → PartAt W (J.pp i) J.g (J.fi i) (J.co i) (J.be i) (J.si i)
  ok : ∀ i, i < 2 → PartOk F (J.fi i) (J.co i) (J.be i) (J.si i)
  fl : FlashAt W J.g J.bb J.wb F
  sane : Sane F
  off : ∀ i, i < 2 → J.pp i ≠ J.g ∧ J.pp i ≠ J.bb ∧ J.pp i ≠ J.wb
  joff : J.jb ≠ J.g ∧ J.jb ≠ J.bb ∧ J.jb ≠ J.wb
  low : J.g < J.lo ∧ J.bb < J.lo ∧ J.wb < J.lo
  jlow : J.jb < J.lo
  vals : Vals W J.lo s.pv s.D s.V
  cnt : s.cnt < 2
  ep : 0 ≤ s.ep ∧ s.ep < 4294967296
  size : ∀ i, i < 2 → s.size ≤ J.si i
  en : s.en ≤ s.size
  top : J.lo ≤ W.heap.size
theorem below_drew (w : World) : Below w.heap.size w w.drew := ⟨rfl, rfl, rfl, Nat.le_refl _, fun _ _ => rfl⟩
set_option maxRecDepth 100000 in
theorem move_f (W : World) (J : JP) (F : Fl) (s : JS) (h : JAt W J F s) (pn : Option Nat) (D : DataW Value) (V : Int → Option (List UInt8)) (hV : Vals W J.lo pn D V) :
    Calls Try.prog 44 #[.pointer (some ⟨J.jb, 0, none⟩), .map pn] W fun e w' => (s.ep = 4294967295 ∧ e = .returned (.int .i64 3) ∧ w' = W) ∨
      (s.ep ≠ 4294967295 ∧ LayPost W.drew J.jb (1 - s.cnt) J.g J.bb J.wb (J.fi (1 - s.cnt)) (J.be (1 - s.cnt)) (J.si (1 - s.cnt)) (J.co (1 - s.cnt)) F pn V (s.ep + 1) e w') := by
  have c3 := h.c3
  have c4 := h.c4
  have hcnt := h.cnt
  have hep := h.ep
  have hw1 : IntKind.i64.wrap (1 - (s.cnt : Int)) = ((1 - s.cnt : Nat) : Int) := by rw [IntKind.wrap_i64]; omega
  have kl := lay_f W.drew J.jb J.lo (1 - s.cnt) (J.pp (1 - s.cnt)) J.g J.bb J.wb (J.fi (1 - s.cnt)) (J.co (1 - s.cnt)) (J.be (1 - s.cnt)) (J.si (1 - s.cnt)) F pn D V (s.ep + 1) (by omega) (h.c0 _ (by omega)) h.frz ((h.part _ (by omega)).below (below_drew W)) (h.ok _ (by omega)) (h.fl.below (below_drew W)) h.sane (h.off _ (by omega)) h.joff h.low (hV.below (below_drew W))
  generalize s.cnt = cn at *
  generalize s.ep = ep at *
  by_cases he : ep = 4294967295
  · subst he
    clear h hV
    go_enter Try.func44, Try.ntmps44
    go_wp2
    go_ret
    exact .inl ⟨by trivial, rfl, rfl⟩
  · have q0 : (ep == 4294967295) = false := by simpa using he
    have hw2 : IntKind.u32.wrap (ep + 1) = ep + 1 := by rw [IntKind.wrap_u32]; omega
    have kk := kl (by omega) (by omega)
    clear h hV kl
    go_enter Try.func44, Try.ntmps44
    go_wp2_with fail
    go_still_tail 12, (by kernel_rfl)
    go_wp2_with fail
    refine kk.mono ?_
    intro e w' hp
    have hp' := hp
    obtain ⟨_, _, _, _, ec, _, _, he', _⟩ := hp'
    subst he'
    go_wp2
    go_ret
    exact .inr ⟨he, hp⟩
end Go.Proofs.Ytpdlipkmojhnnaa
