/-
  A journal in memory: its groups, and whether their power has gone.
-/
import Derived.Test.YtpdlipkmojhnnaaPartNew
import Derived.LaidEqlPtr
import Derived.Deep.MidRow
namespace Go.Proofs.Ytpdlipkmojhnnaa
open Go.RowKit
set_option maxRecDepth 100000
theorem jsize_f (w : World) (pp g fi co be si : Nat) (h : PartAt w pp g fi co be si) : Calls Try.prog 24 #[.pointer (some ⟨pp, 0, none⟩)] w fun e w' => e = .returned (.int .i64 (si : Int)) ∧ w' = w := by
  go_enter Try.func24, Try.ntmps24
  go_wp2_with fail
  refine (psize_f w pp g fi co be si h).mono ?_
  rintro e w' ⟨rfl, hw⟩
  obtain rfl := hw.symm
  go_wp2
  go_ret
  exact ⟨rfl, rfl⟩
theorem size89 : (Try.prog.info? 56).map (·.size) = some 2 := by kernel_rfl
theorem idx0 (a b : Nat) (w : World) : Sem.run Try.prog (Instr.index 56 (.agg #[.pointer (some ⟨a, 0, none⟩), .pointer (some ⟨b, 0, none⟩)]) (.int .i64 0)) w = .ok (.pointer (some ⟨a, 0, none⟩)) w := by kernel_rfl
theorem idx1 (a b : Nat) (w : World) : Sem.run Try.prog (Instr.index 56 (.agg #[.pointer (some ⟨a, 0, none⟩), .pointer (some ⟨b, 0, none⟩)]) (.int .i64 1)) w = .ok (.pointer (some ⟨b, 0, none⟩)) w := by kernel_rfl
/-- Reading nothing tells whether the power has gone. -/
theorem pread0 (W : World) (pp g bb wb fi co be si : Nat) (F : Fl) (h : PartAt W pp g fi co be si) (hf : FlashAt W g bb wb F) (hs : be + si ≤ F.dat.length) :
    Calls Try.prog 38 #[.pointer (some ⟨pp, 0, none⟩), .int .i64 0, .int .i64 0] W fun e w' => ∃ v, e = .returned (.tuple #[v, .int .i64 (if F.down = true then 30 else 0)]) ∧ Below W.heap.size W w' := by
  have hsm := hf.ok.small
  by_cases hd : F.down = true
  · have hc : pck F si 0 0 = 30 := by unfold pck; rw [if_pos hd]
    refine (pread_no W pp g bb wb fi co be si F 0 0 h hf (by omega) (by omega) (by omega) (by rw [hc]; decide)).mono ?_
    rintro e w' ⟨rfl, hw⟩
    subst hw
    exact ⟨_, by rw [hc, if_pos hd], Below.refl _ _⟩
  · have hc : pck F si ((0 : Nat) : Int) ((0 : Nat) : Int) = 0 := by unfold pck; rw [if_neg hd, if_neg (by omega)]
    refine (pread_yes W pp g bb wb fi co be si F 0 0 h hf hs hc).mono ?_
    rintro e w' ⟨v, rfl, _, hb⟩
    exact ⟨v, by rw [if_neg hd], hb⟩
set_option maxRecDepth 100000 in
theorem jdown_f (w : World) (jb p0 p1 g bb wb f0 c0 b0 s0 f1 c1 b1 s1 : Nat) (F : Fl) (h0 : w.cell? ⟨jb, 0, none⟩ = some (.pointer (some ⟨p0, 0, none⟩))) (h1 : w.cell? ⟨jb, 1, none⟩ = some (.pointer (some ⟨p1, 0, none⟩)))
    (q0 : PartAt w p0 g f0 c0 b0 s0) (q1 : PartAt w p1 g f1 c1 b1 s1) (hf : FlashAt w g bb wb F) (z0 : b0 + s0 ≤ F.dat.length) (z1 : b1 + s1 ≤ F.dat.length) :
    Calls Try.prog 23 #[.pointer (some ⟨jb, 0, none⟩)] w fun e w' => e = .returned (.bool F.down) ∧ Below w.heap.size w w' := by
  have hr : w.rangeAt jb 0 [.pointer (some ⟨p0, 0, none⟩), .pointer (some ⟨p1, 0, none⟩)] := by
    intro j v hj
    match j, hj with
    | 0, hj => obtain rfl := Option.some.inj hj; exact h0
    | 1, hj => obtain rfl := Option.some.inj hj; exact h1
  go_enter Try.func23, Try.ntmps23
  go_wp2_with (refine wpList_load_mid rfl 56 (.tmp 9) rfl jb 0 rfl [.pointer (some ⟨p0, 0, none⟩), .pointer (some ⟨p1, 0, none⟩)] _ hr Try.underlying56 rfl size89 ?_)
  have i0 := idx0 p0 p1
  have i1 := idx1 p0 p1
  go_loopw [11] (fun i wr => ∃ k : Nat, k ≤ 2 ∧ i = .int .i64 k ∧ Below w.heap.size w wr ∧ (1 ≤ k → F.down = false)) (fun i _ => 2 - (intOf i).toNat)
  case atStart => exact ⟨0, by omega, rfl, Below.refl _ _, fun h => by omega⟩
  case round =>
    obtain ⟨k, hk, rfl, bel, hdn⟩ := hrel
    have bel' := bel
    match k, hk with
    | 0, _ =>
      rw [show (((0 : Nat) : Int)) = 0 from rfl]
      go_wp2_with fail
      refine (pread0 wr p0 g bb wb f0 c0 b0 s0 F (q0.below bel') (hf.below bel') z0).mono ?_
      rintro e w1 ⟨v, rfl, b1⟩
      have B1 := bel.trans (b1.mono bel.size)
      cases hd : F.down with
      | true =>
        rw [if_pos rfl]
        go_wp2
        go_ret
        exact ⟨by rw [hd]; rfl, B1⟩
      | false =>
        rw [if_neg (by decide)]
        go_wp2
        go_roundw
        case rel => exact ⟨1, by omega, by rfl, B1, fun _ => hd⟩
        case measure => simp [intOf]
    | 1, _ =>
      rw [show (((1 : Nat) : Int)) = 1 from rfl]
      go_wp2_with fail
      refine (pread0 wr p1 g bb wb f1 c1 b1 s1 F (q1.below bel') (hf.below bel') z1).mono ?_
      rintro e w1 ⟨v, rfl, b1⟩
      have B1 := bel.trans (b1.mono bel.size)
      cases hd : F.down with
      | true =>
        rw [if_pos rfl]
        go_wp2
        go_ret
        exact ⟨by rw [hd]; rfl, B1⟩
      | false =>
        rw [if_neg (by decide)]
        go_wp2
        go_roundw
        case rel => exact ⟨2, by omega, by rfl, B1, fun _ => hd⟩
        case measure => simp [intOf]
    | 2, _ =>
      rw [show (((2 : Nat) : Int)) = 2 from rfl, hdn (by omega)]
      go_wp2
      go_ret
      exact ⟨by first | rfl | (rw [hdn (by omega)]; rfl), bel⟩
end Go.Proofs.Ytpdlipkmojhnnaa
