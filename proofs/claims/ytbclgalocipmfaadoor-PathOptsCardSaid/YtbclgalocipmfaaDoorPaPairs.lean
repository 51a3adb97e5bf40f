/-
  The same pairs.
-/
import Derived.Test.YtbclgalocipmfaaDoorPaCond
namespace Go.Proofs.YtbclgalocipmfaaDoor
open Go.RowKit
set_option maxRecDepth 100000
set_option maxRecDepth 100000
set_option linter.unusedVariables false
set_option maxHeartbeats 2000000 in
theorem samepairs_f (A1 A2 : Option Addr) (n c1 c2 : Nat) (X : List Pr) (w : World) (B1 B2 : Nat) (h1 : prK.At w B1 A1 n X) (h2 : prK.At w B2 A2 n X) (hn : n ≤ 1000000) :
    Calls Tryd.prog 28 #[.slice A1 n c1, .slice A2 n c2] w fun e w' => e = .returned (.bool true) ∧ ∃ m, w' = w.drewN m := by
  have hl1 := Lib.hid h1.len
  have hnI : (n : Int) ≤ 1000000 := by omega
  have hb : ((n : Int) != (n : Int)) = false := by simp
  go_enter Tryd.func28, Tryd.ntmps28
  go_wp2
  go_loopw [5] (fun i wr => ∃ k : Nat, k ≤ n ∧ i = .int .i64 k ∧ Aside (∃ m, wr = w.drewN m)) (fun i _ => n - (intOf i).toNat)
  case atStart => exact ⟨0, by omega, rfl, (show Aside _ from ⟨0, rfl⟩)⟩
  case round =>
    obtain ⟨k, hk, rfl, hrel⟩ := hrel
    obtain ⟨q, rfl⟩ := hrel.out
    clear hrel
    by_cases hlt : k < n
    · have hltI : (k : Int) < n := by omega
      obtain ⟨b1, o1, rfl, hb1, hc1⟩ := h1.place (by omega)
      obtain ⟨b2, o2, rfl, hb2, hc2⟩ := h2.place (by omega)
      obtain ⟨p, hp⟩ := h1.get hlt
      have a1 : w.cell? ⟨b1, o1 + k * 3, none⟩ = some (.string p.nm) := hc1 k p hp 0 _ rfl
      have a2 : w.cell? ⟨b1, o1 + k * 3 + 1, none⟩ = some (.string p.vl) := hc1 k p hp 1 _ rfl
      have a3 : w.cell? ⟨b1, o1 + k * 3 + 2, none⟩ = some (.bool p.bare) := hc1 k p hp 2 _ rfl
      have d1 : w.cell? ⟨b2, o2 + k * 3, none⟩ = some (.string p.nm) := hc2 k p hp 0 _ rfl
      have d2 : w.cell? ⟨b2, o2 + k * 3 + 1, none⟩ = some (.string p.vl) := hc2 k p hp 1 _ rfl
      have d3 : w.cell? ⟨b2, o2 + k * 3 + 2, none⟩ = some (.bool p.bare) := hc2 k p hp 2 _ rfl
      obtain ⟨pn, pv, pb⟩ := p
      dsimp only at a1 a2 a3 d1 d2 d3
      have s1 : (pn.toList != pn.toList) = false := by simp
      have s2 : (pv.toList != pv.toList) = false := by simp
      have s3 : (pb != pb) = false := by simp
      clear hc1 hc2 hp
      go_wp2
      go_quiet (fail)
      go_wp2
      go_roundw
      case rel => exact ⟨k + 1, by omega, by go_num, (show Aside _ from ⟨_, rfl⟩)⟩
      case measure => simp [intOf]; omega
    · have hltI : ¬ (k : Int) < n := by omega
      go_wp2
      go_ret
      exact ⟨rfl, _, rfl⟩
end Go.Proofs.YtbclgalocipmfaaDoor
