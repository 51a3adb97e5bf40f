/-
  bytes.Clone: new bytes.
-/
import Derived.Test.YtmaeofhgbelciaaCrcWalks
import Derived.Test.YtmaeofhgbelciaaRowK
namespace Go.Proofs.Ytmaeofhgbelciaa
open Go.RowKit
set_option maxRecDepth 100000
set_option linter.unusedVariables false
set_option maxHeartbeats 400000 in
theorem clone_f (A : Option Addr) (n c : Nat) (l : List UInt8) (w : World) (B : Nat) (hbs : Bs w B A n l) (hB : B ≤ w.heap.size) (hn : (n : Int) ≤ 140737488355328) :
    Calls Try.prog 49 #[.slice A n c] w (RetOwn 5 l w) := by
  obtain ⟨i0, hi0, hz0, hz1, hz2⟩ := info_parts info_u8
  have hnil : ∀ W, (binOp .eql 31 (.slice A n c) (.slice none 0 0)).run Try.prog W = .ok (.bool A.isNone) W := fun W => Lib.run_eql_slice_nil W _ _ A n c _ _ Try.underlying31
  have hlen := Lib.hid hbs.len
  cases A with
  | none =>
    have hn0 : n = 0 := by
      rcases Nat.eq_zero_or_pos n with h | h
      · exact h
      · obtain ⟨_, _, e, _⟩ := hbs.place h
        cases e
    have hl : l = [] := List.eq_nil_of_length_eq_zero (by rw [hlen.out, hn0])
    have HL := Lib.hid hl
    clear hl hn0
    go_enter Try.func49, Try.ntmps49
    go_wp2
    go_ret
    refine ⟨_, rfl, ?_, Below.refl _ _⟩
    rw [HL.out]
    exact World.ownsRow_nil _ _ _ _
  | some ad =>
    go_enter Try.func49, Try.ntmps49
    go_wp2_with (at_builtin; refine wpList_append_bs _ rfl (.tmp 5) (.tmp 6) 31 rfl w.heap.size 5 i0 Try.underlying31 hi0 hz0 hz1 hz2 _ 0 _ rfl (rk_empty w _ (Nat.le_refl _) _ _) B (some ad) n c l rfl (hbs.alloc hB _) (by omega) (by rw [alloc_size]; omega) ?_; intro v' w1 hown1 hgrow)
    go_ret
    refine ⟨_, rfl, ?_, ((Below.refl w.heap.size w).alloc (Nat.le_refl _) _).grown hgrow (by rw [alloc_size]; omega) (own_ge (rk_empty w _ (Nat.le_refl _) 5 1))⟩
    rw [hlen.out]
    simpa using hown1
end Go.Proofs.Ytmaeofhgbelciaa
