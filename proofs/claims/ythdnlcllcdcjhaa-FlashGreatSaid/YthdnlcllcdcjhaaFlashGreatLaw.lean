/-
  FlashGreat: however many sectors of however many bytes are asked, there are as many as said.
-/
import Derived.Test.YthdnlcllcdcjhaaFlashAlive
namespace Go.Proofs.Ythdnlcllcdcjhaa
open Go.RowKit
set_option maxRecDepth 100000 in
set_option maxHeartbeats 1000000 in
theorem great_law (a b : Int) (w : World) :
    Calls Try.prog 3 #[.int .i64 a, .int .i64 b] w fun e w' => e = .returned (.bool true) ∧ Below w.heap.size w w' := by
  obtain ⟨n, hn⟩ : ∃ n : Nat, min (max a 1) 64 = (n : Int) := ⟨(min (max a 1) 64).toNat, by omega⟩
  obtain ⟨m, hm⟩ : ∃ m : Nat, min (max b 16) 4096 = (m : Int) := ⟨(min (max b 16) 4096).toNat, by omega⟩
  have n1 : 1 ≤ n := by omega
  have n2 : n ≤ 64 := by omega
  have m1 : 16 ≤ m := by omega
  have m2 : m ≤ 4096 := by omega
  obtain ⟨k, hk⟩ : ∃ k, n * m = k := ⟨_, rfl⟩
  have hks : k ≤ 262144 := by rw [← hk]; exact Nat.le_trans (Nat.mul_le_mul n2 m2) (by decide)
  have hk1 : 16 ≤ k := by rw [← hk]; exact Nat.le_trans m1 (Nat.le_mul_of_pos_left m n1)
  have hmul : (n : Int) * (m : Int) = (k : Int) := by rw [← hk]; push_cast; rfl
  have hw : IntKind.i64.wrap (k : Int) = (k : Int) := by rw [IntKind.wrap_i64]; omega
  have hnew := fun w => new_f w a b n m hn hm
  obtain ⟨F, hF⟩ : ∃ F, fresh n m = F := ⟨_, rfl⟩
  have fl : F.dat.length = k := by rw [← hF]; simp [fresh, hk]
  have fs : F.sec = m := by rw [← hF]; rfl
  have fw : F.wear.length = n := by rw [← hF]; simp [fresh]
  have fd : F.down = false := by rw [← hF]; rfl
  have fc : F.cut = true → 0 ≤ F.rest := by rw [← hF]; intro h; cases h
  have fg : (if gone F F.sec = true then (30 : Int) else 0) = 0 := by
    have : gone F F.sec = false := by rw [← hF]; rfl
    rw [this]; rfl
  have fp : piece F (k - 1) 1 = [255] := by
    rw [← hF]; unfold piece fresh
    simp only [hk, List.drop_replicate, List.take_replicate]
    rw [show min 1 (k - (k - 1)) = 1 by omega]; rfl
  have q1 : ck F (k : Int) 1 = 1 := by
    unfold ck; rw [fd, fl, if_neg (by decide), if_pos (by omega)]
  have q2 : ck F ((k - 1 : Nat) : Int) (1 : Nat) = 0 := by
    unfold ck; rw [fd, fl, if_neg (by decide), if_neg (by omega)]
  have q3 : hasS F (n : Int) = false := by unfold hasS; rw [fw]; exact decide_eq_false (by omega)
  have k1 : (k : Int) - 1 = ((k - 1 : Nat) : Int) := by omega
  have n3 : (n : Int) - 1 = ((n - 1 : Nat) : Int) := by omega
  have w1 : IntKind.i64.wrap ((k - 1 : Nat) : Int) = ((k - 1 : Nat) : Int) := by rw [IntKind.wrap_i64]; omega
  have w2 : IntKind.i64.wrap ((n - 1 : Nat) : Int) = ((n - 1 : Nat) : Int) := by rw [IntKind.wrap_i64]; omega
  rw [hF] at hnew
  obtain ⟨kp, hkp⟩ : ∃ kp, k - 1 = kp := ⟨_, rfl⟩
  obtain ⟨np, hnp⟩ : ∃ np, n - 1 = np := ⟨_, rfl⟩
  rw [hkp] at fp q2 k1 w1
  rw [hnp] at n3 w2
  have HR := Lib.hid (And.intro hks (And.intro hk1 (And.intro (show np < F.wear.length by omega) (show kp < k by omega))))
  clear hkp hnp hk hks hk1 n1 n2 m1 m2 hF
  go_enter Try.func3, Try.ntmps3
  go_wp2_with fail
  refine (alive_any w).mono ?_
  rintro e u1 ⟨rfl, B1⟩
  go_wp2_with fail
  refine (hnew u1).mono ?_
  rintro e u2 ⟨g, bb, wb, rfl, h2, b2, g0, g1, g2⟩
  have B2 := B1.trans (b2.mono B1.size)
  have hs1 := B1.size
  clear hnew b2 B1
  go_wp2_with fail
  refine (read_no u2 g bb wb F (k : Int) 1 h2 (by omega) (by have := HR.out.1; omega) (by rw [q1]; decide)).mono ?_
  rw [q1]
  rintro e u3 ⟨rfl, hw3⟩
  obtain rfl := hw3.symm
  go_wp2_with fail
  refine (read_c (kp : Int) 1 kp 1 rfl rfl h2 q2).mono ?_
  rintro e u4 ⟨rfl, r4, b4, s4, _⟩
  have h4 := h2.below b4
  have B4 := B2.trans (b4.mono B2.size)
  rw [fp] at r4
  have x0 := r4.at_ 0 255 rfl
  rw [Nat.zero_add] at x0
  clear h2 b4 r4 B2
  go_wp2_with fail
  refine (size_f u4 g bb wb F h4).mono ?_
  rw [fl]
  rintro e u5 ⟨rfl, hw3⟩
  obtain rfl := hw3.symm
  go_wp2_with fail
  refine (sector_f u4 g bb wb F h4).mono ?_
  rw [fs]
  rintro e u5 ⟨rfl, hw3⟩
  obtain rfl := hw3.symm
  go_wp2_with fail
  refine (erase_none u4 g bb wb F (n : Int) h4 fd q3).mono ?_
  rintro e u5 ⟨rfl, hw3⟩
  obtain rfl := hw3.symm
  go_wp2_with fail
  refine (erase_yes u4 g bb wb F np h4 fd HR.out.2.2.1 fc).mono ?_
  rw [fg]
  rintro e u5 ⟨rfl, h5, b5⟩
  have B5 := B4.trans (b5.toBelow B4.size (by omega) (by omega) (by omega))
  go_wp2
  go_ret
  exact ⟨rfl, B5⟩
end Go.Proofs.Ythdnlcllcdcjhaa
