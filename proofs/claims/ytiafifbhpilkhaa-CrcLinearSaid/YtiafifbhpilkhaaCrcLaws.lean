/-
  The statements of layer 2, walked.
-/
import Derived.Test.YtiafifbhpilkhaaCrcAlive
import Derived.StillTailTactics
namespace Go.Proofs.Ytiafifbhpilkhaa
open Go.RowKit
theorem wf_u32 {x : Int} (h : (Lit.int .u32 x).wf = true) : 0 ≤ x ∧ x < 4294967296 := by
  have : 0 ≤ x ∧ x ≤ 4294967295 := by simpa [Lit.wf, IntKind.min, IntKind.max, IntKind.signed, IntKind.bits] using h
  omega
theorem same_yes {A1 A2 : Option Addr} {n1 c1 n2 c2 : Nat} {l : List UInt8} {w : World} {B1 B2 : Nat} (h1 : Bs w B1 A1 n1 l) (h2 : Bs w B2 A2 n2 l) (hn : l.length ≤ 1000000) :
    Calls Try.prog 13 #[.slice A1 n1 c1, .slice A2 n2 c2] w fun e w' => e = .returned (.bool true) ∧ Below w.heap.size w w' :=
  (same_any A1 A2 n1 c1 n2 c2 l l w B1 B2 h1 h2 (by have := h1.len; omega) (by have := h2.len; omega)).mono fun e w' ⟨he, hq⟩ => ⟨by rw [he, decide_eq_true rfl], quiet_below hq⟩
theorem p32_len (l : List UInt8) (x : Int) (h : l.length ≤ 100000) : (l ++ p32 x).length ≤ 1000000 := by simp [p32]; omega
theorem p16_len (l : List UInt8) (x : Int) (h : l.length ≤ 100000) : (l ++ p16 x).length ≤ 1000000 := by simp [p16]; omega
set_option maxHeartbeats 1000000 in
theorem numbers_law (A : Option Addr) (n c : Nat) (l : List UInt8) (x y : Int) (w : World) (hbs : Bs w w.heap.size A n l) (_hc : n ≤ c) (hx : (Lit.int .u32 x).wf = true) :
    Calls Try.prog 4 #[.slice A n c, .int .u32 x, .int .i64 y] w fun e w' => e = .returned (.bool true) ∧ Below w.heap.size w w' := by
  obtain ⟨x0, x1⟩ := wf_u32 hx
  clear hx
  have hlen := Lib.hid hbs.len
  by_cases hn : n ≤ 2000
  · have hn' : (n : Int) ≤ 2000 := by omega
    go_enter Try.func4, Try.ntmps4
    go_wp2_with fail
    refine (alive_any w).mono ?_
    rintro e w1 ⟨rfl, B1⟩
    have hb1 := hbs.below B1
    go_wp2_with fail
    refine (get32_any _ _ _ _ _ _ hb1).mono ?_
    rintro e w2 ⟨rfl, hq⟩
    have hw2 := quiet_below hq
    have B2 := next B1 hw2
    have hb2 := hbs.below B2
    clear hq hw2 B1 hb1
    go_wp2_with fail
    refine (rget32_any _ _ _ _ _ _ hb2).mono ?_
    rintro e w3 ⟨rfl, hq⟩
    have hw3 := quiet_below hq
    have B3 := next B2 hw3
    have hb3 := hbs.below B3
    clear hq hw3 B2 hb2
    go_wp2_with fail
    refine (get16_any _ _ _ _ _ _ hb3).mono ?_
    rintro e w4 ⟨rfl, hq⟩
    have hw4 := quiet_below hq
    have B4 := next B3 hw4
    have hb4 := hbs.below B4
    clear hq hw4 B3 hb3
    go_wp2_with fail
    refine (rget16_any _ _ _ _ _ _ hb4).mono ?_
    rintro e w5 ⟨rfl, hq⟩
    have hw5 := quiet_below hq
    have B5 := next B4 hw5
    have hb5 := hbs.below B5
    clear hq hw5 B4 hb4
    go_wp2_with fail
    refine (put32_any _ _ _ x l w5 _ hb5 B5.size (by omega) x0 x1).mono ?_
    intro e w6 hret
    obtain ⟨A6, N6, c6, rfl, hc6, hN6, hr6, hw6⟩ := hret.slice_
    have B6 := next B5 hw6
    have hb6 := hbs.below B6
    clear hret hw6 hc6 B5 hb5
    go_wp2_with fail
    refine (rput32_any _ _ _ x l w6 _ hb6 B6.size (by omega) x0 x1).mono ?_
    intro e w7 hret
    obtain ⟨A7, N7, c7, rfl, hc7, hN7, hr7, hw7⟩ := hret.slice_
    have B7 := next B6 hw7
    have hr6 := hr6.below hw7
    have hb7 := hbs.below B7
    clear hret hw7 hc7 B6 hb6
    go_wp2_with fail
    refine (same_yes hr6 hr7 (p32_len l x (by rw [hlen.out]; omega))).mono ?_
    rintro e w8 ⟨rfl, hw8⟩
    have B8 := next B7 hw8
    have hb8 := hbs.below B8
    clear hw8 B7 hb7 hr6 hr7
    go_wp2_with fail
    refine (put16_any _ _ _ y l w8 _ hb8 B8.size (by omega)).mono ?_
    intro e w9 hret
    obtain ⟨A9, N9, c9, rfl, hc9, hN9, hr9, hw9⟩ := hret.slice_
    have B9 := next B8 hw9
    have hb9 := hbs.below B9
    clear hret hw9 hc9 B8 hb8
    go_wp2_with fail
    refine (rput16_any _ _ _ y l w9 _ hb9 B9.size (by omega)).mono ?_
    intro e w10 hret
    obtain ⟨A10, N10, c10, rfl, hc10, hN10, hr10, hw10⟩ := hret.slice_
    have B10 := next B9 hw10
    have hr9 := hr9.below hw10
    clear hret hw10 hc10 B9 hb9
    go_wp2_with fail
    refine (same_yes hr9 hr10 (p16_len l y (by rw [hlen.out]; omega))).mono ?_
    rintro e w11 ⟨rfl, hw11⟩
    have B11 := next B10 hw11
    clear hw11 B10 hr9 hr10
    go_wp2
    go_ret
    exact ⟨rfl, B11⟩
  · have hn' : 2000 < (n : Int) := by omega
    go_enter Try.func4, Try.ntmps4
    go_wp2_with fail
    refine (alive_any w).mono ?_
    rintro e w1 ⟨rfl, B1⟩
    go_wp2
    go_ret
    exact ⟨rfl, B1⟩
theorem seals_len (l : List UInt8) (h : l.length ≤ 100000) : (seals l).length ≤ 1000000 := p32_len l _ h
theorem opens_len (l : List UInt8) (h : l.length ≤ 100000) : ((opens l).getD []).length ≤ 1000000 := by
  unfold opens
  split
  · simp
  · split
    · simp; omega
    · simp
set_option maxHeartbeats 1000000 in
theorem sums_law (A : Option Addr) (n c : Nat) (l : List UInt8) (w : World) (hbs : Bs w w.heap.size A n l) (hc : n ≤ c) :
    Calls Try.prog 3 #[.slice A n c] w fun e w' => e = .returned (.bool true) ∧ Below w.heap.size w w' := by
  have hlen := Lib.hid hbs.len
  by_cases hn : n ≤ 2000
  · have hn' : (n : Int) ≤ 2000 := by omega
    go_enter Try.func3, Try.ntmps3
    go_wp2_with fail
    refine (alive_any w).mono ?_
    rintro e w1 ⟨rfl, B1⟩
    have hb1 := hbs.below B1
    go_wp2_with fail
    refine (open_any _ _ _ l w1 _ hb1 B1.size (by omega) hc).mono ?_
    rintro e w2 ⟨A2, N2, c2, rfl, hc2, hr2, hw2⟩
    have B2 := next B1 hw2
    have hb2 := hbs.below B2
    clear hw2 B1 hb1
    go_wp2_with fail
    refine (ropen_any _ _ _ l w2 _ hb2 B2.size (by omega) hc).mono ?_
    rintro e w3 ⟨A3, N3, c3, rfl, hc3, hr3, hw3⟩
    have B3 := next B2 hw3
    have hr2 := hr2.below hw3
    have hb3 := hbs.below B3
    clear hw3 B2 hb2
    go_wp2_with fail
    refine (sum_any _ _ _ l w3 _ hb3 (by omega)).mono ?_
    rintro e w4 ⟨rfl, rfl⟩
    go_wp2_with fail
    refine (rsum_any _ _ _ l w3 _ hb3 (by omega)).mono ?_
    rintro e w4 ⟨rfl, rfl⟩
    go_wp2_with fail
    refine (seal_any _ _ _ l w3 _ hb3 B3.size (by omega)).mono ?_
    intro e w6 hret
    obtain ⟨A6, N6, c6, rfl, hc6, hN6, hr6, hw6⟩ := hret.slice_
    have B6 := next B3 hw6
    have hb6 := hbs.below B6
    have hr2 := hr2.lt.below hw6
    have hr3 := hr3.below hw6
    clear hret hw6 hc6 B3 hb3
    go_wp2_with fail
    refine (rseal_any _ _ _ l w6 _ hb6 B6.size (by omega)).mono ?_
    intro e w7 hret
    obtain ⟨A7, N7, c7, rfl, hc7, hN7, hr7, hw7⟩ := hret.slice_
    have B7 := next B6 hw7
    have hr6 := hr6.below hw7
    have hr2 := hr2.lt.below hw7
    have hr3 := hr3.lt.below hw7
    clear hret hw7 hc7 B6 hb6
    go_wp2_with fail
    refine (same_yes hr6 hr7 (seals_len l (by rw [hlen.out]; omega))).mono ?_
    rintro e w8 ⟨rfl, hw8⟩
    have B8 := next B7 hw8
    have hr2 := hr2.lt.below hw8
    have hr3 := hr3.lt.below hw8
    clear hw8 B7 hr6 hr7
    go_wp2_with fail
    refine (same_yes hr2 hr3 (opens_len l (by rw [hlen.out]; omega))).mono ?_
    rintro e w9 ⟨rfl, hw9⟩
    have B9 := next B8 hw9
    go_wp2
    go_ret
    exact ⟨rfl, B9⟩
  · have hn' : 2000 < (n : Int) := by omega
    go_enter Try.func3, Try.ntmps3
    go_wp2_with fail
    refine (alive_any w).mono ?_
    rintro e w1 ⟨rfl, B1⟩
    go_wp2
    go_ret
    exact ⟨rfl, B1⟩
theorem and8191 (x : Int) : bits .and .i64 x 8191 = x % 8192 := by
  show IntKind.i64.wrap ((BitVec.ofInt 64 x &&& BitVec.ofInt 64 8191).toNat : Int) = x % 8192
  rw [BitVec.toNat_and, show (BitVec.ofInt 64 8191).toNat = 2 ^ 13 - 1 from rfl, Nat.and_two_pow_sub_one_eq_mod, BitVec.toNat_ofInt, IntWalk.i64_in _ (by omega)]
  omega
theorem at_walk (x : Int) (n : Nat) (hn : 0 < n) (h : n ≤ 1000) : ∃ a : Nat, a < 8 * n ∧ (bits .and .i64 x 8191).tmod (8 * (n : Int)) = (a : Int) := by
  rw [and8191, Int.tmod_eq_emod_of_nonneg (by omega)]
  refine ⟨(x % 8192 % (8 * (n : Int))).toNat, ?_, ?_⟩
  · have := Int.emod_lt_of_pos (x % 8192) (show (0 : Int) < 8 * n by omega)
    have := Int.emod_nonneg (x % 8192) (show (8 * (n : Int)) ≠ 0 by omega)
    omega
  · have := Int.emod_nonneg (x % 8192) (show (8 * (n : Int)) ≠ 0 by omega)
    omega
theorem turn_sums (at_ : Nat) (m : BitVec 32) (l : List UInt8) (h : at_ < 8 * l.length) :
    (((sum (turnN at_ m l 32)).toNat : Int) == ((sum l).toNat : Int)) = decide (turnN at_ m l 32 = l) := by
  have e : sum (turnN at_ m l 32) = sum l ↔ turnN at_ m l 32 = l := by
    rw [sum_eq, sum_eq, ← turn_iff at_ m ones l h]
    exact BitVec.not_inj
  by_cases h1 : turnN at_ m l 32 = l
  · rw [decide_eq_true h1, e.2 h1]; simp
  · rw [decide_eq_false h1, beq_eq_false_iff_ne]
    intro h2
    exact h1 (e.1 (BitVec.eq_of_toNat_eq (by omega)))
set_option maxHeartbeats 1000000 in
theorem turns_law (A : Option Addr) (n c : Nat) (l : List UInt8) (x : Int) (y : Int) (w : World) (hbs : Bs w w.heap.size A n l) (_hc : n ≤ c) (hy : (Lit.int .u32 y).wf = true) :
    Calls Try.prog 6 #[.slice A n c, .int .i64 x, .int .u32 y] w fun e w' => e = .returned (.bool true) ∧ Below w.heap.size w w' := by
  obtain ⟨y0, y1⟩ := wf_u32 hy
  clear hy
  have hlen := Lib.hid hbs.len
  by_cases hn : n ≤ 1000
  · by_cases h0 : n = 0
    · subst h0
      go_enter Try.func6, Try.ntmps6
      go_wp2_with fail
      refine (alive_any w).mono ?_
      rintro e w1 ⟨rfl, B1⟩
      go_wp2
      go_ret
      exact ⟨rfl, B1⟩
    · have hn' : (n : Int) ≤ 1000 := by omega
      obtain ⟨m, rfl⟩ : ∃ m : BitVec 32, y = (m.toNat : Int) := ⟨BitVec.ofInt 32 y, by rw [BitVec.toNat_ofInt]; omega⟩
      obtain ⟨a, ha, hat⟩ := at_walk x n (by omega) hn
      have Hat := Lib.hid hat; clear hat
      have Ha := Lib.hid (turn_sums a m l (by rw [hlen.out]; exact ha))
      clear y0 y1
      have hz : ((n : Int) == 0) = false := by rw [beq_eq_false_iff_ne]; omega
      have hn0 : 0 < (n : Int) := by omega
      clear hn h0
      go_enter Try.func6, Try.ntmps6
      go_wp2_with fail
      refine (alive_any w).mono ?_
      rintro e w1 ⟨rfl, B1⟩
      go_wp2_with fail
      rw [Hat.out]
      have hb1 := hbs.below B1
      refine (turn_any _ _ _ a m l w1 _ hb1 B1.size (by omega) (by omega)).mono ?_
      intro e w2 hret
      obtain ⟨A2, N2, c2, rfl, hc2, hN2, hr2, hw2⟩ := hret.slice_
      have hN2' : N2 ≤ 1000 := by rw [hN2.out, turnN_length, hlen.out]; omega
      have B2 := next B1 hw2
      have hb2 := hbs.below B2
      clear hret hw2 hc2 B1 hb1
      go_wp2_with fail
      refine (sum_any _ _ _ _ w2 _ hr2 (by omega)).mono ?_
      rintro e w3 ⟨rfl, rfl⟩
      go_wp2_with fail
      refine (sum_any _ _ _ l w2 _ hb2 (by omega)).mono ?_
      rintro e w3 ⟨rfl, rfl⟩
      go_wp2_with fail
      refine (same_any _ _ _ _ _ _ _ _ w2 _ _ hr2 hb2 (by omega) (by omega)).mono ?_
      rintro e w3 ⟨rfl, hq⟩
      have B3 := next B2 (quiet_below hq)
      have ha' := Ha.out
      go_wp2
      go_ret
      exact ⟨rfl, B3⟩
  · have hn' : 1000 < (n : Int) := by omega
    go_enter Try.func6, Try.ntmps6
    go_wp2_with fail
    refine (alive_any w).mono ?_
    rintro e w1 ⟨rfl, B1⟩
    go_wp2
    go_ret
    exact ⟨rfl, B1⟩
end Go.Proofs.Ytiafifbhpilkhaa
