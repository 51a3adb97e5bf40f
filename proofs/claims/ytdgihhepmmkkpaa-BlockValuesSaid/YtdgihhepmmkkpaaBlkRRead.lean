/-
  Values as blocks, by the document.
-/
import Derived.Test.YtdgihhepmmkkpaaBlkVal
namespace Go.Proofs.Ytdgihhepmmkkpaa
open Go.RowKit
set_option maxRecDepth 100000
set_option linter.unusedVariables false
set_option maxHeartbeats 4000000 in
theorem rbread_f (A : Option Addr) (n c : Nat) (l : List UInt8) (w : World) (B : Nat) (hbs : Bs w B A n l) (hB : B ≤ w.heap.size) :
    Calls Try.prog 18 #[.slice A n c] w (BRRet (blkR l) w) := by
  have hl := hbs.len
  have HZ := Lib.hid (Z3.new_ w 42 #[.int .i64 0, .bool false, .int .i64 0] rfl)
  by_cases h3 : (3 : Int) < n
  · have hr : blkR l = ((0, false, 0), 20) := by unfold blkR; rw [if_pos (by omega)]
    rw [hr]
    clear hbs hl hr
    go_enter Try.func18, Try.ntmps18
    go_wp2
    have hst := HZ.out.stored [.int .i64 0, .bool false, .int .i64 0] rfl
    refine bodyPost_ret (results_ct rfl _ _ w.heap.size 0 [.int .i64 0, .bool false, .int .i64 0] _ rfl (by first | exact hst.1 | exact range_box w _ _ rfl) Try.underlying42 rfl size_rblk) rfl ?_
    exact ⟨rfl, by first | exact hst.2 | exact alloc_below _ _⟩
  · have hnum := fun W (b : Below w.heap.size w W) => rnumber_f A n c l W B (hbs.below' b hB)
    have hlt := numOf_lt l
    have hp := Nat.pow_le_pow_right (n := 256) (by decide) (show l.length ≤ 3 by omega)
    have hk : (256 : Nat) ^ 3 = 16777216 := by decide
    have hN : numOf l < 16777216 := by omega
    have hnb : numB l = ((numOf l : Int), true) := by unfold numB; rw [if_neg (by omega)]
    rw [hnb] at hnum
    have hr : blkR l = if numOf l % 8 = 7 then ((0, false, 0), 20) else ((((numOf l / 16 : Nat) : Int), decide (numOf l / 8 % 2 = 1), ((16 * 2 ^ (numOf l % 8) : Nat) : Int)), 0) := by unfold blkR; rw [if_neg (by omega)]
    obtain ⟨R, hRR⟩ : ∃ R, blkR l = R := ⟨_, rfl⟩
    rw [hRR] at hr ⊢
    generalize numOf l = N at *
    have hNI : (N : Int) < 16777216 := by omega
    have h8 : N % 8 < 8 := Nat.mod_lt _ (by decide)
    obtain ⟨s, hs⟩ : ∃ s, N % 8 = s := ⟨_, rfl⟩
    rw [hs] at hr h8
    have t1 : (N : Int).tmod 8 = (s : Int) := by rw [Int.tmod_eq_emod_of_nonneg (by omega)]; omega
    have t2 : (N : Int) % 8 = (s : Int) := by omega
    obtain ⟨M, hM⟩ : ∃ M, N / 16 = M := ⟨_, rfl⟩
    have t3 : (N : Int).tdiv 16 = (M : Int) := by rw [Int.tdiv_eq_ediv_of_nonneg (by omega)]; omega
    have t4 : (N : Int) / 16 = (M : Int) := by omega
    obtain ⟨K, hK⟩ : ∃ K, N / 8 = K := ⟨_, rfl⟩
    have t5 : (N : Int).tdiv 8 = (K : Int) := by rw [Int.tdiv_eq_ediv_of_nonneg (by omega)]; omega
    have t6 : (N : Int) / 8 = (K : Int) := by omega
    obtain ⟨q, hq⟩ : ∃ q, K % 2 = q := ⟨_, rfl⟩
    have t7 : (K : Int).tmod 2 = (q : Int) := by rw [Int.tmod_eq_emod_of_nonneg (by omega)]; omega
    have t8 : (K : Int) % 2 = (q : Int) := by omega
    have hMI : (M : Int) < 16777216 := by omega
    have hKI : (K : Int) < 16777216 := by omega
    rw [hM, hK, hq] at hr
    have HA := Lib.hid (And.intro hnum hr)
    clear hnum hlt hp hk hN hnb hr hbs hl hRR hs hM hK
    by_cases h7 : s = 7
    · have g7 : ((s : Int) == 7) = true := by rw [h7]; rfl
      have HR := Lib.hid h7
      clear h7
      go_enter Try.func18, Try.ntmps18
      go_wp2_with (go_at_call 50; refine (HA.out.1 _ (alloc_below _ _)).mono ?_; rintro e w1 ⟨rfl, hw⟩; obtain rfl := hw.symm)
      have hst := HZ.out.stored [.int .i64 0, .bool false, .int .i64 0] rfl
      refine bodyPost_ret (results_ct rfl _ _ w.heap.size 0 [.int .i64 0, .bool false, .int .i64 0] _ rfl (by first | exact hst.1 | exact range_box w _ _ rfl) Try.underlying42 rfl size_rblk) rfl ?_
      rw [HA.out.2, if_pos HR.out]
      exact ⟨rfl, by first | exact hst.2 | exact alloc_below _ _⟩
    · have g7 : ((s : Int) == 7) = false := beq_eq_false_iff_ne.2 (by omega)
      have hsI : (s : Int) ≤ 6 := by omega
      have HR := Lib.hid h7
      clear h7
      go_enter Try.func18, Try.ntmps18
      go_wp2_with (go_at_call 50; refine (HA.out.1 _ (alloc_below _ _)).mono ?_; rintro e w1 ⟨rfl, hw⟩; obtain rfl := hw.symm)
      go_loop [6, 7] (fun m i => ∃ k P : Nat, k ≤ s ∧ i = .int .i64 k ∧ m = .int .i64 P ∧ P ≤ 1024 ∧ Aside (P = 16 * 2 ^ k)) (fun _ i => s - (intOf i).toNat)
      case atStart => exact ⟨0, 16, by omega, rfl, rfl, by omega, rfl⟩
      case round =>
        obtain ⟨k, P, hk, rfl, rfl, hP, hP2⟩ := hrel
        by_cases hks : k < s
        · have g1 : (k : Int) < s := by omega
          have hP3 : Aside (P * 2 = 16 * 2 ^ (k + 1)) := by
            show P * 2 = _
            rw [hP2.out, Nat.pow_succ, Nat.mul_assoc]
          have hP4 : P * 2 ≤ 1024 := by
            rw [hP3.out]
            have := Nat.pow_le_pow_right (n := 2) (by decide) (show k + 1 ≤ 6 by omega)
            omega
          have hk6 : (k : Int) ≤ 6 := by omega
          clear hP2
          go_wp2
          go_round
          case rel => exact ⟨k + 1, P * 2, by omega, by first | rfl | go_num, by first | rfl | go_num, hP4, hP3⟩
          case measure => simp [intOf]; omega
        · obtain rfl : k = s := by omega
          have HP := Lib.hid hP2.out
          clear hP2
          have hqc : (((q : Int) == 1) = true ∧ q = 1) ∨ (((q : Int) == 1) = false ∧ ¬ q = 1) := by
            by_cases e : q = 1
            · exact .inl ⟨by rw [e]; rfl, e⟩
            · exact .inr ⟨beq_eq_false_iff_ne.2 (by omega), e⟩
          rcases hqc with ⟨gq, eq⟩ | ⟨gq, eq⟩
          · have HQ := Lib.hid eq
            clear eq hq
            go_wp2
            have hst := HZ.out.stored [.int .i64 (M : Int), .bool true, .int .i64 (P : Int)] rfl
            refine bodyPost_ret (results_ct rfl _ _ w.heap.size 0 [.int .i64 (M : Int), .bool true, .int .i64 (P : Int)] _ rfl (by first | exact hst.1 | exact range_box w _ _ rfl) Try.underlying42 rfl size_rblk) rfl ?_
            rw [HA.out.2, if_neg HR.out, HQ.out, ← HP.out]
            exact ⟨rfl, by first | exact hst.2 | exact alloc_below _ _⟩
          · have HQ := Lib.hid eq
            clear eq hq
            go_wp2
            have hst := HZ.out.stored [.int .i64 (M : Int), .bool false, .int .i64 (P : Int)] rfl
            refine bodyPost_ret (results_ct rfl _ _ w.heap.size 0 [.int .i64 (M : Int), .bool false, .int .i64 (P : Int)] _ rfl (by first | exact hst.1 | exact range_box w _ _ rfl) Try.underlying42 rfl size_rblk) rfl ?_
            rw [HA.out.2, if_neg HR.out, decide_eq_false HQ.out, ← HP.out]
            exact ⟨rfl, by first | exact hst.2 | exact alloc_below _ _⟩
end Go.Proofs.Ytdgihhepmmkkpaa
