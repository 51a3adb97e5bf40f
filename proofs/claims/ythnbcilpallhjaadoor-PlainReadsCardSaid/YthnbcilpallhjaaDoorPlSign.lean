/-
  The document's 'sign': the first sign of a text.
-/
import Derived.Test.YthnbcilpallhjaaDoorBase
import Derived.Test.YthnbcilpallhjaaDoorMem
import Derived.Lib.Hide
import Derived.Lib.ValidLaws
import Derived.Deep.CutRange
import Derived.Deep.CutBlock
import Derived.Below
namespace Go.Proofs.YthnbcilpallhjaaDoor
open Go.RowKit
set_option maxRecDepth 100000
set_option maxRecDepth 100000
set_option linter.unusedVariables false
def signN (n b0 b1 b2 b3 : Nat) : Nat × Nat := if Lib.decodeN n b0 b1 b2 b3 = (65533, 1) then (0, 0) else ((Lib.decodeN n b0 b1 b2 b3).2, (Lib.decodeN n b0 b1 b2 b3).1)
theorem sign_low {n b0 b1 b2 b3 : Nat} (h : b0 < 128) : signN n b0 b1 b2 b3 = (1, b0) := by
  have e : Lib.decodeN n b0 b1 b2 b3 = (b0, 1) := if_pos h
  unfold signN
  rw [e, if_neg]
  intro h
  injection h with h
  omega
theorem sign_bad {n b0 b1 b2 b3 : Nat} (h : (128 ≤ b0 ∧ b0 < 194) ∨ (245 ≤ b0 ∧ b0 < 256)) : signN n b0 b1 b2 b3 = (0, 0) := by
  unfold signN
  rw [Lib.decodeN_bad n b0 b1 b2 b3 h, if_pos rfl]
theorem sign_of {n b0 b1 b2 b3 k c : Nat} {p : Prop} [Decidable p] (hk : 2 ≤ k) (hd : Lib.decodeN n b0 b1 b2 b3 = if p then (c, k) else (65533, 1)) : signN n b0 b1 b2 b3 = if p then (k, c) else (0, 0) := by
  unfold signN
  rw [hd]
  by_cases h : p
  · rw [if_pos h, if_pos h, if_neg]
    intro e
    injection e with _ e
    omega
  · rw [if_neg h, if_neg h, if_pos rfl]
set_option maxHeartbeats 4000000 in
theorem sign_two {n b0 b1 b2 b3 : Nat} (h : 194 ≤ b0 ∧ b0 < 224) : signN n b0 b1 b2 b3 = if 2 ≤ n ∧ (128 ≤ b1 ∧ b1 ≤ 191) then (2, (b0 - 192) * 64 + b1 - 128) else (0, 0) := by
  refine sign_of (by omega) ?_
  unfold Lib.decodeN
  repeat' split
  all_goals first | rfl | (exfalso; omega) | (refine Prod.ext ?_ rfl; show (_ : Nat) = _; dsimp only; omega)
set_option maxHeartbeats 4000000 in
theorem sign_three {n b0 b1 b2 b3 : Nat} (h : 224 ≤ b0 ∧ b0 < 240) : signN n b0 b1 b2 b3 = if 3 ≤ n ∧ (128 ≤ b1 ∧ b1 ≤ 191) ∧ (128 ≤ b2 ∧ b2 ≤ 191) ∧ 2048 ≤ ((b0 - 224) * 64 + b1 - 128) * 64 + b2 - 128 ∧ ¬ (55296 ≤ ((b0 - 224) * 64 + b1 - 128) * 64 + b2 - 128 ∧ ((b0 - 224) * 64 + b1 - 128) * 64 + b2 - 128 < 57344) then (3, ((b0 - 224) * 64 + b1 - 128) * 64 + b2 - 128) else (0, 0) := by
  refine sign_of (by omega) ?_
  unfold Lib.decodeN
  repeat' split
  all_goals first | rfl | (exfalso; omega) | (refine Prod.ext ?_ rfl; show (_ : Nat) = _; dsimp only; omega)
set_option maxHeartbeats 8000000 in
theorem sign_four {n b0 b1 b2 b3 : Nat} (h : 240 ≤ b0 ∧ b0 < 245) : signN n b0 b1 b2 b3 = if 4 ≤ n ∧ (128 ≤ b1 ∧ b1 ≤ 191) ∧ (128 ≤ b2 ∧ b2 ≤ 191) ∧ (128 ≤ b3 ∧ b3 ≤ 191) ∧ 65536 ≤ (((b0 - 240) * 64 + b1 - 128) * 64 + b2 - 128) * 64 + b3 - 128 ∧ (((b0 - 240) * 64 + b1 - 128) * 64 + b2 - 128) * 64 + b3 - 128 ≤ 1114111 then (4, (((b0 - 240) * 64 + b1 - 128) * 64 + b2 - 128) * 64 + b3 - 128) else (0, 0) := by
  refine sign_of (by omega) ?_
  unfold Lib.decodeN
  repeat' split
  all_goals first | rfl | (exfalso; omega) | (refine Prod.ext ?_ rfl; show (_ : Nat) = _; dsimp only; omega)
def signS (s : ByteArray) : Nat × Nat := signN s.size (s.get! 0).toNat (s.get! 1).toNat (s.get! 2).toNat (s.get! 3).toNat
set_option maxHeartbeats 8000000 in
theorem sign_f (s : ByteArray) (w : World) (h0 : 0 < s.size) : Calls Tryd.prog 71 #[.string s] w fun e w' => e = .returned (.tuple #[.int .i64 ((signS s).1 : Int), .int .i64 ((signS s).2 : Int)]) ∧ ∃ m, w' = w.drewN m := by
  have h0I : (0 : Int) < (s.size : Int) := by omega
  obtain ⟨x0, hx0⟩ : ∃ x, s.get! 0 = x := ⟨_, rfl⟩
  have hs0 : s[0]'(by omega) = x0 := by rw [← hx0]; exact (Utf8W.get!_of_lt s 0 (by omega)).symm
  unfold signS
  rw [hx0]
  obtain ⟨B, hB⟩ : ∃ B : Int, (x0.toNat : Int) = B := ⟨_, rfl⟩
  have hBb : 0 ≤ B ∧ B < 256 := by have := x0.toNat_lt; omega
  have hw0 : wrap64 (x0.toNat : Int) = B := by rw [hB]; unfold wrap64; omega
  clear hx0
  go_enter Tryd.func71, Tryd.ntmps71
  by_cases c1 : B < 128
  · go_wp2
    go_ret2
    rw [sign_low (show x0.toNat < 128 by omega)]
    exact ⟨by show _ = Ending.returned (.tuple #[.int .i64 1, .int .i64 (x0.toNat : Int)]); rw [hB]; rfl, 0, rfl⟩
  by_cases c2 : B < 194
  · have c2' : ¬ 194 ≤ B := by omega
    go_wp2
    go_ret2
    rw [sign_bad (.inl (by omega))]
    exact ⟨rfl, 0, rfl⟩
  have c2' : 194 ≤ B := by omega
  by_cases c3 : B < 224
  · obtain ⟨D, hD⟩ : ∃ D, B - 192 = D := ⟨_, rfl⟩
    have hDb : 2 ≤ D ∧ D < 32 := by omega
    by_cases hn : s.size < 2
    · have hnI : (s.size : Int) < 2 := by omega
      have hz := (sign_two (n := s.size) (b0 := x0.toNat) (b1 := (s.get! 1).toNat) (b2 := (s.get! 2).toNat) (b3 := (s.get! 3).toNat) (by omega)).trans (if_neg (by omega))
      have HZ := Lib.hid hz
      clear hz
      go_wp2
      go_ret2
      rw [HZ.out]
      exact ⟨rfl, 0, rfl⟩
    have hnI : ¬ (s.size : Int) < 2 := by omega
    have h1I : (1 : Int) < s.size := by omega
    obtain ⟨x1, hx1⟩ : ∃ x, s.get! 1 = x := ⟨_, rfl⟩
    have hs1 : s[1]'(by omega) = x1 := by rw [← hx1]; exact (Utf8W.get!_of_lt s 1 (by omega)).symm
    have hb1 : (x1.toNat : Int) < 256 := by have := x1.toNat_lt; omega
    have hw1 : wrap64 (x1.toNat : Int) = (x1.toNat : Int) := by unfold wrap64; omega
    obtain ⟨k, hk⟩ : ∃ k : Nat × Nat, signN s.size x0.toNat (s.get! 1).toNat (s.get! 2).toNat (s.get! 3).toNat = k := ⟨_, rfl⟩
    have hk2 := (sign_two (n := s.size) (b0 := x0.toNat) (b1 := (s.get! 1).toNat) (b2 := (s.get! 2).toNat) (b3 := (s.get! 3).toNat) (by omega)).symm.trans hk
    rw [hk]
    rw [hx1] at hk2
    have HK := Lib.hid hk2
    clear hk hk2 hx1
    obtain ⟨Y1, hY1⟩ : ∃ Y : Int, (x1.toNat : Int) = Y := ⟨_, rfl⟩
    rw [hY1] at hb1 hw1
    have hY1p : 0 ≤ Y1 := by omega
    go_wp2
    go_loopw [4, 7] (fun v4 v7 wr => ∃ i c : Int, v4 = .int .i64 c ∧ v7 = .int .i64 i ∧ ((1 = i ∧ D = c) ∨ (2 = i ∧ (D) * 64 + Y1 - 128 = c ∧ (128 ≤ Y1 ∧ Y1 ≤ 191))) ∧ Aside (∃ m, wr = w.drewN m)) (fun _ iv _ => 4 - (intOf iv).toNat)
    case atStart => exact ⟨1, D, rfl, rfl, .inl ⟨rfl, rfl⟩, 0, rfl⟩
    case round =>
      obtain ⟨i, c, rfl, rfl, hdis, hrel⟩ := hrel
      obtain ⟨m, hm⟩ := hrel.out
      have HM := Lib.hid hm
      clear hrel hm
      rcases hdis with ⟨rfl, rfl⟩ | ⟨rfl, rfl, o1⟩
      · by_cases hlo : Y1 < 128
        · have hz := HK.out.symm.trans (if_neg (by omega))
          have HZ := Lib.hid hz
          clear hz
          go_wp2
          go_ret2
          rw [HZ.out]
          exact ⟨rfl, m, HM.out⟩
        by_cases hhi : 191 < Y1
        · have hz := HK.out.symm.trans (if_neg (by omega))
          have HZ := Lib.hid hz
          clear hz
          go_wp2
          go_ret2
          rw [HZ.out]
          exact ⟨rfl, m, HM.out⟩
        obtain ⟨z, hz⟩ : ∃ z, D = z := ⟨_, rfl⟩
        go_wp2
        go_roundw
        case rel => exact ⟨2, _, by first | rfl | go_num, by first | rfl | go_num, .inr ⟨rfl, by first | rfl | omega, ⟨by omega, by omega⟩⟩, (show Aside _ from ⟨m, HM.out⟩)⟩
        case measure => first | decide | (simp [intOf]; done)
      · obtain ⟨C, hC⟩ : ∃ C, (D) * 64 + Y1 - 128 = C := ⟨_, rfl⟩
        rw [hC]
        have g1 : ¬ C < 128 := by omega
        have g2 : ¬ 1114111 < C := by omega
        have g3 : ¬ 55296 ≤ C := by omega
        have hz := HK.out.symm.trans (if_pos (by omega))
        have hCv : (((x0.toNat - 192) * 64 + x1.toNat - 128 : Nat) : Int) = C := by omega
        have HZ := Lib.hid (And.intro hz hCv)
        clear hz hCv
        go_wp2
        go_ret2
        rw [HZ.out.1]
        exact ⟨by show _ = Ending.returned (.tuple #[.int .i64 2, .int .i64 (((x0.toNat - 192) * 64 + x1.toNat - 128 : Nat) : Int)]); rw [HZ.out.2]; rfl, m, HM.out⟩
  have c3' : 224 ≤ B := by omega
  by_cases c4 : B < 240
  · obtain ⟨D, hD⟩ : ∃ D, B - 224 = D := ⟨_, rfl⟩
    have hDb : 0 ≤ D ∧ D < 16 := by omega
    by_cases hn : s.size < 3
    · have hnI : (s.size : Int) < 3 := by omega
      have hz := (sign_three (n := s.size) (b0 := x0.toNat) (b1 := (s.get! 1).toNat) (b2 := (s.get! 2).toNat) (b3 := (s.get! 3).toNat) (by omega)).trans (if_neg (by omega))
      have HZ := Lib.hid hz
      clear hz
      go_wp2
      go_ret2
      rw [HZ.out]
      exact ⟨rfl, 0, rfl⟩
    have hnI : ¬ (s.size : Int) < 3 := by omega
    have h1I : (1 : Int) < s.size := by omega
    obtain ⟨x1, hx1⟩ : ∃ x, s.get! 1 = x := ⟨_, rfl⟩
    have hs1 : s[1]'(by omega) = x1 := by rw [← hx1]; exact (Utf8W.get!_of_lt s 1 (by omega)).symm
    have hb1 : (x1.toNat : Int) < 256 := by have := x1.toNat_lt; omega
    have hw1 : wrap64 (x1.toNat : Int) = (x1.toNat : Int) := by unfold wrap64; omega
    have h2I : (2 : Int) < s.size := by omega
    obtain ⟨x2, hx2⟩ : ∃ x, s.get! 2 = x := ⟨_, rfl⟩
    have hs2 : s[2]'(by omega) = x2 := by rw [← hx2]; exact (Utf8W.get!_of_lt s 2 (by omega)).symm
    have hb2 : (x2.toNat : Int) < 256 := by have := x2.toNat_lt; omega
    have hw2 : wrap64 (x2.toNat : Int) = (x2.toNat : Int) := by unfold wrap64; omega
    obtain ⟨k, hk⟩ : ∃ k : Nat × Nat, signN s.size x0.toNat (s.get! 1).toNat (s.get! 2).toNat (s.get! 3).toNat = k := ⟨_, rfl⟩
    have hk2 := (sign_three (n := s.size) (b0 := x0.toNat) (b1 := (s.get! 1).toNat) (b2 := (s.get! 2).toNat) (b3 := (s.get! 3).toNat) (by omega)).symm.trans hk
    rw [hk]
    rw [hx1, hx2] at hk2
    have HK := Lib.hid hk2
    clear hk hk2 hx1 hx2
    obtain ⟨Y1, hY1⟩ : ∃ Y : Int, (x1.toNat : Int) = Y := ⟨_, rfl⟩
    rw [hY1] at hb1 hw1
    have hY1p : 0 ≤ Y1 := by omega
    obtain ⟨Y2, hY2⟩ : ∃ Y : Int, (x2.toNat : Int) = Y := ⟨_, rfl⟩
    rw [hY2] at hb2 hw2
    have hY2p : 0 ≤ Y2 := by omega
    go_wp2
    go_loopw [4, 7] (fun v4 v7 wr => ∃ i c : Int, v4 = .int .i64 c ∧ v7 = .int .i64 i ∧ ((1 = i ∧ D = c) ∨ (2 = i ∧ (D) * 64 + Y1 - 128 = c ∧ (128 ≤ Y1 ∧ Y1 ≤ 191)) ∨ (3 = i ∧ ((D) * 64 + Y1 - 128) * 64 + Y2 - 128 = c ∧ (128 ≤ Y1 ∧ Y1 ≤ 191) ∧ (128 ≤ Y2 ∧ Y2 ≤ 191))) ∧ Aside (∃ m, wr = w.drewN m)) (fun _ iv _ => 4 - (intOf iv).toNat)
    case atStart => exact ⟨1, D, rfl, rfl, .inl ⟨rfl, rfl⟩, 0, rfl⟩
    case round =>
      obtain ⟨i, c, rfl, rfl, hdis, hrel⟩ := hrel
      obtain ⟨m, hm⟩ := hrel.out
      have HM := Lib.hid hm
      clear hrel hm
      rcases hdis with ⟨rfl, rfl⟩ | ⟨rfl, rfl, o1⟩ | ⟨rfl, rfl, o1, o2⟩
      · by_cases hlo : Y1 < 128
        · have hz := HK.out.symm.trans (if_neg (by omega))
          have HZ := Lib.hid hz
          clear hz
          go_wp2
          go_ret2
          rw [HZ.out]
          exact ⟨rfl, m, HM.out⟩
        by_cases hhi : 191 < Y1
        · have hz := HK.out.symm.trans (if_neg (by omega))
          have HZ := Lib.hid hz
          clear hz
          go_wp2
          go_ret2
          rw [HZ.out]
          exact ⟨rfl, m, HM.out⟩
        obtain ⟨z, hz⟩ : ∃ z, D = z := ⟨_, rfl⟩
        go_wp2
        go_roundw
        case rel => exact ⟨2, _, by first | rfl | go_num, by first | rfl | go_num, .inr (.inl ⟨rfl, by first | rfl | omega, ⟨by omega, by omega⟩⟩), (show Aside _ from ⟨m, HM.out⟩)⟩
        case measure => first | decide | (simp [intOf]; done)
      · by_cases hlo : Y2 < 128
        · have hz := HK.out.symm.trans (if_neg (by omega))
          have HZ := Lib.hid hz
          clear hz
          go_wp2
          go_ret2
          rw [HZ.out]
          exact ⟨rfl, m, HM.out⟩
        by_cases hhi : 191 < Y2
        · have hz := HK.out.symm.trans (if_neg (by omega))
          have HZ := Lib.hid hz
          clear hz
          go_wp2
          go_ret2
          rw [HZ.out]
          exact ⟨rfl, m, HM.out⟩
        obtain ⟨z, hz⟩ : ∃ z, (D) * 64 + Y1 - 128 = z := ⟨_, rfl⟩
        go_wp2
        go_roundw
        case rel => exact ⟨3, _, by first | rfl | go_num, by first | rfl | go_num, .inr (.inr ⟨rfl, by first | rfl | omega, o1, ⟨by omega, by omega⟩⟩), (show Aside _ from ⟨m, HM.out⟩)⟩
        case measure => first | decide | (simp [intOf]; done)
      · obtain ⟨C, hC⟩ : ∃ C, ((D) * 64 + Y1 - 128) * 64 + Y2 - 128 = C := ⟨_, rfl⟩
        rw [hC]
        have g2 : ¬ 1114111 < C := by omega
        by_cases g1 : C < 2048
        · have hz := HK.out.symm.trans (if_neg (by omega))
          have HZ := Lib.hid hz
          clear hz
          go_wp2
          go_ret2
          rw [HZ.out]
          exact ⟨rfl, m, HM.out⟩
        by_cases g3 : 55296 ≤ C
        · by_cases g4 : C < 57344
          · have hz := HK.out.symm.trans (if_neg (by omega))
            have HZ := Lib.hid hz
            clear hz
            go_wp2
            go_ret2
            rw [HZ.out]
            exact ⟨rfl, m, HM.out⟩
          · have hz := HK.out.symm.trans (if_pos (by omega))
            have hCv : ((((x0.toNat - 224) * 64 + x1.toNat - 128) * 64 + x2.toNat - 128 : Nat) : Int) = C := by omega
            have HZ := Lib.hid (And.intro hz hCv)
            clear hz hCv
            go_wp2
            go_ret2
            rw [HZ.out.1]
            exact ⟨by show _ = Ending.returned (.tuple #[.int .i64 3, .int .i64 ((((x0.toNat - 224) * 64 + x1.toNat - 128) * 64 + x2.toNat - 128 : Nat) : Int)]); rw [HZ.out.2]; rfl, m, HM.out⟩
        · have hz := HK.out.symm.trans (if_pos (by omega))
          have hCv : ((((x0.toNat - 224) * 64 + x1.toNat - 128) * 64 + x2.toNat - 128 : Nat) : Int) = C := by omega
          have HZ := Lib.hid (And.intro hz hCv)
          clear hz hCv
          go_wp2
          go_ret2
          rw [HZ.out.1]
          exact ⟨by show _ = Ending.returned (.tuple #[.int .i64 3, .int .i64 ((((x0.toNat - 224) * 64 + x1.toNat - 128) * 64 + x2.toNat - 128 : Nat) : Int)]); rw [HZ.out.2]; rfl, m, HM.out⟩
  have c4' : 240 ≤ B := by omega
  by_cases c5 : B < 245
  · obtain ⟨D, hD⟩ : ∃ D, B - 240 = D := ⟨_, rfl⟩
    have hDb : 0 ≤ D ∧ D < 5 := by omega
    by_cases hn : s.size < 4
    · have hnI : (s.size : Int) < 4 := by omega
      have hz := (sign_four (n := s.size) (b0 := x0.toNat) (b1 := (s.get! 1).toNat) (b2 := (s.get! 2).toNat) (b3 := (s.get! 3).toNat) (by omega)).trans (if_neg (by omega))
      have HZ := Lib.hid hz
      clear hz
      go_wp2
      go_ret2
      rw [HZ.out]
      exact ⟨rfl, 0, rfl⟩
    have hnI : ¬ (s.size : Int) < 4 := by omega
    have h1I : (1 : Int) < s.size := by omega
    obtain ⟨x1, hx1⟩ : ∃ x, s.get! 1 = x := ⟨_, rfl⟩
    have hs1 : s[1]'(by omega) = x1 := by rw [← hx1]; exact (Utf8W.get!_of_lt s 1 (by omega)).symm
    have hb1 : (x1.toNat : Int) < 256 := by have := x1.toNat_lt; omega
    have hw1 : wrap64 (x1.toNat : Int) = (x1.toNat : Int) := by unfold wrap64; omega
    have h2I : (2 : Int) < s.size := by omega
    obtain ⟨x2, hx2⟩ : ∃ x, s.get! 2 = x := ⟨_, rfl⟩
    have hs2 : s[2]'(by omega) = x2 := by rw [← hx2]; exact (Utf8W.get!_of_lt s 2 (by omega)).symm
    have hb2 : (x2.toNat : Int) < 256 := by have := x2.toNat_lt; omega
    have hw2 : wrap64 (x2.toNat : Int) = (x2.toNat : Int) := by unfold wrap64; omega
    have h3I : (3 : Int) < s.size := by omega
    obtain ⟨x3, hx3⟩ : ∃ x, s.get! 3 = x := ⟨_, rfl⟩
    have hs3 : s[3]'(by omega) = x3 := by rw [← hx3]; exact (Utf8W.get!_of_lt s 3 (by omega)).symm
    have hb3 : (x3.toNat : Int) < 256 := by have := x3.toNat_lt; omega
    have hw3 : wrap64 (x3.toNat : Int) = (x3.toNat : Int) := by unfold wrap64; omega
    obtain ⟨k, hk⟩ : ∃ k : Nat × Nat, signN s.size x0.toNat (s.get! 1).toNat (s.get! 2).toNat (s.get! 3).toNat = k := ⟨_, rfl⟩
    have hk2 := (sign_four (n := s.size) (b0 := x0.toNat) (b1 := (s.get! 1).toNat) (b2 := (s.get! 2).toNat) (b3 := (s.get! 3).toNat) (by omega)).symm.trans hk
    rw [hk]
    rw [hx1, hx2, hx3] at hk2
    have HK := Lib.hid hk2
    clear hk hk2 hx1 hx2 hx3
    obtain ⟨Y1, hY1⟩ : ∃ Y : Int, (x1.toNat : Int) = Y := ⟨_, rfl⟩
    rw [hY1] at hb1 hw1
    have hY1p : 0 ≤ Y1 := by omega
    obtain ⟨Y2, hY2⟩ : ∃ Y : Int, (x2.toNat : Int) = Y := ⟨_, rfl⟩
    rw [hY2] at hb2 hw2
    have hY2p : 0 ≤ Y2 := by omega
    obtain ⟨Y3, hY3⟩ : ∃ Y : Int, (x3.toNat : Int) = Y := ⟨_, rfl⟩
    rw [hY3] at hb3 hw3
    have hY3p : 0 ≤ Y3 := by omega
    go_wp2
    go_loopw [4, 7] (fun v4 v7 wr => ∃ i c : Int, v4 = .int .i64 c ∧ v7 = .int .i64 i ∧ ((1 = i ∧ D = c) ∨ (2 = i ∧ (D) * 64 + Y1 - 128 = c ∧ (128 ≤ Y1 ∧ Y1 ≤ 191)) ∨ (3 = i ∧ ((D) * 64 + Y1 - 128) * 64 + Y2 - 128 = c ∧ (128 ≤ Y1 ∧ Y1 ≤ 191) ∧ (128 ≤ Y2 ∧ Y2 ≤ 191)) ∨ (4 = i ∧ (((D) * 64 + Y1 - 128) * 64 + Y2 - 128) * 64 + Y3 - 128 = c ∧ (128 ≤ Y1 ∧ Y1 ≤ 191) ∧ (128 ≤ Y2 ∧ Y2 ≤ 191) ∧ (128 ≤ Y3 ∧ Y3 ≤ 191))) ∧ Aside (∃ m, wr = w.drewN m)) (fun _ iv _ => 4 - (intOf iv).toNat)
    case atStart => exact ⟨1, D, rfl, rfl, .inl ⟨rfl, rfl⟩, 0, rfl⟩
    case round =>
      obtain ⟨i, c, rfl, rfl, hdis, hrel⟩ := hrel
      obtain ⟨m, hm⟩ := hrel.out
      have HM := Lib.hid hm
      clear hrel hm
      rcases hdis with ⟨rfl, rfl⟩ | ⟨rfl, rfl, o1⟩ | ⟨rfl, rfl, o1, o2⟩ | ⟨rfl, rfl, o1, o2, o3⟩
      · by_cases hlo : Y1 < 128
        · have hz := HK.out.symm.trans (if_neg (by omega))
          have HZ := Lib.hid hz
          clear hz
          go_wp2
          go_ret2
          rw [HZ.out]
          exact ⟨rfl, m, HM.out⟩
        by_cases hhi : 191 < Y1
        · have hz := HK.out.symm.trans (if_neg (by omega))
          have HZ := Lib.hid hz
          clear hz
          go_wp2
          go_ret2
          rw [HZ.out]
          exact ⟨rfl, m, HM.out⟩
        obtain ⟨z, hz⟩ : ∃ z, D = z := ⟨_, rfl⟩
        go_wp2
        go_roundw
        case rel => exact ⟨2, _, by first | rfl | go_num, by first | rfl | go_num, .inr (.inl ⟨rfl, by first | rfl | omega, ⟨by omega, by omega⟩⟩), (show Aside _ from ⟨m, HM.out⟩)⟩
        case measure => first | decide | (simp [intOf]; done)
      · by_cases hlo : Y2 < 128
        · have hz := HK.out.symm.trans (if_neg (by omega))
          have HZ := Lib.hid hz
          clear hz
          go_wp2
          go_ret2
          rw [HZ.out]
          exact ⟨rfl, m, HM.out⟩
        by_cases hhi : 191 < Y2
        · have hz := HK.out.symm.trans (if_neg (by omega))
          have HZ := Lib.hid hz
          clear hz
          go_wp2
          go_ret2
          rw [HZ.out]
          exact ⟨rfl, m, HM.out⟩
        obtain ⟨z, hz⟩ : ∃ z, (D) * 64 + Y1 - 128 = z := ⟨_, rfl⟩
        go_wp2
        go_roundw
        case rel => exact ⟨3, _, by first | rfl | go_num, by first | rfl | go_num, .inr (.inr (.inl ⟨rfl, by first | rfl | omega, o1, ⟨by omega, by omega⟩⟩)), (show Aside _ from ⟨m, HM.out⟩)⟩
        case measure => first | decide | (simp [intOf]; done)
      · by_cases hlo : Y3 < 128
        · have hz := HK.out.symm.trans (if_neg (by omega))
          have HZ := Lib.hid hz
          clear hz
          go_wp2
          go_ret2
          rw [HZ.out]
          exact ⟨rfl, m, HM.out⟩
        by_cases hhi : 191 < Y3
        · have hz := HK.out.symm.trans (if_neg (by omega))
          have HZ := Lib.hid hz
          clear hz
          go_wp2
          go_ret2
          rw [HZ.out]
          exact ⟨rfl, m, HM.out⟩
        obtain ⟨z, hz⟩ : ∃ z, ((D) * 64 + Y1 - 128) * 64 + Y2 - 128 = z := ⟨_, rfl⟩
        go_wp2
        go_roundw
        case rel => exact ⟨4, _, by first | rfl | go_num, by first | rfl | go_num, .inr (.inr (.inr ⟨rfl, by first | rfl | omega, o1, o2, ⟨by omega, by omega⟩⟩)), (show Aside _ from ⟨m, HM.out⟩)⟩
        case measure => first | decide | (simp [intOf]; done)
      · obtain ⟨C, hC⟩ : ∃ C, (((D) * 64 + Y1 - 128) * 64 + Y2 - 128) * 64 + Y3 - 128 = C := ⟨_, rfl⟩
        rw [hC]
        by_cases g1 : C < 65536
        · have hz := HK.out.symm.trans (if_neg (by omega))
          have HZ := Lib.hid hz
          clear hz
          go_wp2
          go_ret2
          rw [HZ.out]
          exact ⟨rfl, m, HM.out⟩
        by_cases g2 : 1114111 < C
        · have hz := HK.out.symm.trans (if_neg (by omega))
          have HZ := Lib.hid hz
          clear hz
          go_wp2
          go_ret2
          rw [HZ.out]
          exact ⟨rfl, m, HM.out⟩
        have g3 : 55296 ≤ C := by omega
        have g4 : ¬ C < 57344 := by omega
        have hz := HK.out.symm.trans (if_pos (by omega))
        have hCv : (((((x0.toNat - 240) * 64 + x1.toNat - 128) * 64 + x2.toNat - 128) * 64 + x3.toNat - 128 : Nat) : Int) = C := by omega
        have HZ := Lib.hid (And.intro hz hCv)
        clear hz hCv
        go_wp2
        go_ret2
        rw [HZ.out.1]
        exact ⟨by show _ = Ending.returned (.tuple #[.int .i64 4, .int .i64 (((((x0.toNat - 240) * 64 + x1.toNat - 128) * 64 + x2.toNat - 128) * 64 + x3.toNat - 128 : Nat) : Int)]); rw [HZ.out.2]; rfl, m, HM.out⟩
  · go_wp2
    go_ret2
    rw [sign_bad (.inr (by omega))]
    exact ⟨rfl, 0, rfl⟩
end Go.Proofs.YthnbcilpallhjaaDoor
