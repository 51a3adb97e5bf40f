/-
  The document's 'sign': the first sign of a text.
-/
/-
  The document's count of signs.
-/
/-
  The document's count of signs is the one behind 'is it valid?' of the language's own reader.
-/
import Derived.Test.YtbclgalocipmfaaDoorBase
import Derived.Test.YtbclgalocipmfaaDoorMem
import Derived.Lib.Hide
import Derived.Lib.ValidLaws
import Derived.Deep.CutRange
import Derived.Deep.CutBlock
import Derived.Below
import Derived.Lib.ValidAsc
import Derived.Lib.RuneCount
namespace Go.Proofs.YtbclgalocipmfaaDoor
open Go.RowKit
set_option maxRecDepth 100000
set_option maxRecDepth 100000
set_option linter.unusedVariables false
def signN (n b0 b1 b2 b3 : Nat) : Nat × Nat := if Lib.decodeN n b0 b1 b2 b3 = (65533, 1) then (0, 0) else ((Lib.decodeN n b0 b1 b2 b3).2, (Lib.decodeN n b0 b1 b2 b3).1)
theorem sign_low {n b0 b1 b2 b3 : Nat} (h : b0 < 128) : signN n b0 b1 b2 b3 = (1, b0) := by
  have e : Lib.decodeN n b0 b1 b2 b3 = (b0, 1) := if_pos h
  unfold signN
  rw [e, if_neg]
  intro h
  injection h with h
  omega
theorem sign_bad {n b0 b1 b2 b3 : Nat} (h : (128 ≤ b0 ∧ b0 < 194) ∨ (245 ≤ b0 ∧ b0 < 256)) : signN n b0 b1 b2 b3 = (0, 0) := by
  unfold signN
  rw [Lib.decodeN_bad n b0 b1 b2 b3 h, if_pos rfl]
theorem sign_of {n b0 b1 b2 b3 k c : Nat} {p : Prop} [Decidable p] (hk : 2 ≤ k) (hd : Lib.decodeN n b0 b1 b2 b3 = if p then (c, k) else (65533, 1)) : signN n b0 b1 b2 b3 = if p then (k, c) else (0, 0) := by
  unfold signN
  rw [hd]
  by_cases h : p
  · rw [if_pos h, if_pos h, if_neg]
    intro e
    injection e with _ e
    omega
  · rw [if_neg h, if_neg h, if_pos rfl]
set_option maxHeartbeats 4000000 in
theorem sign_two {n b0 b1 b2 b3 : Nat} (h : 194 ≤ b0 ∧ b0 < 224) : signN n b0 b1 b2 b3 = if 2 ≤ n ∧ (128 ≤ b1 ∧ b1 ≤ 191) then (2, (b0 - 192) * 64 + b1 - 128) else (0, 0) := by
  refine sign_of (by omega) ?_
  unfold Lib.decodeN
  repeat' split
  all_goals first | rfl | (exfalso; omega) | (refine Prod.ext ?_ rfl; show (_ : Nat) = _; dsimp only; omega)
set_option maxHeartbeats 4000000 in
theorem sign_three {n b0 b1 b2 b3 : Nat} (h : 224 ≤ b0 ∧ b0 < 240) : signN n b0 b1 b2 b3 = if 3 ≤ n ∧ (128 ≤ b1 ∧ b1 ≤ 191) ∧ (128 ≤ b2 ∧ b2 ≤ 191) ∧ 2048 ≤ ((b0 - 224) * 64 + b1 - 128) * 64 + b2 - 128 ∧ ¬ (55296 ≤ ((b0 - 224) * 64 + b1 - 128) * 64 + b2 - 128 ∧ ((b0 - 224) * 64 + b1 - 128) * 64 + b2 - 128 < 57344) then (3, ((b0 - 224) * 64 + b1 - 128) * 64 + b2 - 128) else (0, 0) := by
  refine sign_of (by omega) ?_
  unfold Lib.decodeN
  repeat' split
  all_goals first | rfl | (exfalso; omega) | (refine Prod.ext ?_ rfl; show (_ : Nat) = _; dsimp only; omega)
set_option maxHeartbeats 8000000 in
theorem sign_four {n b0 b1 b2 b3 : Nat} (h : 240 ≤ b0 ∧ b0 < 245) : signN n b0 b1 b2 b3 = if 4 ≤ n ∧ (128 ≤ b1 ∧ b1 ≤ 191) ∧ (128 ≤ b2 ∧ b2 ≤ 191) ∧ (128 ≤ b3 ∧ b3 ≤ 191) ∧ 65536 ≤ (((b0 - 240) * 64 + b1 - 128) * 64 + b2 - 128) * 64 + b3 - 128 ∧ (((b0 - 240) * 64 + b1 - 128) * 64 + b2 - 128) * 64 + b3 - 128 ≤ 1114111 then (4, (((b0 - 240) * 64 + b1 - 128) * 64 + b2 - 128) * 64 + b3 - 128) else (0, 0) := by
  refine sign_of (by omega) ?_
  unfold Lib.decodeN
  repeat' split
  all_goals first | rfl | (exfalso; omega) | (refine Prod.ext ?_ rfl; show (_ : Nat) = _; dsimp only; omega)
def signS (s : ByteArray) : Nat × Nat := signN s.size (s.get! 0).toNat (s.get! 1).toNat (s.get! 2).toNat (s.get! 3).toNat
set_option maxHeartbeats 8000000 in
theorem sign_f (s : ByteArray) (w : World) (h0 : 0 < s.size) : Calls Tryd.prog 71 #[.string s] w fun e w' => e = .returned (.tuple #[.int .i64 ((signS s).1 : Int), .int .i64 ((signS s).2 : Int)]) ∧ ∃ m, w' = w.drewN m := by
  have h0I : (0 : Int) < (s.size : Int) := by omega
  obtain ⟨x0, hx0⟩ : ∃ x, s.get! 0 = x := ⟨_, rfl⟩
  have hs0 : s[0]'(by omega) = x0 := by rw [← hx0]; exact (Utf8W.get!_of_lt s 0 (by omega)).symm
  unfold signS
  rw [hx0]
  obtain ⟨B, hB⟩ : ∃ B : Int, (x0.toNat : Int) = B := ⟨_, rfl⟩
  have hBb : 0 ≤ B ∧ B < 256 := by have := x0.toNat_lt; omega
  have hw0 : wrap64 (x0.toNat : Int) = B := by rw [hB]; unfold wrap64; omega
  clear hx0
  go_enter Tryd.func71, Tryd.ntmps71
  by_cases c1 : B < 128
  · go_wp2
    go_ret2
    rw [sign_low (show x0.toNat < 128 by omega)]
    exact ⟨by show _ = Ending.returned (.tuple #[.int .i64 1, .int .i64 (x0.toNat : Int)]); rw [hB]; rfl, 0, rfl⟩
  by_cases c2 : B < 194
  · have c2' : ¬ 194 ≤ B := by omega
    go_wp2
    go_ret2
    rw [sign_bad (.inl (by omega))]
    exact ⟨rfl, 0, rfl⟩
  have c2' : 194 ≤ B := by omega
  by_cases c3 : B < 224
  · obtain ⟨D, hD⟩ : ∃ D, B - 192 = D := ⟨_, rfl⟩
    have hDb : 2 ≤ D ∧ D < 32 := by omega
    by_cases hn : s.size < 2
    · have hnI : (s.size : Int) < 2 := by omega
      have hz := (sign_two (n := s.size) (b0 := x0.toNat) (b1 := (s.get! 1).toNat) (b2 := (s.get! 2).toNat) (b3 := (s.get! 3).toNat) (by omega)).trans (if_neg (by omega))
      have HZ := Lib.hid hz
      clear hz
      go_wp2
      go_ret2
      rw [HZ.out]
      exact ⟨rfl, 0, rfl⟩
    have hnI : ¬ (s.size : Int) < 2 := by omega
    have h1I : (1 : Int) < s.size := by omega
    obtain ⟨x1, hx1⟩ : ∃ x, s.get! 1 = x := ⟨_, rfl⟩
    have hs1 : s[1]'(by omega) = x1 := by rw [← hx1]; exact (Utf8W.get!_of_lt s 1 (by omega)).symm
    have hb1 : (x1.toNat : Int) < 256 := by have := x1.toNat_lt; omega
    have hw1 : wrap64 (x1.toNat : Int) = (x1.toNat : Int) := by unfold wrap64; omega
    obtain ⟨k, hk⟩ : ∃ k : Nat × Nat, signN s.size x0.toNat (s.get! 1).toNat (s.get! 2).toNat (s.get! 3).toNat = k := ⟨_, rfl⟩
    have hk2 := (sign_two (n := s.size) (b0 := x0.toNat) (b1 := (s.get! 1).toNat) (b2 := (s.get! 2).toNat) (b3 := (s.get! 3).toNat) (by omega)).symm.trans hk
    rw [hk]
    rw [hx1] at hk2
    have HK := Lib.hid hk2
    clear hk hk2 hx1
    obtain ⟨Y1, hY1⟩ : ∃ Y : Int, (x1.toNat : Int) = Y := ⟨_, rfl⟩
    rw [hY1] at hb1 hw1
    have hY1p : 0 ≤ Y1 := by omega
    go_wp2
    go_loopw [4, 7] (fun v4 v7 wr => ∃ i c : Int, v4 = .int .i64 c ∧ v7 = .int .i64 i ∧ ((1 = i ∧ D = c) ∨ (2 = i ∧ (D) * 64 + Y1 - 128 = c ∧ (128 ≤ Y1 ∧ Y1 ≤ 191))) ∧ Aside (∃ m, wr = w.drewN m)) (fun _ iv _ => 4 - (intOf iv).toNat)
    case atStart => exact ⟨1, D, rfl, rfl, .inl ⟨rfl, rfl⟩, 0, rfl⟩
    case round =>
      obtain ⟨i, c, rfl, rfl, hdis, hrel⟩ := hrel
      obtain ⟨m, hm⟩ := hrel.out
      have HM := Lib.hid hm
      clear hrel hm
      rcases hdis with ⟨rfl, rfl⟩ | ⟨rfl, rfl, o1⟩
      · by_cases hlo : Y1 < 128
        · have hz := HK.out.symm.trans (if_neg (by omega))
          have HZ := Lib.hid hz
          clear hz
          go_wp2
          go_ret2
          rw [HZ.out]
          exact ⟨rfl, m, HM.out⟩
        by_cases hhi : 191 < Y1
        · have hz := HK.out.symm.trans (if_neg (by omega))
          have HZ := Lib.hid hz
          clear hz
          go_wp2
          go_ret2
          rw [HZ.out]
          exact ⟨rfl, m, HM.out⟩
        obtain ⟨z, hz⟩ : ∃ z, D = z := ⟨_, rfl⟩
        go_wp2
        go_roundw
        case rel => exact ⟨2, _, by first | rfl | go_num, by first | rfl | go_num, .inr ⟨rfl, by first | rfl | omega, ⟨by omega, by omega⟩⟩, (show Aside _ from ⟨m, HM.out⟩)⟩
        case measure => first | decide | (simp [intOf]; done)
      · obtain ⟨C, hC⟩ : ∃ C, (D) * 64 + Y1 - 128 = C := ⟨_, rfl⟩
        rw [hC]
        have g1 : ¬ C < 128 := by omega
        have g2 : ¬ 1114111 < C := by omega
        have g3 : ¬ 55296 ≤ C := by omega
        have hz := HK.out.symm.trans (if_pos (by omega))
        have hCv : (((x0.toNat - 192) * 64 + x1.toNat - 128 : Nat) : Int) = C := by omega
        have HZ := Lib.hid (And.intro hz hCv)
        clear hz hCv
        go_wp2
        go_ret2
        rw [HZ.out.1]
        exact ⟨by show _ = Ending.returned (.tuple #[.int .i64 2, .int .i64 (((x0.toNat - 192) * 64 + x1.toNat - 128 : Nat) : Int)]); rw [HZ.out.2]; rfl, m, HM.out⟩
  have c3' : 224 ≤ B := by omega
  by_cases c4 : B < 240
  · obtain ⟨D, hD⟩ : ∃ D, B - 224 = D := ⟨_, rfl⟩
    have hDb : 0 ≤ D ∧ D < 16 := by omega
    by_cases hn : s.size < 3
    · have hnI : (s.size : Int) < 3 := by omega
      have hz := (sign_three (n := s.size) (b0 := x0.toNat) (b1 := (s.get! 1).toNat) (b2 := (s.get! 2).toNat) (b3 := (s.get! 3).toNat) (by omega)).trans (if_neg (by omega))
      have HZ := Lib.hid hz
      clear hz
      go_wp2
      go_ret2
      rw [HZ.out]
      exact ⟨rfl, 0, rfl⟩
    have hnI : ¬ (s.size : Int) < 3 := by omega
    have h1I : (1 : Int) < s.size := by omega
    obtain ⟨x1, hx1⟩ : ∃ x, s.get! 1 = x := ⟨_, rfl⟩
    have hs1 : s[1]'(by omega) = x1 := by rw [← hx1]; exact (Utf8W.get!_of_lt s 1 (by omega)).symm
    have hb1 : (x1.toNat : Int) < 256 := by have := x1.toNat_lt; omega
    have hw1 : wrap64 (x1.toNat : Int) = (x1.toNat : Int) := by unfold wrap64; omega
    have h2I : (2 : Int) < s.size := by omega
    obtain ⟨x2, hx2⟩ : ∃ x, s.get! 2 = x := ⟨_, rfl⟩
    have hs2 : s[2]'(by omega) = x2 := by rw [← hx2]; exact (Utf8W.get!_of_lt s 2 (by omega)).symm
    have hb2 : (x2.toNat : Int) < 256 := by have := x2.toNat_lt; omega
    have hw2 : wrap64 (x2.toNat : Int) = (x2.toNat : Int) := by unfold wrap64; omega
    obtain ⟨k, hk⟩ : ∃ k : Nat × Nat, signN s.size x0.toNat (s.get! 1).toNat (s.get! 2).toNat (s.get! 3).toNat = k := ⟨_, rfl⟩
    have hk2 := (sign_three (n := s.size) (b0 := x0.toNat) (b1 := (s.get! 1).toNat) (b2 := (s.get! 2).toNat) (b3 := (s.get! 3).toNat) (by omega)).symm.trans hk
    rw [hk]
    rw [hx1, hx2] at hk2
    have HK := Lib.hid hk2
    clear hk hk2 hx1 hx2
    obtain ⟨Y1, hY1⟩ : ∃ Y : Int, (x1.toNat : Int) = Y := ⟨_, rfl⟩
    rw [hY1] at hb1 hw1
    have hY1p : 0 ≤ Y1 := by omega
    obtain ⟨Y2, hY2⟩ : ∃ Y : Int, (x2.toNat : Int) = Y := ⟨_, rfl⟩
    rw [hY2] at hb2 hw2
    have hY2p : 0 ≤ Y2 := by omega
    go_wp2
    go_loopw [4, 7] (fun v4 v7 wr => ∃ i c : Int, v4 = .int .i64 c ∧ v7 = .int .i64 i ∧ ((1 = i ∧ D = c) ∨ (2 = i ∧ (D) * 64 + Y1 - 128 = c ∧ (128 ≤ Y1 ∧ Y1 ≤ 191)) ∨ (3 = i ∧ ((D) * 64 + Y1 - 128) * 64 + Y2 - 128 = c ∧ (128 ≤ Y1 ∧ Y1 ≤ 191) ∧ (128 ≤ Y2 ∧ Y2 ≤ 191))) ∧ Aside (∃ m, wr = w.drewN m)) (fun _ iv _ => 4 - (intOf iv).toNat)
    case atStart => exact ⟨1, D, rfl, rfl, .inl ⟨rfl, rfl⟩, 0, rfl⟩
    case round =>
      obtain ⟨i, c, rfl, rfl, hdis, hrel⟩ := hrel
      obtain ⟨m, hm⟩ := hrel.out
      have HM := Lib.hid hm
      clear hrel hm
      rcases hdis with ⟨rfl, rfl⟩ | ⟨rfl, rfl, o1⟩ | ⟨rfl, rfl, o1, o2⟩
      · by_cases hlo : Y1 < 128
        · have hz := HK.out.symm.trans (if_neg (by omega))
          have HZ := Lib.hid hz
          clear hz
          go_wp2
          go_ret2
          rw [HZ.out]
          exact ⟨rfl, m, HM.out⟩
        by_cases hhi : 191 < Y1
        · have hz := HK.out.symm.trans (if_neg (by omega))
          have HZ := Lib.hid hz
          clear hz
          go_wp2
          go_ret2
          rw [HZ.out]
          exact ⟨rfl, m, HM.out⟩
        obtain ⟨z, hz⟩ : ∃ z, D = z := ⟨_, rfl⟩
        go_wp2
        go_roundw
        case rel => exact ⟨2, _, by first | rfl | go_num, by first | rfl | go_num, .inr (.inl ⟨rfl, by first | rfl | omega, ⟨by omega, by omega⟩⟩), (show Aside _ from ⟨m, HM.out⟩)⟩
        case measure => first | decide | (simp [intOf]; done)
      · by_cases hlo : Y2 < 128
        · have hz := HK.out.symm.trans (if_neg (by omega))
          have HZ := Lib.hid hz
          clear hz
          go_wp2
          go_ret2
          rw [HZ.out]
          exact ⟨rfl, m, HM.out⟩
        by_cases hhi : 191 < Y2
        · have hz := HK.out.symm.trans (if_neg (by omega))
          have HZ := Lib.hid hz
          clear hz
          go_wp2
          go_ret2
          rw [HZ.out]
          exact ⟨rfl, m, HM.out⟩
        obtain ⟨z, hz⟩ : ∃ z, (D) * 64 + Y1 - 128 = z := ⟨_, rfl⟩
        go_wp2
        go_roundw
        case rel => exact ⟨3, _, by first | rfl | go_num, by first | rfl | go_num, .inr (.inr ⟨rfl, by first | rfl | omega, o1, ⟨by omega, by omega⟩⟩), (show Aside _ from ⟨m, HM.out⟩)⟩
        case measure => first | decide | (simp [intOf]; done)
      · obtain ⟨C, hC⟩ : ∃ C, ((D) * 64 + Y1 - 128) * 64 + Y2 - 128 = C := ⟨_, rfl⟩
        rw [hC]
        have g2 : ¬ 1114111 < C := by omega
        by_cases g1 : C < 2048
        · have hz := HK.out.symm.trans (if_neg (by omega))
          have HZ := Lib.hid hz
          clear hz
          go_wp2
          go_ret2
          rw [HZ.out]
          exact ⟨rfl, m, HM.out⟩
        by_cases g3 : 55296 ≤ C
        · by_cases g4 : C < 57344
          · have hz := HK.out.symm.trans (if_neg (by omega))
            have HZ := Lib.hid hz
            clear hz
            go_wp2
            go_ret2
            rw [HZ.out]
            exact ⟨rfl, m, HM.out⟩
          · have hz := HK.out.symm.trans (if_pos (by omega))
            have hCv : ((((x0.toNat - 224) * 64 + x1.toNat - 128) * 64 + x2.toNat - 128 : Nat) : Int) = C := by omega
            have HZ := Lib.hid (And.intro hz hCv)
            clear hz hCv
            go_wp2
            go_ret2
            rw [HZ.out.1]
            exact ⟨by show _ = Ending.returned (.tuple #[.int .i64 3, .int .i64 ((((x0.toNat - 224) * 64 + x1.toNat - 128) * 64 + x2.toNat - 128 : Nat) : Int)]); rw [HZ.out.2]; rfl, m, HM.out⟩
        · have hz := HK.out.symm.trans (if_pos (by omega))
          have hCv : ((((x0.toNat - 224) * 64 + x1.toNat - 128) * 64 + x2.toNat - 128 : Nat) : Int) = C := by omega
          have HZ := Lib.hid (And.intro hz hCv)
          clear hz hCv
          go_wp2
          go_ret2
          rw [HZ.out.1]
          exact ⟨by show _ = Ending.returned (.tuple #[.int .i64 3, .int .i64 ((((x0.toNat - 224) * 64 + x1.toNat - 128) * 64 + x2.toNat - 128 : Nat) : Int)]); rw [HZ.out.2]; rfl, m, HM.out⟩
  have c4' : 240 ≤ B := by omega
  by_cases c5 : B < 245
  · obtain ⟨D, hD⟩ : ∃ D, B - 240 = D := ⟨_, rfl⟩
    have hDb : 0 ≤ D ∧ D < 5 := by omega
    by_cases hn : s.size < 4
    · have hnI : (s.size : Int) < 4 := by omega
      have hz := (sign_four (n := s.size) (b0 := x0.toNat) (b1 := (s.get! 1).toNat) (b2 := (s.get! 2).toNat) (b3 := (s.get! 3).toNat) (by omega)).trans (if_neg (by omega))
      have HZ := Lib.hid hz
      clear hz
      go_wp2
      go_ret2
      rw [HZ.out]
      exact ⟨rfl, 0, rfl⟩
    have hnI : ¬ (s.size : Int) < 4 := by omega
    have h1I : (1 : Int) < s.size := by omega
    obtain ⟨x1, hx1⟩ : ∃ x, s.get! 1 = x := ⟨_, rfl⟩
    have hs1 : s[1]'(by omega) = x1 := by rw [← hx1]; exact (Utf8W.get!_of_lt s 1 (by omega)).symm
    have hb1 : (x1.toNat : Int) < 256 := by have := x1.toNat_lt; omega
    have hw1 : wrap64 (x1.toNat : Int) = (x1.toNat : Int) := by unfold wrap64; omega
    have h2I : (2 : Int) < s.size := by omega
    obtain ⟨x2, hx2⟩ : ∃ x, s.get! 2 = x := ⟨_, rfl⟩
    have hs2 : s[2]'(by omega) = x2 := by rw [← hx2]; exact (Utf8W.get!_of_lt s 2 (by omega)).symm
    have hb2 : (x2.toNat : Int) < 256 := by have := x2.toNat_lt; omega
    have hw2 : wrap64 (x2.toNat : Int) = (x2.toNat : Int) := by unfold wrap64; omega
    have h3I : (3 : Int) < s.size := by omega
    obtain ⟨x3, hx3⟩ : ∃ x, s.get! 3 = x := ⟨_, rfl⟩
    have hs3 : s[3]'(by omega) = x3 := by rw [← hx3]; exact (Utf8W.get!_of_lt s 3 (by omega)).symm
    have hb3 : (x3.toNat : Int) < 256 := by have := x3.toNat_lt; omega
    have hw3 : wrap64 (x3.toNat : Int) = (x3.toNat : Int) := by unfold wrap64; omega
    obtain ⟨k, hk⟩ : ∃ k : Nat × Nat, signN s.size x0.toNat (s.get! 1).toNat (s.get! 2).toNat (s.get! 3).toNat = k := ⟨_, rfl⟩
    have hk2 := (sign_four (n := s.size) (b0 := x0.toNat) (b1 := (s.get! 1).toNat) (b2 := (s.get! 2).toNat) (b3 := (s.get! 3).toNat) (by omega)).symm.trans hk
    rw [hk]
    rw [hx1, hx2, hx3] at hk2
    have HK := Lib.hid hk2
    clear hk hk2 hx1 hx2 hx3
    obtain ⟨Y1, hY1⟩ : ∃ Y : Int, (x1.toNat : Int) = Y := ⟨_, rfl⟩
    rw [hY1] at hb1 hw1
    have hY1p : 0 ≤ Y1 := by omega
    obtain ⟨Y2, hY2⟩ : ∃ Y : Int, (x2.toNat : Int) = Y := ⟨_, rfl⟩
    rw [hY2] at hb2 hw2
    have hY2p : 0 ≤ Y2 := by omega
    obtain ⟨Y3, hY3⟩ : ∃ Y : Int, (x3.toNat : Int) = Y := ⟨_, rfl⟩
    rw [hY3] at hb3 hw3
    have hY3p : 0 ≤ Y3 := by omega
    go_wp2
    go_loopw [4, 7] (fun v4 v7 wr => ∃ i c : Int, v4 = .int .i64 c ∧ v7 = .int .i64 i ∧ ((1 = i ∧ D = c) ∨ (2 = i ∧ (D) * 64 + Y1 - 128 = c ∧ (128 ≤ Y1 ∧ Y1 ≤ 191)) ∨ (3 = i ∧ ((D) * 64 + Y1 - 128) * 64 + Y2 - 128 = c ∧ (128 ≤ Y1 ∧ Y1 ≤ 191) ∧ (128 ≤ Y2 ∧ Y2 ≤ 191)) ∨ (4 = i ∧ (((D) * 64 + Y1 - 128) * 64 + Y2 - 128) * 64 + Y3 - 128 = c ∧ (128 ≤ Y1 ∧ Y1 ≤ 191) ∧ (128 ≤ Y2 ∧ Y2 ≤ 191) ∧ (128 ≤ Y3 ∧ Y3 ≤ 191))) ∧ Aside (∃ m, wr = w.drewN m)) (fun _ iv _ => 4 - (intOf iv).toNat)
    case atStart => exact ⟨1, D, rfl, rfl, .inl ⟨rfl, rfl⟩, 0, rfl⟩
    case round =>
      obtain ⟨i, c, rfl, rfl, hdis, hrel⟩ := hrel
      obtain ⟨m, hm⟩ := hrel.out
      have HM := Lib.hid hm
      clear hrel hm
      rcases hdis with ⟨rfl, rfl⟩ | ⟨rfl, rfl, o1⟩ | ⟨rfl, rfl, o1, o2⟩ | ⟨rfl, rfl, o1, o2, o3⟩
      · by_cases hlo : Y1 < 128
        · have hz := HK.out.symm.trans (if_neg (by omega))
          have HZ := Lib.hid hz
          clear hz
          go_wp2
          go_ret2
          rw [HZ.out]
          exact ⟨rfl, m, HM.out⟩
        by_cases hhi : 191 < Y1
        · have hz := HK.out.symm.trans (if_neg (by omega))
          have HZ := Lib.hid hz
          clear hz
          go_wp2
          go_ret2
          rw [HZ.out]
          exact ⟨rfl, m, HM.out⟩
        obtain ⟨z, hz⟩ : ∃ z, D = z := ⟨_, rfl⟩
        go_wp2
        go_roundw
        case rel => exact ⟨2, _, by first | rfl | go_num, by first | rfl | go_num, .inr (.inl ⟨rfl, by first | rfl | omega, ⟨by omega, by omega⟩⟩), (show Aside _ from ⟨m, HM.out⟩)⟩
        case measure => first | decide | (simp [intOf]; done)
      · by_cases hlo : Y2 < 128
        · have hz := HK.out.symm.trans (if_neg (by omega))
          have HZ := Lib.hid hz
          clear hz
          go_wp2
          go_ret2
          rw [HZ.out]
          exact ⟨rfl, m, HM.out⟩
        by_cases hhi : 191 < Y2
        · have hz := HK.out.symm.trans (if_neg (by omega))
          have HZ := Lib.hid hz
          clear hz
          go_wp2
          go_ret2
          rw [HZ.out]
          exact ⟨rfl, m, HM.out⟩
        obtain ⟨z, hz⟩ : ∃ z, (D) * 64 + Y1 - 128 = z := ⟨_, rfl⟩
        go_wp2
        go_roundw
        case rel => exact ⟨3, _, by first | rfl | go_num, by first | rfl | go_num, .inr (.inr (.inl ⟨rfl, by first | rfl | omega, o1, ⟨by omega, by omega⟩⟩)), (show Aside _ from ⟨m, HM.out⟩)⟩
        case measure => first | decide | (simp [intOf]; done)
      · by_cases hlo : Y3 < 128
        · have hz := HK.out.symm.trans (if_neg (by omega))
          have HZ := Lib.hid hz
          clear hz
          go_wp2
          go_ret2
          rw [HZ.out]
          exact ⟨rfl, m, HM.out⟩
        by_cases hhi : 191 < Y3
        · have hz := HK.out.symm.trans (if_neg (by omega))
          have HZ := Lib.hid hz
          clear hz
          go_wp2
          go_ret2
          rw [HZ.out]
          exact ⟨rfl, m, HM.out⟩
        obtain ⟨z, hz⟩ : ∃ z, ((D) * 64 + Y1 - 128) * 64 + Y2 - 128 = z := ⟨_, rfl⟩
        go_wp2
        go_roundw
        case rel => exact ⟨4, _, by first | rfl | go_num, by first | rfl | go_num, .inr (.inr (.inr ⟨rfl, by first | rfl | omega, o1, o2, ⟨by omega, by omega⟩⟩)), (show Aside _ from ⟨m, HM.out⟩)⟩
        case measure => first | decide | (simp [intOf]; done)
      · obtain ⟨C, hC⟩ : ∃ C, (((D) * 64 + Y1 - 128) * 64 + Y2 - 128) * 64 + Y3 - 128 = C := ⟨_, rfl⟩
        rw [hC]
        by_cases g1 : C < 65536
        · have hz := HK.out.symm.trans (if_neg (by omega))
          have HZ := Lib.hid hz
          clear hz
          go_wp2
          go_ret2
          rw [HZ.out]
          exact ⟨rfl, m, HM.out⟩
        by_cases g2 : 1114111 < C
        · have hz := HK.out.symm.trans (if_neg (by omega))
          have HZ := Lib.hid hz
          clear hz
          go_wp2
          go_ret2
          rw [HZ.out]
          exact ⟨rfl, m, HM.out⟩
        have g3 : 55296 ≤ C := by omega
        have g4 : ¬ C < 57344 := by omega
        have hz := HK.out.symm.trans (if_pos (by omega))
        have hCv : (((((x0.toNat - 240) * 64 + x1.toNat - 128) * 64 + x2.toNat - 128) * 64 + x3.toNat - 128 : Nat) : Int) = C := by omega
        have HZ := Lib.hid (And.intro hz hCv)
        clear hz hCv
        go_wp2
        go_ret2
        rw [HZ.out.1]
        exact ⟨by show _ = Ending.returned (.tuple #[.int .i64 4, .int .i64 (((((x0.toNat - 240) * 64 + x1.toNat - 128) * 64 + x2.toNat - 128) * 64 + x3.toNat - 128 : Nat) : Int)]); rw [HZ.out.2]; rfl, m, HM.out⟩
  · go_wp2
    go_ret2
    rw [sign_bad (.inr (by omega))]
    exact ⟨rfl, 0, rfl⟩
theorem sign_le {n b0 b1 b2 b3 : Nat} (hn : 1 ≤ n) (hb : b0 < 256) : (signN n b0 b1 b2 b3).1 ≤ n := by
  by_cases c1 : b0 < 128
  · rw [sign_low c1]; exact hn
  by_cases c2 : b0 < 194
  · rw [sign_bad (.inl ⟨by omega, c2⟩)]; exact Nat.zero_le _
  by_cases c3 : b0 < 224
  · rw [sign_two ⟨by omega, c3⟩]; split <;> simp only [] <;> omega
  by_cases c4 : b0 < 240
  · rw [sign_three ⟨by omega, c4⟩]; split <;> simp only [] <;> omega
  by_cases c5 : b0 < 245
  · rw [sign_four ⟨by omega, c5⟩]; split <;> simp only [] <;> omega
  · rw [sign_bad (.inr ⟨by omega, hb⟩)]; exact Nat.zero_le _
theorem signS_le (s : ByteArray) (h : 0 < s.size) : (signS s).1 ≤ s.size := sign_le h (s.get! 0).toNat_lt
def signL (l : List UInt8) : Nat × Nat := signS ⟨l.toArray⟩
theorem signL_S (s : ByteArray) : signL s.data.toList = signS s := by
  unfold signL
  rw [Array.toArray_toList]
theorem signL_le {l : List UInt8} (h : l ≠ []) : (signL l).1 ≤ l.length := by
  have := signS_le ⟨l.toArray⟩ (by show 0 < l.toArray.size; rw [List.size_toArray]; exact List.length_pos_iff.2 h)
  exact this
/-- How many signs, if all are such as may be. -/
def rn : Nat → List UInt8 → Option Nat
  | 0, l => if l = [] then some 0 else none
  | f + 1, l => if l = [] then some 0 else if (signL l).1 = 0 ∨ (signL l).2 < 32 ∨ (signL l).2 = 127 then none else (rn f (l.drop (signL l).1)).map (· + 1)
def runesQ (l : List UInt8) : Option Nat := rn l.length l
theorem rn_nil (f : Nat) : rn f [] = some 0 := by cases f <;> rfl
theorem rn_any : ∀ (f g : Nat) (l : List UInt8), l.length ≤ f → l.length ≤ g → rn f l = rn g l
  | 0, g, l, hf, _ => by
    obtain rfl : l = [] := List.eq_nil_of_length_eq_zero (by omega)
    rw [rn_nil, rn_nil]
  | f + 1, 0, l, _, hg => by
    obtain rfl : l = [] := List.eq_nil_of_length_eq_zero (by omega)
    rw [rn_nil, rn_nil]
  | f + 1, g + 1, l, hf, hg => by
    by_cases h : l = []
    · subst h; rw [rn_nil, rn_nil]
    · unfold rn
      rw [if_neg h, if_neg h]
      by_cases c : (signL l).1 = 0 ∨ (signL l).2 < 32 ∨ (signL l).2 = 127
      · rw [if_pos c, if_pos c]
      · rw [if_neg c, if_neg c, rn_any f g (l.drop (signL l).1) (by rw [List.length_drop]; omega) (by rw [List.length_drop]; omega)]
theorem rn_succ (f : Nat) {l : List UInt8} (h : l ≠ []) : rn (f + 1) l = if (signL l).1 = 0 ∨ (signL l).2 < 32 ∨ (signL l).2 = 127 then none else (rn f (l.drop (signL l).1)).map (· + 1) := if_neg h
theorem runes_step {l : List UInt8} (h : l ≠ []) : runesQ l = if (signL l).1 = 0 ∨ (signL l).2 < 32 ∨ (signL l).2 = 127 then none else (runesQ (l.drop (signL l).1)).map (· + 1) := by
  have hl := List.length_pos_iff.2 h
  obtain ⟨f, hf⟩ : ∃ f, l.length = f + 1 := ⟨l.length - 1, by omega⟩
  have e : runesQ l = rn (f + 1) l := by unfold runesQ; rw [hf]
  rw [e, rn_succ f h]
  by_cases c : (signL l).1 = 0 ∨ (signL l).2 < 32 ∨ (signL l).2 = 127
  · rw [if_pos c, if_pos c]
  · rw [if_neg c, if_neg c]
    have e2 : rn f (l.drop (signL l).1) = runesQ (l.drop (signL l).1) := rn_any _ _ _ (by rw [List.length_drop]; omega) (Nat.le_refl _)
    rw [e2]
theorem drewN_two (w : World) (m : Nat) : ∀ n, (w.drewN m).drewN n = w.drewN (m + n)
  | 0 => rfl
  | n + 1 => by show ((w.drewN m).drewN n).drew = (w.drewN (m + n)).drew; rw [drewN_two w m n]
def strSize (v : Value) : Nat := match v with | .string t => t.size | _ => 0
def runesEnd (o : Option Nat) : Ending := match o with | some n => .returned (.tuple #[.int .i64 (n : Int), .bool true]) | none => .returned (.tuple #[.int .i64 0, .bool false])
set_option maxHeartbeats 8000000 in
theorem rrunes_f (s : ByteArray) (w : World) (hs : s.size ≤ 1000000) : Calls Tryd.prog 43 #[.string s] w fun e w' => e = runesEnd (runesQ s.data.toList) ∧ ∃ m, w' = w.drewN m := by
  obtain ⟨R, hR⟩ : ∃ R, runesQ s.data.toList = R := ⟨_, rfl⟩
  rw [hR]
  have HR := Lib.hid hR
  clear hR
  go_enter Tryd.func43, Tryd.ntmps43
  go_wp2
  go_loopw [0, 4] (fun v0 v4 wr => ∃ (t : ByteArray) (k : Nat), v0 = .string t ∧ v4 = .int .i64 (k : Int) ∧ t.size + k ≤ s.size ∧ Aside ((runesQ t.data.toList).map (· + k) = R ∧ ∃ m, wr = w.drewN m)) (fun v0 _ _ => strSize v0)
  case atStart => exact ⟨s, 0, rfl, rfl, by omega, by rw [HR.out]; cases R <;> rfl, 0, rfl⟩
  case round =>
    obtain ⟨t, k, rfl, rfl, hsz, hrel⟩ := hrel
    obtain ⟨hq, m, hm⟩ := hrel.out
    have HM := Lib.hid hm
    by_cases h0 : 0 < t.size
    · have h0I : (0 : Int) < (t.size : Int) := by omega
      have hne : t.data.toList ≠ [] := fun e => by
        have e2 : t.data.toList.length = t.size := Array.length_toList
        rw [e] at e2
        have e3 : 0 = t.size := e2
        omega
      rw [runes_step hne, signL_S] at hq
      have hle := signS_le t h0
      have hsg := fun W => sign_f t W h0
      obtain ⟨p, hp⟩ : ∃ p, (signS t).1 = p := ⟨_, rfl⟩
      obtain ⟨c, hc⟩ : ∃ c, (signS t).2 = c := ⟨_, rfl⟩
      rw [hp, hc] at hq hsg
      rw [hp] at hle
      have HQ := Lib.hid hq
      have HS := Lib.hid hsg
      clear hq hsg hp hc hne hrel hm
      by_cases c1 : p = 0
      · have c1I : ((p : Int) == 0) = true := by rw [c1]; rfl
        have hn : R = none := by rw [← HQ.out, if_pos (.inl c1)]; rfl
        subst hn
        subst c1
        go_wp2_with fail
        refine (HS.out _).mono ?_
        rintro e w1 ⟨rfl, m1, hw1⟩
        have H1 := Lib.hid hw1
        clear hw1
        try dsimp only
        go_wp2
        go_ret2
        exact ⟨rfl, m + m1, by rw [H1.out, HM.out]; exact drewN_two _ _ _⟩
      have c1I : ¬ (p : Int) = 0 := by omega
      have c1B : ((p : Int) == 0) = false := beq_eq_false_iff_ne.2 c1I
      by_cases c2 : c < 32
      · have c2I : (c : Int) < 32 := by omega
        have hn : R = none := by rw [← HQ.out, if_pos (.inr (.inl c2))]; rfl
        subst hn
        go_wp2_with fail
        refine (HS.out _).mono ?_
        rintro e w1 ⟨rfl, m1, hw1⟩
        have H1 := Lib.hid hw1
        clear hw1
        try dsimp only
        go_wp2
        go_ret2
        exact ⟨rfl, m + m1, by rw [H1.out, HM.out]; exact drewN_two _ _ _⟩
      have c2I : ¬ (c : Int) < 32 := by omega
      by_cases c3 : c = 127
      · have hn : R = none := by rw [← HQ.out, if_pos (.inr (.inr c3))]; rfl
        subst hn
        obtain ⟨C, hC⟩ : ∃ C : Int, (c : Int) = C := ⟨_, rfl⟩
        have hC7 : C = 127 := by omega
        rw [hC] at HS c2I
        have c3I : (C == 127) = true := beq_iff_eq.2 hC7
        go_wp2_with fail
        refine (HS.out _).mono ?_
        rintro e w1 ⟨rfl, m1, hw1⟩
        have H1 := Lib.hid hw1
        clear hw1
        try dsimp only
        go_wp2
        go_ret2
        exact ⟨rfl, m + m1, by rw [H1.out, HM.out]; exact drewN_two _ _ _⟩
      have c3I : ¬ (c : Int) = 127 := by omega
      have c3B : ((c : Int) == 127) = false := beq_eq_false_iff_ne.2 c3I
      have hpI : (p : Int) ≤ t.size := by omega
      go_wp2_with fail
      refine (HS.out _).mono ?_
      rintro e w1 ⟨rfl, m1, hw1⟩
      have H1 := Lib.hid hw1
      clear hw1
      try dsimp only
      go_wp2
      go_roundw
      case rel =>
        refine ⟨t.extract p t.size, k + 1, by first | rfl | simp, by go_num, by rw [Lib.ext_size]; omega, ?_, m + m1, by rw [H1.out, HM.out]; exact drewN_two _ _ _⟩
        rw [Lib.ext_list, ← HQ.out, if_neg (by omega), Option.map_map]
        congr 1
        funext x
        show x + (k + 1) = x + 1 + k
        omega
      case measure =>
        show (t.extract p t.size).size < t.size
        rw [Lib.ext_size]
        omega
    · have h0I : ¬ (0 : Int) < (t.size : Int) := by omega
      have hnil : t.data.toList = [] := List.eq_nil_of_length_eq_zero (by rw [Array.length_toList]; have e2 : t.data.size = t.size := rfl; omega)
      rw [hnil] at hq
      have hn : R = some k := by rw [← hq]; show some (0 + k) = _; rw [Nat.zero_add]
      subst hn
      clear hq hrel hnil hm
      go_wp2
      go_ret2
      exact ⟨rfl, m, HM.out⟩
theorem signL_dec (l : List UInt8) : signL l = if Lib.decodeL l = (65533, 1) then (0, 0) else ((Lib.decodeL l).2, (Lib.decodeL l).1) := by
  have h := Lib.decode_at ⟨l.toArray⟩ 0
  have e : Lib.decodeL l = Lib.decodeN (ByteArray.size ⟨l.toArray⟩) (ByteArray.get! ⟨l.toArray⟩ 0).toNat (ByteArray.get! ⟨l.toArray⟩ 1).toNat (ByteArray.get! ⟨l.toArray⟩ 2).toNat (ByteArray.get! ⟨l.toArray⟩ 3).toNat := h
  unfold signL signS signN
  rw [e]
theorem decodeL_pos {l : List UInt8} (h : l ≠ []) : 1 ≤ (Lib.decodeL l).2 := Lib.decode_width_pos ⟨l.toArray⟩ 0 (by show 0 < l.toArray.size; rw [List.size_toArray]; exact List.length_pos_iff.2 h)
/-- What a range over a text that is valid counts. -/
def rgo : Nat → List UInt8 → Option Nat
  | 0, l => if l = [] then some 0 else none
  | f + 1, l => if l = [] then some 0 else if (Lib.decodeL l).1 < 32 ∨ (Lib.decodeL l).1 = 127 then none else (rgo f (l.drop (Lib.decodeL l).2)).map (· + 1)
theorem rgo_nil (f : Nat) : rgo f [] = some 0 := by cases f <;> rfl
theorem rgo_succ (f : Nat) {l : List UInt8} (h : l ≠ []) : rgo (f + 1) l = if (Lib.decodeL l).1 < 32 ∨ (Lib.decodeL l).1 = 127 then none else (rgo f (l.drop (Lib.decodeL l).2)).map (· + 1) := if_neg h
theorem rn_rgo : ∀ (f : Nat) (l : List UInt8), l.length ≤ f → rn f l = if Lib.validD l then rgo f l else none
  | 0, l, h => by
    obtain rfl : l = [] := List.eq_nil_of_length_eq_zero (by omega)
    rw [rn_nil, rgo_nil, Lib.validD_nil]; rfl
  | f + 1, l, h => by
    by_cases hn : l = []
    · subst hn; rw [rn_nil, rgo_nil, Lib.validD_nil]; rfl
    · rw [rn_succ f hn, rgo_succ f hn, Lib.validD_step l hn, signL_dec l]
      have hp := decodeL_pos hn
      by_cases hb : (Lib.decodeL l).1 = 65533 ∧ (Lib.decodeL l).2 = 1
      · have e : Lib.decodeL l = (65533, 1) := Prod.ext hb.1 hb.2
        rw [if_pos hb, if_pos e]; rfl
      · have e : ¬ Lib.decodeL l = (65533, 1) := fun e => hb (by rw [e]; exact ⟨rfl, rfl⟩)
        rw [if_neg hb, if_neg e]
        by_cases hc : (Lib.decodeL l).1 < 32 ∨ (Lib.decodeL l).1 = 127
        · rw [if_pos (Or.inr hc : (Lib.decodeL l).2 = 0 ∨ (Lib.decodeL l).1 < 32 ∨ (Lib.decodeL l).1 = 127), if_pos hc]
          split <;> rfl
        · rw [if_neg (show ¬ ((Lib.decodeL l).2 = 0 ∨ (Lib.decodeL l).1 < 32 ∨ (Lib.decodeL l).1 = 127) by omega), if_neg hc, rn_rgo f (l.drop (Lib.decodeL l).2) (by rw [List.length_drop]; omega)]
          cases Lib.validD (l.drop (Lib.decodeL l).2) <;> rfl
theorem runes_valid (l : List UInt8) : runesQ l = if Lib.validD l then rgo l.length l else none := rn_rgo _ _ (Nat.le_refl _)
end Go.Proofs.YtbclgalocipmfaaDoor
