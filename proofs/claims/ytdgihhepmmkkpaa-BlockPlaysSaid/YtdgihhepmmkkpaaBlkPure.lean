/-
  Bodies cut and put together: plain laws of lists and numbers.
-/
import Derived.Test.YtdgihhepmmkkpaaBlkPut
namespace Go.Proofs.Ytdgihhepmmkkpaa
open Go.RowKit
set_option maxRecDepth 100000
set_option linter.unusedVariables false
theorem and1023 (x : Int) : ∃ r : Nat, r < 1024 ∧ bits .and .i64 x 1023 = (r : Int) := by
  refine ⟨(BitVec.ofInt 64 x &&& BitVec.ofInt 64 ((1023 : Nat) : Int)).toNat, ?_, ?_⟩
  · rw [BitVec.ofInt_natCast, BitVec.toNat_and, BitVec.toNat_ofNat]
    exact Nat.lt_of_le_of_lt Nat.and_le_right (by decide)
  · show IntKind.i64.wrap ((BitVec.ofInt 64 x &&& BitVec.ofInt 64 ((1023 : Nat) : Int)).toNat : Int) = _
    have h : (BitVec.ofInt 64 x &&& BitVec.ofInt 64 ((1023 : Nat) : Int)).toNat < 1024 := by
      rw [BitVec.ofInt_natCast, BitVec.toNat_and, BitVec.toNat_ofNat]
      exact Nat.lt_of_le_of_lt Nat.and_le_right (by decide)
    rw [IntWalk.i64_in _ (by omega)]
theorem size_right {s Z : Nat} (hs : s < 7) (hZ : Z = 16 * 2 ^ s) : powZ (Z : Int) = (s : Int) ∧ 16 ≤ Z ∧ Z ≤ 1024 := by
  subst hZ
  match s, hs with
  | 0, _ | 1, _ | 2, _ | 3, _ | 4, _ | 5, _ | 6, _ => decide
theorem right_of {N s Z : Nat} (hs : s < 7) (hZ : Z = 16 * 2 ^ s) (hN : N ≤ 1048575) : rightB (N : Int) (Z : Int) = true :=
  (right_iff _ _).2 ⟨by rw [(size_right hs hZ).1]; omega, by omega, by omega⟩
theorem blk_round {N s Z : Nat} (m : Bool) (hs : s < 7) (hZ : Z = 16 * 2 ^ s) (hN : N ≤ 1048575) : (blkW (N : Int) (Z : Int) m).2 = 0 ∧ blkR (blkW (N : Int) (Z : Int) m).1 = (((N : Int), m, (Z : Int)), 0) ∧ (blkW (N : Int) (Z : Int) m).1.length ≤ 3 := by
  have hr := right_of hs hZ hN
  have hp := (size_right hs hZ).1
  have hW : blkW (N : Int) (Z : Int) m = ((le (N * 16 + s + (moreN m).toNat)).reverse, 0) := by
    unfold blkW
    rw [if_pos hr, hp]
    cases m with
    | true => rw [show ((N : Int) * 16 + (s : Int) + moreN true).toNat = N * 16 + s + (moreN true).toNat by simp [moreN]; omega]
    | false => rw [show ((N : Int) * 16 + (s : Int) + moreN false).toNat = N * 16 + s + (moreN false).toNat by simp [moreN]; omega]
  have hm8 : (moreN m).toNat = if m then 8 else 0 := by cases m <;> rfl
  have hl3 : (le (N * 16 + s + (moreN m).toNat)).length ≤ 3 := le_len 3 _ (by
    show _ < 256 ^ 3
    rw [hm8]
    split <;> omega)
  rw [hW]
  refine ⟨rfl, ?_, by rw [List.length_reverse]; exact hl3⟩
  unfold blkR
  rw [if_neg (by rw [List.length_reverse]; omega), numOf_le, hm8]
  cases m with
  | true =>
    simp only [if_true]
    rw [if_neg (by omega), show (N * 16 + s + 8) / 16 = N by omega, show (N * 16 + s + 8) % 8 = s by omega, ← hZ, decide_eq_true (by omega)]
  | false =>
    simp only [Bool.false_eq_true, if_false]
    rw [if_neg (by omega), show (N * 16 + s + 0) / 16 = N by omega, show (N * 16 + s + 0) % 8 = s by omega, ← hZ, decide_eq_false (by omega)]
theorem cut_in {l : List UInt8} {i s Z T : Nat} (hs : s < 7) (hZ : Z = 16 * 2 ^ s) (hi : i ≤ 1048575) (hT : i * Z = T) (h : i = 0 ∨ T < l.length) : cutF l (i : Int) (Z : Int) = ((l.drop T).take Z, decide (T + Z < l.length), true) := by
  have hTI : (i : Int) * (Z : Int) = (T : Int) := by rw [← hT]; simp
  unfold cutF
  rw [if_pos (right_of hs hZ hi), hTI, Int.toNat_natCast, Int.toNat_natCast, if_neg (by omega), show decide ((T : Int) + (Z : Int) < (l.length : Int)) = decide (T + Z < l.length) from decide_eq_decide.2 (by omega)]
theorem cut_out {l : List UInt8} {i s Z T : Nat} (hs : s < 7) (hZ : Z = 16 * 2 ^ s) (hi : i ≤ 1048575) (hT : i * Z = T) (h0 : 0 < i) (h : l.length ≤ T) : cutF l (i : Int) (Z : Int) = ([], false, false) := by
  have hTI : (i : Int) * (Z : Int) = (T : Int) := by rw [← hT]; simp
  unfold cutF
  rw [if_pos (right_of hs hZ hi), hTI, if_pos (by omega)]
theorem chk_in {l : List UInt8} {most i s Z T k : Nat} {m : Bool} (hs : s < 7) (hZ : Z = 16 * 2 ^ s) (hi : i ≤ 1048575) (hT : i * Z = T) (hl : l.length = T) (hk : k ≤ Z) (hm : m = true → k = Z) (hmo : T + k ≤ most) : chkE most l false (i : Int) (Z : Int) m k = 0 := by
  have hTI : (i : Int) * (Z : Int) = (T : Int) := by rw [← hT]; simp
  unfold chkE
  rw [right_of hs hZ hi, if_neg (by simp), hTI, hl, if_neg (by simp), if_neg (by
    rintro (h | ⟨h1, h2⟩)
    · omega
    · have := hm h1; omega), if_neg (by omega)]
/-- A body's next block goes on where the ones ahead ended. -/
theorem put_in {l : List UInt8} {most i s Z T : Nat} (hs : s < 7) (hZ : Z = 16 * 2 ^ s) (hi : i ≤ 1048575) (hT : i * Z = T) (h : i = 0 ∨ T < l.length) (hmo : l.length ≤ most) :
    jput most (l.take T) false (i : Int) (Z : Int) (decide (T + Z < l.length)) ((l.drop T).take Z) = ((l.take (T + Z), !decide (T + Z < l.length)), !decide (T + Z < l.length), 0) := by
  have hz := size_right hs hZ
  have hTl : T ≤ l.length := by
    rcases h with h | h
    · subst h; omega
    · omega
  have h0 : (if (i : Int) = 0 then ([] : List UInt8) else l.take T) = l.take T := by
    by_cases e : i = 0
    · subst e
      have : T = 0 := by omega
      subst this
      simp
    · rw [if_neg (by omega)]
  have h1 : (if (i : Int) = 0 then false else false) = false := by split <;> rfl
  have hlk : ((l.drop T).take Z).length = min Z (l.length - T) := by rw [List.length_take, List.length_drop]
  have hc : chkE most (l.take T) false (i : Int) (Z : Int) (decide (T + Z < l.length)) ((l.drop T).take Z).length = 0 := by
    refine chk_in hs hZ hi hT (by rw [List.length_take]; omega) (by rw [hlk]; omega) (fun e => ?_) (by rw [hlk]; omega)
    have := of_decide_eq_true e
    rw [hlk]; omega
  unfold jput
  rw [h0, h1, hc, if_pos rfl, List.take_add]
theorem put_again {l d : List UInt8} {most i s Z T : Nat} {wh m : Bool} (hs : s < 7) (hZ : Z = 16 * 2 ^ s) (hi : i ≤ 1048575) (hT : i * Z = T) (h0 : 0 < i) (h : l.length ≠ T) : jput most l wh (i : Int) (Z : Int) m d = (([], false), false, 4) := by
  have hTI : (i : Int) * (Z : Int) = (T : Int) := by rw [← hT]; simp
  have hc : chkE most l wh (i : Int) (Z : Int) m d.length = 4 := by
    unfold chkE
    rw [right_of hs hZ hi, if_neg (by simp), hTI, if_pos (.inr (by omega))]
  have q1 : (if (i : Int) = 0 then ([] : List UInt8) else l) = l := if_neg (by omega)
  have q2 : (if (i : Int) = 0 then false else wh) = wh := if_neg (by omega)
  unfold jput
  rw [q1, q2, hc, if_neg (by decide)]
end Go.Proofs.Ytdgihhepmmkkpaa
