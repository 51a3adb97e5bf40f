/-
  What is written of a message is read as it.
-/
import Derived.Test.YtfbddldcbjhmiaaMsgRead
import Derived.Test.YtfbddldcbjhmiaaOptRound
namespace Go.Proofs.Ytfbddldcbjhmiaa
open Go.RowKit
set_option maxRecDepth 100000
set_option linter.unusedVariables false
theorem byteN {n : Nat} (h : n < 256) : (UInt8.ofNat n).toNat = n := by
  rw [UInt8.toNat_ofNat']; exact Nat.mod_eq_of_lt h
theorem mwr_ok {kd cd id : Int} {tok : List UInt8} {ps : List (Int × List UInt8)} {body : List UInt8} (h : (mwr kd cd id tok ps body).2 = 0) :
    rngB kd cd id = true ∧ (cd = 0 → tok.length + ps.length + body.length = 0) ∧ tok.length ≤ 8 ∧ body.length ≤ 1200 ∧ errP ps = 0 ∧ mwr kd cd id tok ps body = (mwHd kd.toNat cd.toNat id.toNat tok.length ++ (tok ++ ((wrF (sortP ps)).1 ++ (if body.length = 0 then [] else 255 :: body))), 0) := by
  unfold mwr at h ⊢
  split at h
  · cases h
  · rename_i h1
    split at h
    · cases h
    · rename_i h2
      split at h
      · rename_i h3
        exact absurd h h3
      · rename_i h3
        have he : errP ps = 0 := by
          by_cases e : errP ps = 0
          · exact e
          · unfold wrP at h3
            rw [if_neg e] at h3
            exact absurd h3 (by simpa using e)
        refine ⟨?_, fun e => ?_, by omega, by omega, he, ?_⟩
        · cases e : rngB kd cd id with
          | true => rfl
          | false => exact absurd (.inl e) h1
        · by_cases e2 : 0 < tok.length + ps.length + body.length
          · exact absurd (.inr ⟨e, e2⟩) h1
          · omega
        · rw [if_neg h1, if_neg h2, if_neg h3, show (wrP ps).1 = (wrF (sortP ps)).1 by rw [(wrP_sorted he).2.2.1]]
theorem rngB_true {kd cd id : Int} (h : rngB kd cd id = true) : 0 ≤ kd ∧ kd ≤ 3 ∧ ((0 ≤ cd ∧ cd ≤ 31) ∨ (64 ≤ cd ∧ cd ≤ 191)) ∧ 0 ≤ id ∧ id ≤ 65535 := by
  unfold rngB at h; exact of_decide_eq_true h
theorem mw_head {k c i t : Nat} (hk : k ≤ 3) (hc : c ≤ 191) (hi : i ≤ 65535) (ht : t ≤ 8) (R : List UInt8) :
    bn0 (mwHd k c i t ++ R) 0 = 64 + 16 * k + t ∧ bn0 (mwHd k c i t ++ R) 1 = c ∧ bn0 (mwHd k c i t ++ R) 2 = i / 256 ∧ bn0 (mwHd k c i t ++ R) 3 = i % 256 ∧ (mwHd k c i t ++ R).drop 4 = R ∧ (mwHd k c i t ++ R).length = 4 + R.length := by
  refine ⟨?_, ?_, ?_, ?_, rfl, ?_⟩
  · show (UInt8.ofNat (64 + 16 * k + t)).toNat = _; exact byteN (by omega)
  · show (UInt8.ofNat c).toNat = _; exact byteN (by omega)
  · show (UInt8.ofNat (i / 256)).toNat = _; exact byteN (by omega)
  · show (UInt8.ofNat (i % 256)).toNat = _; exact byteN (by omega)
  · rw [List.length_append]; rfl
/-- Bytes whose head is a message's: what is read of them, part by part. -/
theorem rd_head {k c i t : Nat} (hk : k ≤ 3) (hc : (0 ≤ c ∧ c ≤ 31) ∨ (64 ≤ c ∧ c ≤ 191)) (hi : i ≤ 65535) (ht : t ≤ 8) (tok R : List UInt8) (htok : tok.length = t) (h0 : c = 0 → t + R.length = 0) :
    rdM (mwHd k c i t ++ (tok ++ R)) = if (rdO R).2.2 ≠ 0 then (Mq.zero, (rdO R).2.2) else if (bodyF (R.drop (rdO R).2.1)).2 ≠ 0 then (Mq.zero, (bodyF (R.drop (rdO R).2.1)).2)
      else (⟨(k : Int), (c : Int), (i : Int), tok, (rdO R).1, (bodyF (R.drop (rdO R).2.1)).1⟩, 0) := by
  obtain ⟨b0, b1, b2, b3, hd, hl⟩ := mw_head (c := c) hk (by omega) hi ht (tok ++ R)
  have hR : restM (mwHd k c i t ++ (tok ++ R)) = R := by
    unfold restM
    rw [b0, show (64 + 16 * k + t) % 16 = t by omega, ← List.drop_drop, hd]
    rw [← htok]
    exact List.drop_left
  have hbad : ¬ badM (mwHd k c i t ++ (tok ++ R)) := by
    rw [badM_iff, b0, b1, hl, List.length_append]
    rintro (h | h | h | h | h)
    · exact h ⟨by omega, by omega⟩
    · rw [(codeB_iff (c : Int)).2 (by omega)] at h; cases h
    · omega
    · omega
    · have := h0 h.1; omega
  rw [rdM, if_neg hbad, hR, b0, b1, b2, b3, show (64 + 16 * k + t) % 16 = t by omega, hd, show (64 + 16 * k + t) / 16 % 4 = k by omega, show i / 256 * 256 + i % 256 = i by omega]
  rw [show (tok ++ R).take t = tok by rw [← htok]; exact List.take_left]
theorem bodyF_tail (body : List UInt8) (hb : body.length ≤ 1200) : bodyF (if body.length = 0 then [] else 255 :: body) = (body, 0) := by
  by_cases h : body.length = 0
  · rw [if_pos h, List.eq_nil_of_length_eq_zero h]; rfl
  · rw [if_neg h]
    unfold bodyF
    rw [if_neg (by simp), if_neg (by simp; exact fun e => h (by rw [e]; rfl)), if_neg (by rw [List.length_cons]; omega)]
    rfl
theorem tail_or (body : List UInt8) : (if body.length = 0 then ([] : List UInt8) else 255 :: body) = [] ∨ ∃ t, (if body.length = 0 then ([] : List UInt8) else 255 :: body) = 255 :: t := by
  by_cases h : body.length = 0
  · exact .inl (by rw [if_pos h])
  · exact .inr ⟨body, by rw [if_neg h]⟩
theorem rd_mw {kd cd id : Int} {tok : List UInt8} {ps : List (Int × List UInt8)} {body : List UInt8} (h : (mwr kd cd id tok ps body).2 = 0) :
    rdM (mwr kd cd id tok ps body).1 = (⟨kd, cd, id, tok, sortP ps, body⟩, 0) := by
  obtain ⟨hr, h0, h1, h2, he, hm⟩ := mwr_ok h
  obtain ⟨r1, r2, r3, r4, r5⟩ := rngB_true hr
  obtain ⟨h24, hok, hw, _⟩ := wrP_sorted he
  rw [hm]
  obtain ⟨k, rfl⟩ := Int.eq_ofNat_of_zero_le r1
  obtain ⟨c, rfl⟩ := Int.eq_ofNat_of_zero_le (show 0 ≤ cd by omega)
  obtain ⟨i, rfl⟩ := Int.eq_ofNat_of_zero_le r4
  have hrd := rd_wr hok (by rw [sortP_len]; exact h24) _ (tail_or body)
  have hz : c = 0 → tok.length + ((wrF (sortP ps)).1 ++ (if body.length = 0 then [] else 255 :: body)).length = 0 := fun e => by
    have hh := h0 (by omega)
    have e1 : ps = [] := List.eq_nil_of_length_eq_zero (by omega)
    have e2 : body = [] := List.eq_nil_of_length_eq_zero (by omega)
    have e3 : tok = [] := List.eq_nil_of_length_eq_zero (by omega)
    subst e1 e2 e3
    have : (wrF (sortP [])).1 = [] := by decide +kernel
    rw [this]
    rfl
  show rdM (mwHd k c i tok.length ++ (tok ++ ((wrF (sortP ps)).1 ++ (if body.length = 0 then [] else 255 :: body)))) = _
  rw [rd_head (k := k) (c := c) (i := i) (by omega) (by omega) (by omega) h1 tok _ rfl hz, hrd]
  dsimp only
  rw [if_neg (by simp), List.drop_left, bodyF_tail body h2, if_neg (by simp)]
end Go.Proofs.Ytfbddldcbjhmiaa
