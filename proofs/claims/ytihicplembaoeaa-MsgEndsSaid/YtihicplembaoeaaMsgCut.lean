/-
  A beginning of a message's bytes: what is read of it.
-/
import Derived.Test.YtihicplembaoeaaMsgRound
namespace Go.Proofs.Ytihicplembaoeaa
open Go.RowKit
set_option maxRecDepth 100000
set_option linter.unusedVariables false
theorem jn_cut (d : Nat) (hd : d ≤ 65804) (t : List UInt8) (m : Nat) : jn (tl d).1 (((tl d).2 ++ t).take m) = none ∨ (jn (tl d).1 (((tl d).2 ++ t).take m) = some (d, (tl d).2.length) ∧ (tl d).2.length ≤ m) := by
  by_cases h : (tl d).2.length ≤ m
  · right
    refine ⟨?_, h⟩
    rw [List.take_append, List.take_of_length_le h]
    exact jn_tl d hd _
  · left
    unfold tl at h ⊢
    split
    · rename_i h1; rw [if_pos h1] at h; exact absurd (Nat.zero_le _) h
    · rename_i h1
      rw [if_neg h1] at h
      split
      · rename_i h2
        rw [if_pos h2] at h
        obtain rfl : m = 0 := by simp only [List.length_cons, List.length_nil] at h; omega
        rfl
      · rename_i h2
        rw [if_neg h2] at h
        simp only [List.length_cons, List.length_nil] at h
        match m, h with
        | 0, _ => rfl
        | 1, _ => rfl
        | m + 2, h => exact absurd (by omega) h
theorem bg_cut (d : Nat) (hd : d ≤ 65804) (l : List UInt8) (hl : l.length ≤ 65804) (m : Nat) (hm : m < (optB d l).length) : bg ((optB d l).take m) = none ∨ ∃ k, bg ((optB d l).take m) = some (d, l.length, k) ∧ k ≤ m ∧ m < k + l.length := by
  rw [optB_eq] at hm ⊢
  simp only [List.length_cons, List.length_append] at hm
  match m, hm with
  | 0, _ => exact .inl rfl
  | m + 1, hm =>
    rw [List.take_succ_cons, bg_of, hdB_nat, show ((tl d).1 * 16 + (tl l.length).1) / 16 = (tl d).1 by have := (tl_bd l.length).1; omega, show ((tl d).1 * 16 + (tl l.length).1) % 16 = (tl l.length).1 by have := (tl_bd l.length).1; omega]
    rcases jn_cut d hd ((tl l.length).2 ++ l) m with h | ⟨h, hle⟩
    · rw [h]; exact .inl rfl
    · rw [h]
      simp only
      rw [List.take_append, List.take_of_length_le hle, List.drop_left]
      rcases jn_cut l.length hl l (m - (tl d).2.length) with h2 | ⟨h2, hle2⟩
      · rw [h2]; exact .inl rfl
      · rw [h2]
        exact .inr ⟨_, rfl, by omega, by omega⟩
theorem hdB_ne (d n : Nat) : ¬ hdB d n = 255 := fun e => by
  have h1 := hdB_nat d n
  rw [e] at h1
  have h2 := (tl_bd d).1
  have h3 := (tl_bd n).1
  have : (255 : UInt8).toNat = 255 := rfl
  omega
theorem rd_cut (L : List UInt8) : ∀ (r : List (Int × List UInt8)) (fuel at_ num m : Nat) (acc : List (Int × List UInt8)), L.drop at_ = (wrR num r).take m → at_ ≤ L.length → (∀ x ∈ r, (num : Int) ≤ x.1 ∧ x.1 ≤ 65535 ∧ x.2.length ≤ 300) → r.Pairwise (fun a b => a.1 ≤ b.1) → acc.length + r.length ≤ 24 → L.length - at_ < fuel →
    (∃ j, j ≤ r.length ∧ rdGo L fuel at_ num acc = (acc ++ r.take j, L.length, 0)) ∨ ∃ e : Int, e ≠ 0 ∧ rdGo L fuel at_ num acc = ([], 0, e)
  | _, 0, _, _, _, _, _, _, _, _, _, hf => absurd hf (Nat.not_lt_zero _)
  | [], fuel + 1, at_, num, m, acc, hd, hat, _, _, _, _ => by
    have h0 : L.drop at_ = [] := by rw [hd, wrR]; simp
    have hl : at_ = L.length := by have := congrArg List.length h0; rw [List.length_drop] at this; simp only [List.length_nil] at this; omega
    refine .inl ⟨0, Nat.le_refl _, ?_⟩
    rw [rdGo, List.getElem?_eq_none (by omega)]
    simp [hl]
  | x :: r, fuel + 1, at_, num, m, acc, hd, hat, hx, hp, hc, hf => by
    obtain ⟨x1, x2, x3⟩ := hx x List.mem_cons_self
    obtain ⟨dd, hdd⟩ : ∃ dd : Nat, (x.1 - (num : Int)).toNat = dd := ⟨_, rfl⟩
    have hnum : ((num + dd : Nat) : Int) = x.1 := by omega
    rw [wrR, hdd] at hd
    rw [List.length_cons] at hc
    have hlen := congrArg List.length hd
    rw [List.length_drop, List.length_take, List.length_append] at hlen
    by_cases hm0 : m = 0
    · subst hm0
      have hl : at_ = L.length := by omega
      refine .inl ⟨0, Nat.zero_le _, ?_⟩
      rw [rdGo, List.getElem?_eq_none (by omega)]
      simp [hl]
    · have hb0 : L[at_]? = some (hdB dd x.2.length) := by
        have : L[at_]? = (L.drop at_)[0]? := by rw [List.getElem?_drop]; simp
        rw [this, hd, List.getElem?_take, if_pos (by omega), optB_eq]
        rfl
      by_cases hm : m < (optB dd x.2).length
      · right
        have hd' : L.drop at_ = (optB dd x.2).take m := by rw [hd, List.take_append_of_le_length (by omega)]
        have hLm : L.length - at_ = m := by have := congrArg List.length hd'; rw [List.length_drop, List.length_take] at this; omega
        rw [rdGo, hb0]
        simp only
        rw [if_neg (hdB_ne _ _), hd']
        rcases bg_cut dd (by omega) x.2 (by omega) m hm with h | ⟨k, h, hk1, hk2⟩
        · rw [h]; exact ⟨20, by decide, rfl⟩
        · rw [h]
          simp only
          rw [if_neg (by omega), if_neg (by omega), if_neg (by omega), if_pos (by omega)]
          exact ⟨20, by decide, rfl⟩
      · have hd2 : L.drop at_ = optB dd x.2 ++ (wrR x.1 r).take (m - (optB dd x.2).length) := by
          rw [hd, List.take_append, List.take_of_length_le (by omega)]
        obtain ⟨R', hR'⟩ : ∃ R', (wrR x.1 r).take (m - (optB dd x.2).length) = R' := ⟨_, rfl⟩
        have hbg := bg_opt dd (by omega) x.2 (by omega) R'
        have hol : (optB dd x.2).length = 1 + (tl dd).2.length + (tl x.2.length).2.length + x.2.length := by
          rw [optB_eq]; simp only [List.length_cons, List.length_append]; omega
        rw [hR'] at hd2
        rw [← hd2] at hbg
        obtain ⟨k, hk⟩ : ∃ k, 1 + (tl dd).2.length + (tl x.2.length).2.length = k := ⟨_, rfl⟩
        rw [hk] at hbg hol
        have hdk : L.drop (at_ + k) = x.2 ++ R' := by
          rw [← List.drop_drop, hd2, optB_eq, List.cons_append, List.append_assoc, List.append_assoc]
          have e : hdB dd x.2.length :: ((tl dd).2 ++ ((tl x.2.length).2 ++ (x.2 ++ R'))) = (hdB dd x.2.length :: ((tl dd).2 ++ (tl x.2.length).2)) ++ (x.2 ++ R') := by simp
          rw [e, List.drop_append_of_le_length (by simp; omega), List.drop_eq_nil_of_le (by simp; omega), List.nil_append]
        have hLl : L.length - at_ = k + x.2.length + R'.length := by
          have := congrArg List.length hd2
          rw [List.length_drop, List.length_append, hol] at this
          exact this
        have hds : L.drop (at_ + k + x.2.length) = (wrR ((num + dd : Nat) : Int) r).take (m - (optB dd x.2).length) := by
          rw [← List.drop_drop, hdk, List.drop_append_of_le_length (Nat.le_refl _), List.drop_length, List.nil_append, hnum, hR']
        clear hlen
        have hk1 : 1 ≤ k := by omega
        have y1 : ¬ acc.length = 24 := by omega
        have y2 : ¬ 65535 < num + dd := by omega
        have y3 : ¬ 300 < x.2.length := by omega
        have y4 : ¬ L.length - (at_ + k) < x.2.length := by omega
        rw [List.pairwise_cons] at hp
        have ih := rd_cut L r fuel (at_ + k + x.2.length) (num + dd) (m - (optB dd x.2).length) (acc ++ [(((num + dd : Nat) : Int), x.2)]) hds (by omega) (fun y hy => ⟨by rw [hnum]; exact hp.1 y hy, (hx y (List.mem_cons_of_mem _ hy)).2⟩) hp.2 (by rw [List.length_append]; show acc.length + 1 + r.length ≤ 24; omega) (by omega)
        have hst : rdGo L (fuel + 1) at_ num acc = rdGo L fuel (at_ + k + x.2.length) (num + dd) (acc ++ [(((num + dd : Nat) : Int), x.2)]) := by
          rw [rdGo, hb0]
          simp only
          rw [if_neg (hdB_ne _ _), hbg]
          simp only
          rw [if_neg y1, if_neg y2, if_neg y3, if_neg y4, hdk, List.take_append_of_le_length (Nat.le_refl _), List.take_length]
        rw [hst]
        rcases ih with ⟨j, hj, h⟩ | h
        · refine .inl ⟨j + 1, by rw [List.length_cons]; omega, ?_⟩
          rw [h, hnum, List.append_assoc]
          rfl
        · exact .inr h
theorem rdO_cut {P : List (Int × List UInt8)} (h : Okp P) (h24 : P.length ≤ 24) (q : Nat) : (∃ j, j ≤ P.length ∧ rdO ((wrF P).1.take q) = (P.take j, ((wrF P).1.take q).length, 0)) ∨ ∃ e : Int, e ≠ 0 ∧ rdO ((wrF P).1.take q) = ([], 0, e) := by
  rw [wrF_R]
  have := rd_cut ((wrR 0 P).take q) P (((wrR 0 P).take q).length + 1) 0 0 q [] (by rw [List.drop_zero]; rfl) (Nat.zero_le _) (fun x hx => ⟨(h.2 x hx).1, (h.2 x hx).2⟩) h.1 (by simpa using h24) (by omega)
  simpa [rdO] using this
theorem ends_cut {kd cd id : Int} {tok : List UInt8} {ps : List (Int × List UInt8)} {body : List UInt8} (h : (mwr kd cd id tok ps body).2 = 0) (k : Nat) (hk : k < (mwr kd cd id tok ps body).1.length) :
    (∃ e : Int, e ≠ 0 ∧ rdM ((mwr kd cd id tok ps body).1.take k) = (Mq.zero, e)) ∨ ∃ j i, j ≤ (sortP ps).length ∧ i ≤ body.length ∧ rdM ((mwr kd cd id tok ps body).1.take k) = (⟨kd, cd, id, tok, (sortP ps).take j, body.take i⟩, 0) := by
  obtain ⟨hr, h0, h1, h2, he, hm⟩ := mwr_ok h
  obtain ⟨r1, r2, r3, r4, r5⟩ := rngB_true hr
  obtain ⟨h24, hok, hw, _⟩ := wrP_sorted he
  have hP24 : (sortP ps).length ≤ 24 := by rw [sortP_len]; exact h24
  have hc0 : 0 ≤ cd := by rcases r3 with h | h <;> omega
  obtain ⟨kk, rfl⟩ := Int.eq_ofNat_of_zero_le r1
  obtain ⟨c, rfl⟩ := Int.eq_ofNat_of_zero_le hc0
  obtain ⟨i, rfl⟩ := Int.eq_ofNat_of_zero_le r4
  have hcc : (0 ≤ c ∧ c ≤ 31) ∨ (64 ≤ c ∧ c ≤ 191) := by rcases r3 with h | h <;> omega
  have hemp : c = 0 → tok = [] ∧ ps = [] ∧ body = [] := fun e => by
    have := h0 (by omega)
    exact ⟨List.eq_nil_of_length_eq_zero (by omega), List.eq_nil_of_length_eq_zero (by omega), List.eq_nil_of_length_eq_zero (by omega)⟩
  rw [hm] at hk ⊢
  change k < (mwHd kk c i tok.length ++ (tok ++ ((wrF (sortP ps)).1 ++ (if body.length = 0 then [] else 255 :: body)))).length at hk
  change (∃ e : Int, e ≠ 0 ∧ rdM ((mwHd kk c i tok.length ++ (tok ++ ((wrF (sortP ps)).1 ++ (if body.length = 0 then [] else 255 :: body)))).take k) = (Mq.zero, e)) ∨ ∃ j i', j ≤ (sortP ps).length ∧ i' ≤ body.length ∧ rdM ((mwHd kk c i tok.length ++ (tok ++ ((wrF (sortP ps)).1 ++ (if body.length = 0 then [] else 255 :: body)))).take k) = (⟨(kk : Int), (c : Int), (i : Int), tok, (sortP ps).take j, body.take i'⟩, 0)
  have hcne : 4 ≤ k → c = 0 → False := fun e e2 => by
    obtain ⟨rfl, rfl, rfl⟩ := hemp e2
    have : (wrF (sortP [])).1 = [] := by decide +kernel
    rw [this] at hk
    simp [mwHd] at hk
    omega
  clear hm h h0 hw he hr
  obtain ⟨P, hP⟩ : ∃ P, sortP ps = P := ⟨_, rfl⟩
  rw [hP] at hk hok hP24 ⊢
  obtain ⟨O, hO⟩ : ∃ O, (wrF P).1 = O := ⟨_, rfl⟩
  rw [hO] at hk ⊢
  obtain ⟨tail, htl⟩ : ∃ tail, (if body.length = 0 then ([] : List UInt8) else 255 :: body) = tail := ⟨_, rfl⟩
  rw [htl] at hk ⊢
  by_cases hk4 : k < 4
  · refine .inl ⟨20, by decide, ?_⟩
    rw [rdM, if_pos ((badM_iff _).2 (.inl (fun hh => by have := hh.1; rw [List.length_take] at this; omega)))]
  · have hkt : (mwHd kk c i tok.length ++ (tok ++ (O ++ tail))).take k = mwHd kk c i tok.length ++ (tok ++ (O ++ tail)).take (k - 4) := by
      rw [List.take_append, List.take_of_length_le (by simp [mwHd]; omega)]
      rfl
    rw [hkt]
    by_cases hkk : k - 4 < tok.length
    · refine .inl ⟨20, by decide, ?_⟩
      obtain ⟨b0, _, _, _, _, hl⟩ := mw_head (k := kk) (c := c) (i := i) (t := tok.length) (by omega) (by omega) (by omega) h1 ((tok ++ (O ++ tail)).take (k - 4))
      rw [rdM, if_pos ((badM_iff _).2 (.inr (.inr (.inr (.inl ?_)))))]
      rw [b0, hl, List.length_take]
      omega
    · have hR : (tok ++ (O ++ tail)).take (k - 4) = tok ++ (O ++ tail).take (k - 4 - tok.length) := by
        rw [List.take_append, List.take_of_length_le (by omega)]
      rw [hR, rd_head (k := kk) (c := c) (i := i) (by omega) hcc (by omega) h1 tok _ rfl (fun e => (hcne (by omega) e).elim)]
      obtain ⟨q, hq⟩ : ∃ q, k - 4 - tok.length = q := ⟨_, rfl⟩
      rw [hq]
      have hql : q < O.length + tail.length := by
        simp only [List.length_append, mwHd, List.length_cons, List.length_nil] at hk
        omega
      by_cases hqO : q ≤ O.length
      · rw [List.take_append_of_le_length hqO]
        have := rdO_cut hok hP24 q
        rw [hO] at this
        rcases this with ⟨j, hj, hh⟩ | ⟨e, hne, hh⟩
        · refine .inr ⟨j, 0, hj, Nat.zero_le _, ?_⟩
          rw [hh]
          dsimp only
          rw [if_neg (by simp), List.drop_length, show bodyF [] = ([], 0) from rfl, if_neg (by simp)]
          rfl
        · refine .inl ⟨e, hne, ?_⟩
          rw [hh]
          dsimp only
          rw [if_pos hne]
      · have htne : body.length ≠ 0 := fun e => by
          rw [if_pos e] at htl
          subst htl
          simp only [List.length_nil] at hql
          omega
        rw [if_neg htne] at htl
        subst htl
        obtain ⟨p, hp⟩ : ∃ p, q - O.length = p + 1 := ⟨q - O.length - 1, by omega⟩
        rw [List.take_append, List.take_of_length_le (by omega), hp, List.take_succ_cons]
        have hrd := rd_wr hok hP24 (255 :: body.take p) (.inr ⟨_, rfl⟩)
        rw [hO] at hrd
        rw [hrd]
        dsimp only
        rw [if_neg (by simp), List.drop_left]
        by_cases hb : (body.take p).length = 0
        · refine .inl ⟨20, by decide, ?_⟩
          rw [List.eq_nil_of_length_eq_zero hb]
          rw [show bodyF [255] = ([], 20) from rfl, if_pos (by simp)]
        · have hbl : (body.take p).length ≤ 1200 := by rw [List.length_take]; omega
          have hbf : bodyF (255 :: body.take p) = (body.take p, 0) := by
            have := bodyF_tail (body.take p) hbl
            rwa [if_neg hb] at this
          rw [hbf, if_neg (by simp)]
          refine .inr ⟨P.length, min p body.length, Nat.le_refl _, Nat.min_le_right _ _, ?_⟩
          rw [List.take_length]
          congr 3
          rcases Nat.le_total p body.length with hle | hle
          · rw [Nat.min_eq_left hle]
          · rw [Nat.min_eq_right hle, List.take_of_length_le hle, List.take_length]
end Go.Proofs.Ytihicplembaoeaa
