/-
  Options that are written are read as they are: lists.
-/
import Derived.Test.YtfbddldcbjhmiaaOptRWrite
import Derived.Test.YtfbddldcbjhmiaaOptRRead
namespace Go.Proofs.Ytfbddldcbjhmiaa
open Go.RowKit
set_option maxRecDepth 100000
set_option linter.unusedVariables false
theorem jn_tl (d : Nat) (hd : d ≤ 65804) (t : List UInt8) : jn (tl d).1 ((tl d).2 ++ t) = some (d, (tl d).2.length) := by
  unfold tl
  split
  · rename_i h
    show jn d ([] ++ t) = some (d, 0)
    unfold jn
    rw [if_pos h]
  · rename_i h
    split
    · rename_i h2
      show jn 13 ([UInt8.ofNat (d - 13)] ++ t) = some (d, 1)
      unfold jn
      rw [if_neg (by decide), if_pos rfl]
      show some (13 + (UInt8.ofNat (d - 13)).toNat, 1) = some (d, 1)
      rw [nbyte (by omega), show 13 + (d - 13) = d by omega]
    · rename_i h2
      show jn 14 ([UInt8.ofNat ((d - 269) / 256), UInt8.ofNat ((d - 269) % 256)] ++ t) = some (d, 2)
      unfold jn
      rw [if_neg (by decide), if_neg (by decide), if_pos rfl]
      show some (269 + (UInt8.ofNat ((d - 269) / 256)).toNat * 256 + (UInt8.ofNat ((d - 269) % 256)).toNat, 2) = some (d, 2)
      rw [nbyte (by omega), nbyte (by omega), show 269 + (d - 269) / 256 * 256 + (d - 269) % 256 = d by omega]
def hdB (d n : Nat) : UInt8 := UInt8.ofNat ((tl d).1 * 16 + (tl n).1)
theorem hdB_nat (d n : Nat) : (hdB d n).toNat = (tl d).1 * 16 + (tl n).1 := by
  have h1 := (tl_bd d).1
  have h2 := (tl_bd n).1
  unfold hdB
  exact nbyte (by omega)
theorem optB_eq (d : Nat) (l : List UInt8) : optB d l = hdB d l.length :: ((tl d).2 ++ ((tl l.length).2 ++ l)) := by
  unfold optB hdB
  rw [List.append_assoc]
theorem bg_opt (d : Nat) (hd : d ≤ 65804) (l : List UInt8) (hl : l.length ≤ 65804) (t : List UInt8) : bg (optB d l ++ t) = some (d, l.length, 1 + (tl d).2.length + (tl l.length).2.length) := by
  have h1 := (tl_bd d).1
  have h2 := (tl_bd l.length).1
  rw [optB_eq, List.cons_append, bg_of, hdB_nat]
  rw [show ((tl d).1 * 16 + (tl l.length).1) / 16 = (tl d).1 by omega, show ((tl d).1 * 16 + (tl l.length).1) % 16 = (tl l.length).1 by omega]
  rw [List.append_assoc, jn_tl d hd]
  simp only
  rw [List.drop_append_of_le_length (Nat.le_refl _), List.drop_length, List.nil_append, List.append_assoc, jn_tl _ hl]
/-- What is written behind a number. -/
def wrR : Int → List (Int × List UInt8) → List UInt8
  | _, [] => []
  | a, x :: r => optB (x.1 - a).toNat x.2 ++ wrR x.1 r
theorem wr_fold : ∀ (r : List (Int × List UInt8)) (acc : List UInt8) (a : Int), (r.foldl wrStep (acc, a)).1 = acc ++ wrR a r
  | [], acc, a => by simp [wrR]
  | x :: r, acc, a => by
    rw [List.foldl_cons]
    show (r.foldl wrStep (acc ++ optB (x.1 - a).toNat x.2, x.1)).1 = _
    rw [wr_fold r, wrR, List.append_assoc]
theorem wrF_R (P : List (Int × List UInt8)) : (wrF P).1 = wrR 0 P := by
  unfold wrF
  rw [wr_fold, List.nil_append]
theorem optB_pos (d : Nat) (l : List UInt8) : 1 ≤ (optB d l).length := by rw [optB_eq]; simp
theorem wrR_ge : ∀ (r : List (Int × List UInt8)) (a : Int), r.length ≤ (wrR a r).length
  | [], _ => Nat.le_refl _
  | x :: r, a => by
    rw [wrR, List.length_append, List.length_cons]
    have := wrR_ge r x.1
    have := optB_pos (x.1 - a).toNat x.2
    omega
theorem rd_enc (L : List UInt8) : ∀ (r : List (Int × List UInt8)) (fuel at_ num : Nat) (acc : List (Int × List UInt8)) (T : List UInt8), L.drop at_ = wrR num r ++ T → (T = [] ∨ ∃ t, T = 255 :: t) → (∀ x ∈ r, (num : Int) ≤ x.1 ∧ x.1 ≤ 65535 ∧ x.2.length ≤ 300) → r.Pairwise (fun a b => a.1 ≤ b.1) → acc.length + r.length ≤ 24 → r.length < fuel →
    rdGo L fuel at_ num acc = (acc ++ r, at_ + (wrR num r).length, 0)
  | [], fuel + 1, at_, num, acc, T, hd, hT, _, _, _, _ => by
    rw [rdGo]
    rw [wrR, List.nil_append] at hd
    have h0 : L[at_]? = T[0]? := by rw [← hd, List.getElem?_drop]; simp
    rcases hT with rfl | ⟨t, rfl⟩
    · rw [h0]; simp [wrR]
    · rw [h0]; simp [wrR]
  | x :: r, fuel + 1, at_, num, acc, T, hd, hT, hx, hp, hc, hf => by
    obtain ⟨x1, x2, x3⟩ := hx x List.mem_cons_self
    obtain ⟨dd, hdd⟩ : ∃ dd : Nat, (x.1 - (num : Int)).toNat = dd := ⟨_, rfl⟩
    have hnum : ((num + dd : Nat) : Int) = x.1 := by omega
    rw [wrR, hdd, List.append_assoc] at hd
    have hbg := bg_opt dd (by omega) x.2 (by omega) (wrR x.1 r ++ T)
    rw [← hd] at hbg
    have hb0 : L[at_]? = some (hdB dd x.2.length) := by
      have : L[at_]? = (L.drop at_)[0]? := by rw [List.getElem?_drop]; simp
      rw [this, hd, optB_eq]; rfl
    have hne : ¬ hdB dd x.2.length = 255 := fun e => by
      have h1 := hdB_nat dd x.2.length
      rw [e] at h1
      have h2 := (tl_bd dd).1
      have h3 := (tl_bd x.2.length).1
      have : (255 : UInt8).toNat = 255 := rfl
      omega
    have hlen : (optB dd x.2).length = 1 + (tl dd).2.length + (tl x.2.length).2.length + x.2.length := by
      rw [optB_eq]; simp only [List.length_cons, List.length_append]; omega
    have hLl : at_ + (optB dd x.2 ++ (wrR x.1 r ++ T)).length = L.length := by
      have := congrArg List.length hd
      rw [List.length_drop] at this
      have hat : at_ ≤ L.length := by have := (List.getElem?_eq_some_iff.1 hb0).1; omega
      omega
    rw [List.length_append] at hLl
    obtain ⟨k, hk⟩ : ∃ k, 1 + (tl dd).2.length + (tl x.2.length).2.length = k := ⟨_, rfl⟩
    rw [hk] at hbg hlen
    have hdk : L.drop (at_ + k) = x.2 ++ (wrR x.1 r ++ T) := by
      rw [← List.drop_drop, hd, optB_eq, List.cons_append, List.append_assoc, List.append_assoc]
      have e : hdB dd x.2.length :: ((tl dd).2 ++ ((tl x.2.length).2 ++ (x.2 ++ (wrR x.1 r ++ T)))) = (hdB dd x.2.length :: ((tl dd).2 ++ (tl x.2.length).2)) ++ (x.2 ++ (wrR x.1 r ++ T)) := by simp
      rw [e, List.drop_append_of_le_length (by simp; omega), List.drop_eq_nil_of_le (by simp; omega), List.nil_append]
    have hds : L.drop (at_ + k + x.2.length) = wrR ((num + dd : Nat) : Int) r ++ T := by
      rw [← List.drop_drop, hdk, List.drop_append_of_le_length (Nat.le_refl _), List.drop_length, List.nil_append, hnum]
    rw [List.pairwise_cons] at hp
    rw [rdGo, hb0]
    simp only
    rw [if_neg hne, hbg]
    simp only
    rw [List.length_cons] at hc hf
    rw [if_neg (by omega), if_neg (by omega), if_neg (by omega), if_neg (by omega)]
    rw [rd_enc L r fuel (at_ + k + x.2.length) (num + dd) _ T hds hT (fun y hy => ⟨by rw [hnum]; exact hp.1 y hy, (hx y (List.mem_cons_of_mem _ hy)).2⟩) hp.2 (by rw [List.length_append]; show acc.length + 1 + r.length ≤ 24; omega) (by omega)]
    rw [hdk, List.take_append_of_le_length (Nat.le_refl _), List.take_length, hnum, List.append_assoc]
    rw [wrR, hdd, List.length_append, hlen]
    refine Prod.ext (by rfl) (Prod.ext ?_ rfl)
    show at_ + k + x.2.length + (wrR x.1 r).length = at_ + (k + x.2.length + (wrR x.1 r).length)
    omega
theorem rd_wr {P : List (Int × List UInt8)} (h : Okp P) (h24 : P.length ≤ 24) (T : List UInt8) (hT : T = [] ∨ ∃ t, T = 255 :: t) : rdO ((wrF P).1 ++ T) = (P, (wrF P).1.length, 0) := by
  unfold rdO
  rw [wrF_R]
  have hl := wrR_ge P 0
  have := rd_enc (wrR 0 P ++ T) P ((wrR 0 P ++ T).length + 1) 0 0 [] T (by rw [List.drop_zero]; rfl) hT (fun x hx => ⟨(h.2 x hx).1, (h.2 x hx).2⟩) h.1 (by simpa using h24) (by rw [List.length_append]; omega)
  rw [this, List.nil_append, Nat.zero_add]
  rfl
/-- Options that can be written, sorted: written again they are the same bytes. -/
theorem wrP_sorted {ps : List (Int × List UInt8)} (he : errP ps = 0) : ps.length ≤ 24 ∧ Okp (sortP ps) ∧ wrP ps = ((wrF (sortP ps)).1, 0) ∧ wrP (sortP ps) = ((wrF (sortP ps)).1, 0) := by
  have h := he
  unfold errP at h
  split at h
  · cases h
  · rename_i h24
    split at h
    · cases h
    · rename_i hb
      split at h
      · cases h
      · rename_i hl
        have hm : ∀ x ∈ ps, 0 ≤ x.1 ∧ x.1 ≤ 65535 ∧ x.2.length ≤ 300 := fun x hx => by
          have h1 : ¬ badNum x.1 = true := fun e => hb (List.any_eq_true.2 ⟨x, hx, e⟩)
          rw [badNum_iff] at h1
          have h2 : ¬ (300 : Int) < (x.2.length : Int) := fun e => hl (List.any_eq_true.2 ⟨x, hx, decide_eq_true e⟩)
          omega
        have hok : Okp (sortP ps) := ⟨sortP_up ps, fun x hx => hm x (sortP_mem ps x hx)⟩
        have he2 : errP (sortP ps) = 0 := by
          unfold errP
          rw [sortP_len, if_neg h24, if_neg, if_neg]
          · intro e
            obtain ⟨x, hx, hxb⟩ := List.any_eq_true.1 e
            have h1 := (hok.2 x hx).2.2
            have h2 := of_decide_eq_true hxb
            omega
          · intro e
            obtain ⟨x, hx, hxb⟩ := List.any_eq_true.1 e
            have h1 := hok.2 x hx
            have h2 := (badNum_iff x.1).1 hxb
            omega
        exact ⟨by omega, hok, by unfold wrP; rw [he, if_pos rfl], by unfold wrP; rw [he2, if_pos rfl, sortP_id (sortP_up ps)]⟩
end Go.Proofs.Ytfbddldcbjhmiaa
