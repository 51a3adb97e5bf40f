/-
  The document's Number and the program's: the same.
-/
import Derived.Test.YthnbcilpallhjaaDoorPlNumPure
import Derived.Test.YthnbcilpallhjaaDoorPlNumber
namespace Go.Proofs.YthnbcilpallhjaaDoor
open Go.RowKit
set_option maxRecDepth 100000
set_option maxRecDepth 100000
set_option linter.unusedVariables false
theorem digs_app (c : UInt8) : ∀ (l : List UInt8) (a : Nat), digs (l ++ [c]) a = (digs l a).bind fun x => digs [c] x
  | [], a => rfl
  | b :: l, a => by
    rw [List.cons_append]
    unfold digs
    split
    · rfl
    · exact digs_app c l _
theorem digs_one (x d : Nat) (hd : d < 10) : digs [UInt8.ofNat (48 + d)] x = some (x * 10 + d) := by
  have e : (UInt8.ofNat (48 + d)).toNat = 48 + d := by rw [UInt8.toNat_ofNat']; omega
  unfold digs
  rw [e, if_neg (by omega), show 48 + d - 48 = d by omega]
  rfl
theorem digs_dec (u : Nat) : digs (Lib.decDigits u) 0 = some u := by
  induction u using Nat.strongRecOn with
  | _ u ih =>
    unfold Lib.decDigits
    by_cases h : u < 10
    · rw [dif_pos h, digs_one 0 u h]; simp
    · rw [dif_neg h, digs_app, ih (u / 10) (by omega), Option.bind_some, digs_one _ _ (Nat.mod_lt _ (by omega))]
      congr 1
      omega
/-- Digits with no 0 in front are the digits of what they tell. -/
theorem dec_digs : ∀ (n : Nat) (l : List UInt8) (v : Nat), l.length = n → digs l 0 = some v → l ≠ [] → ((l.getD 0 0).toNat = 48 → l.length = 1) → Lib.decDigits v = l := by
  intro n
  induction n with
  | zero => intro l v hl _ hne _; exact absurd (List.eq_nil_of_length_eq_zero hl) hne
  | succ n ih =>
    intro l v hl hd hne h0
    obtain ⟨p, c, rfl⟩ : ∃ p c, l = p ++ [c] := ⟨l.dropLast, l.getLast hne, (List.dropLast_concat_getLast hne).symm⟩
    rw [digs_app] at hd
    rcases hp : digs p 0 with _ | x
    · rw [hp] at hd; cases hd
    · rw [hp, Option.bind_some] at hd
      unfold digs at hd
      split at hd
      · cases hd
      · rename_i hc
        have hv : x * 10 + (c.toNat - 48) = v := by
          have e : some (x * 10 + (c.toNat - 48)) = some v := hd
          exact Option.some.inj e
        have hcc : UInt8.ofNat (48 + (c.toNat - 48)) = c := by rw [show 48 + (c.toNat - 48) = c.toNat by omega, UInt8.ofNat_toNat]
        cases p with
        | nil =>
          have e : some 0 = some x := hp
          obtain rfl := Option.some.inj e
          unfold Lib.decDigits
          rw [dif_pos (by omega), ← hv, Nat.zero_mul, Nat.zero_add, hcc]
          rfl
        | cons d p =>
          have hl2 : (d :: p).length = n := by rw [List.length_append] at hl; simp only [List.length_cons, List.length_nil] at hl ⊢; omega
          have hd0 : ¬ d.toNat = 48 := fun e => by
            have := h0 e
            rw [List.length_append] at this
            simp only [List.length_cons, List.length_nil] at this
            omega
          have hi := ih (d :: p) x hl2 hp (by simp) (fun e => absurd e hd0)
          have hx : ¬ x = 0 := fun e => by
            rw [e] at hi
            have h48 : Lib.decDigits 0 = [48] := by decide +kernel
            rw [h48] at hi
            injection hi with hi _
            exact hd0 (by rw [← hi]; rfl)
          have h10 : v / 10 = x := by omega
          have hm : v % 10 = c.toNat - 48 := by omega
          unfold Lib.decDigits
          rw [dif_neg (by omega), h10, hm, hi, hcc]
theorem least_is : Lib.itoa (-9223372036854775808) = leastL := by decide +kernel
theorem dec_zero : Lib.decDigits 0 = [48] := by decide +kernel
theorem least_digs : digs (leastL.drop 1) 0 = some 9223372036854775808 := by decide +kernel
theorem numQ_itoa (n : Int) (h0 : -9223372036854775808 ≤ n) (h1 : n ≤ 9223372036854775807) : numQ (Lib.itoa n) = some n := by
  by_cases hm : n = -9223372036854775808
  · subst hm
    rw [least_is]
    unfold numQ
    rw [if_pos rfl]
  by_cases hn : n < 0
  · have hi : Lib.itoa n = 45 :: Lib.decDigits n.natAbs := by unfold Lib.itoa; rw [if_pos hn]
    have hdg := digs_dec n.natAbs
    obtain ⟨c, r, hcr, hc0, hc1, hc2⟩ := dec_first n.natAbs
    have hlen := dec_len 18 n.natAbs (by show n.natAbs < 10000000000000000000; omega)
    rw [hi]
    unfold numQ
    rw [if_neg (fun e => by
      have e2 := congrArg (List.drop 1) e
      rw [List.drop_succ_cons, List.drop_zero] at e2
      rw [e2, least_digs] at hdg
      have := Option.some.inj hdg
      omega), if_pos ⟨by simp, rfl⟩, List.drop_succ_cons, List.drop_zero]
    unfold bodyQ
    rw [hdg, if_neg (by
      rintro (h | h | ⟨h, _⟩)
      · rw [hcr] at h; simp at h
      · omega
      · rw [hcr] at h
        have := hc2 h
        omega)]
    dsimp only
    rw [if_neg (by omega), if_pos rfl]
    congr 1
    omega
  · have hi : Lib.itoa n = Lib.decDigits n.toNat := by unfold Lib.itoa; rw [if_neg hn]
    have hdg := digs_dec n.toNat
    obtain ⟨c, r, hcr, hc0, hc1, hc2⟩ := dec_first n.toNat
    have hlen := dec_len 18 n.toNat (by show n.toNat < 10000000000000000000; omega)
    rw [hi]
    unfold numQ
    rw [if_neg (fun e => by
      rw [hcr] at e
      injection e with e _
      rw [e] at hc0
      exact absurd hc0 (by decide)), if_neg (by
      rintro ⟨_, h⟩
      rw [hcr] at h
      have h : c.toNat = 45 := h
      omega)]
    unfold bodyQ
    rw [hdg, if_neg (by
      rintro (h | h | ⟨h, h3⟩)
      · rw [hcr] at h; simp at h
      · omega
      · rw [hcr] at h
        have h4 := hc2 h
        rw [h4, dec_zero] at h3
        rcases h3 with h3 | h3
        · exact absurd h3 (by decide)
        · cases h3)]
    dsimp only
    rw [if_neg (by omega), if_neg (by decide)]
    congr 1
    omega
theorem numQ_conv (l : List UInt8) (n : Int) (h : numQ l = some n) : Lib.itoa n = l ∧ -9223372036854775808 ≤ n ∧ n ≤ 9223372036854775807 := by
  have body : ∀ (neg : Bool) (d : List UInt8), bodyQ neg d = some n → ∃ v : Nat, v ≤ 9223372036854775807 ∧ Lib.decDigits v = d ∧ n = (if neg then -(v : Int) else v) ∧ (neg = true → 0 < v) := by
    intro neg d hb
    unfold bodyQ at hb
    split at hb
    · cases hb
    · rename_i hc
      split at hb
      · cases hb
      · rename_i v hv
        split at hb
        · cases hb
        · rename_i hle
          have e := Option.some.inj hb
          have hne : d ≠ [] := fun e => hc (.inl (by rw [e]; rfl))
          have hd := dec_digs d.length d v rfl hv hne (fun h48 => by
            have : ¬ 1 < d.length := fun hl => hc (.inr (.inr ⟨h48, .inl hl⟩))
            have : ¬ d.length = 0 := fun hl => hc (.inl hl)
            omega)
          refine ⟨v, by omega, hd, e.symm, fun hneg => ?_⟩
          rcases Nat.eq_zero_or_pos v with h0 | h0
          · exfalso
            rw [h0, dec_zero] at hd
            exact hc (.inr (.inr ⟨by rw [← hd]; rfl, .inr hneg⟩))
          · exact h0
  unfold numQ at h
  split at h
  · rename_i hl
    obtain rfl := Option.some.inj h
    exact ⟨by rw [least_is, hl], by omega, by omega⟩
  · split at h
    · rename_i h45
      obtain ⟨v, hv, hd, rfl, hp⟩ := body true _ h
      have hp := hp rfl
      rw [if_pos rfl]
      refine ⟨?_, by omega, by omega⟩
      unfold Lib.itoa
      rw [if_pos (by omega), show (-(v : Int)).natAbs = v by omega, hd]
      cases l with
      | nil => exact absurd h45.1 (by decide)
      | cons c r =>
        rw [List.drop_succ_cons, List.drop_zero]
        have h4 : c.toNat = 45 := h45.2
        rw [show c = 45 from UInt8.toNat_inj.1 (by rw [h4]; rfl)]
    · obtain ⟨v, hv, hd, rfl, _⟩ := body false _ h
      rw [if_neg (by decide)]
      refine ⟨?_, by omega, by omega⟩
      unfold Lib.itoa
      rw [if_neg (by omega), Int.toNat_natCast, hd]
/-- The document's reading of a number and the program's are the same. -/
theorem numQ_eq (l : List UInt8) : numQ l = numP l := by
  rcases hq : numQ l with _ | n
  · rcases hp : numP l with _ | m
    · rfl
    · obtain ⟨e, h0, h1⟩ : Lib.itoa m = l ∧ -9223372036854775808 ≤ m ∧ m ≤ 9223372036854775807 := by
        have hp2 := hp
        unfold numP at hp2
        split at hp2
        · cases hp2
        · split at hp2
          · rename_i v hpv
            split at hp2
            · rename_i he
              obtain rfl := Option.some.inj hp2
              exact ⟨he, parsed_in hpv⟩
            · cases hp2
          · cases hp2
      have := numQ_itoa m h0 h1
      rw [e, hq] at this
      cases this
  · obtain ⟨e, h0, h1⟩ := numQ_conv l n hq
    have := numP_itoa n h0 h1
    rw [e] at this
    exact this.symm
end Go.Proofs.YthnbcilpallhjaaDoor
