/-
  The document's number of a text that may be below 0.
-/
import Derived.Test.YtbclgalocipmfaaDoorPaRefOpts
namespace Go.Proofs.YtbclgalocipmfaaDoor
open Go.RowKit
set_option maxRecDepth 100000
set_option maxRecDepth 100000
set_option linter.unusedVariables false
theorem numM_minus {m : Nat} (r : List UInt8) : numM m (45 :: r) = none := by
  unfold numM
  split
  · rfl
  · rw [show digs (45 :: r) 0 = none from rfl]
/-- A number's text that starts with a sign other than "0" is not 0's. -/
theorem numM_pos {m : Nat} {c : UInt8} {r : List UInt8} {v : Nat} (h : numM m (c :: r) = some v) (hc : c ≠ 48) : v ≠ 0 := by
  rintro rfl
  unfold numM at h
  split at h
  · cases h
  · split at h
    · rename_i u hd
      split at h
      · obtain rfl := Option.some.inj h
        unfold digs at hd
        split at hd
        · cases hd
        · rename_i hn
          have h1 := digs_mono _ _ _ hd
          exact hc (UInt8.toNat_inj.1 (by show c.toNat = 48; omega))
      · cases h
    · cases h
theorem numM_zero {m : Nat} {r : List UInt8} : numM m (48 :: r) = none ∨ numM m (48 :: r) = some 0 := by
  cases r with
  | nil =>
    right
    unfold numM
    rw [if_neg (by simp)]
    show (if 0 ≤ m then some 0 else none) = some 0
    rw [if_pos (Nat.zero_le _)]
  | cons x t =>
    left
    unfold numM
    rw [if_pos (.inr ⟨by simp, rfl⟩)]
set_option maxHeartbeats 2000000 in
theorem rsigned_f (s : ByteArray) (hs : s.size ≤ 1000000) (w : World) :
    Calls Tryd.prog 56 #[.string s] w fun e w' => e = numI (signedQ s.data.toList) ∧ w' = w := by
  have hsl : s.data.toList.length = s.size := Array.length_toList
  have hsI : (s.size : Int) ≤ 1000000 := by omega
  have hN := rnum16_f s hs 2147483647 (by decide) w
  by_cases h1 : 1 < s.size ∧ s.data.toList.head? = some 45
  · obtain ⟨h1, h45⟩ := h1
    have h1I : (1 : Int) < s.size := by omega
    have hpos : 0 < s.size := by omega
    obtain ⟨x, y, r, hl⟩ : ∃ x y r, s.data.toList = x :: y :: r := by
      cases hl : s.data.toList with
      | nil => rw [hl] at hsl; simp at hsl; omega
      | cons x t =>
        cases t with
        | nil => rw [hl] at hsl; simp at hsl; omega
        | cons y r => exact ⟨x, y, r, rfl⟩
    rw [hl] at h45
    obtain rfl : x = 45 := Option.some.inj h45
    have hc0 : (s[0]'hpos).toNat = 45 := by
      have h2 : s.data.toList[0]? = some (s[0]'hpos) := by rw [Array.getElem?_toList, Array.getElem?_eq_getElem hpos]; rfl
      rw [hl] at h2
      rw [← Option.some.inj h2]; rfl
    have hc1 : (s[1]'h1).toNat = y.toNat := by
      have h2 : s.data.toList[1]? = some (s[1]'h1) := by rw [Array.getElem?_toList, Array.getElem?_eq_getElem h1]; rfl
      rw [hl] at h2
      rw [← Option.some.inj h2]
    have hsq : signedQ (45 :: y :: r) = (match numM 2147483647 (y :: r) with | some v => if v = 0 then none else some (-(v : Int)) | none => none) := by
      unfold signedQ
      rw [List.head?_cons, if_pos rfl]; rfl
    rw [hl] at hN
    rw [hl, hsq]
    rw [numM_minus] at hN
    by_cases hy : y = 48
    · subst hy
      replace hc1 : (s[1]'h1).toNat = 48 := hc1
      have hR : (match numM 2147483647 (48 :: r) with | some v => if v = 0 then none else some (-(v : Int)) | none => none) = (none : Option Int) := by
        rcases numM_zero (m := 2147483647) (r := r) with h | h <;> rw [h] <;> rfl
      rw [hR]
      have HN := Lib.hid hN
      clear hN hR hl hsl hsq h45
      go_enter Tryd.func56, Tryd.ntmps56
      go_wp2_with fail
      refine HN.out.mono ?_
      rintro e w1 ⟨rfl, hw⟩
      obtain rfl := hw.symm
      unfold numN
      try dsimp only
      go_wp2
      go_ret2
      exact ⟨rfl, rfl⟩
    · have hyI : ¬ (y.toNat : Int) = 48 := fun e => hy (UInt8.toNat_inj.1 (by show y.toNat = 48; omega))
      have hyK : ((y.toNat : Int) != 48) = true := bne_iff_ne.2 hyI
      have hex : (s.extract 1 s.size).data.toList = y :: r := by rw [Lib.ext_list, hl]; rfl
      have hez : (s.extract 1 s.size).size ≤ 1000000 := by rw [← size_list, hex]; rw [hl] at hsl; simp at hsl ⊢; omega
      have hN2 := rnum16_f (s.extract 1 s.size) hez 2147483647 (by decide) w
      rw [hex] at hN2
      obtain ⟨yn, hyn⟩ : ∃ yn, y.toNat = yn := ⟨_, rfl⟩
      rw [hyn] at hyI hyK hc1
      rcases hq : numM 2147483647 (y :: r) with _ | v
      · rw [hq] at hN2
        have HN := Lib.hid hN2
        clear hN hN2 hl hsl hsq h45 hex hez hq hyn hy
        go_enter Tryd.func56, Tryd.ntmps56
        go_wp2_with fail
        refine HN.out.mono ?_
        rintro e w1 ⟨rfl, hw⟩
        obtain rfl := hw.symm
        unfold numN
        try dsimp only
        go_wp2
        go_ret2
        exact ⟨rfl, rfl⟩
      · have hv0 := numM_pos hq hy
        have hv1 := numM_le hq
        rw [hq] at hN2
        dsimp only
        rw [if_neg hv0]
        have hvI : (v : Int) ≤ 2147483647 := by omega
        have HN := Lib.hid hN2
        clear hN hN2 hl hsl hsq h45 hex hez hq hyn hy hv0 hv1
        go_enter Tryd.func56, Tryd.ntmps56
        go_wp2_with fail
        refine HN.out.mono ?_
        rintro e w1 ⟨rfl, hw⟩
        obtain rfl := hw.symm
        unfold numN
        try dsimp only
        go_wp2
        go_ret2
        refine ⟨?_, rfl⟩
        show Ending.returned _ = Ending.returned _
        congr 4
  · have hsq : numI (signedQ s.data.toList) = numN (numM 2147483647 s.data.toList) := by
      unfold signedQ
      by_cases h45 : s.data.toList.head? = some 45
      · have hz : s.size = 1 := by
          cases hl : s.data.toList with
          | nil => rw [hl] at h45; cases h45
          | cons x t => rw [hl] at hsl; simp at hsl; have : ¬ 1 < s.size := fun h => h1 ⟨h, h45⟩; omega
        obtain hl : s.data.toList = [45] := by
          cases hl : s.data.toList with
          | nil => rw [hl] at h45; cases h45
          | cons x t =>
            rw [hl] at h45 hsl
            obtain rfl := Option.some.inj h45
            cases t with
            | nil => rfl
            | cons y r => simp at hsl; omega
        rw [hl]
        rfl
      · rw [if_neg h45]
        cases numM 2147483647 s.data.toList <;> rfl
    rw [hsq]
    obtain ⟨o, ho⟩ : ∃ o, numM 2147483647 s.data.toList = o := ⟨_, rfl⟩
    rw [ho] at hN ⊢
    have HN := Lib.hid hN
    by_cases hz : 1 < s.size
    · have hpos : 0 < s.size := by omega
      have h1I : (1 : Int) < s.size := by omega
      obtain ⟨c, hc⟩ : ∃ c, s[0]'hpos = c := ⟨_, rfl⟩
      have hhd : s.data.toList.head? = some c := by
        have h2 : s.data.toList[0]? = some (s[0]'hpos) := by rw [Array.getElem?_toList, Array.getElem?_eq_getElem hpos]; rfl
        rw [List.head?_eq_getElem?, h2, hc]
      have hc45 : c ≠ 45 := fun e => h1 ⟨hz, by rw [hhd, e]⟩
      have hcn : (s[0]'hpos).toNat = c.toNat := by rw [hc]
      have hcI : ¬ (c.toNat : Int) = 45 := fun e => hc45 (UInt8.toNat_inj.1 (by show c.toNat = 45; omega))
      have hcJ : ((c.toNat : Int) == 45) = false := beq_eq_false_iff_ne.2 hcI
      obtain ⟨cn, hcc⟩ : ∃ cn, c.toNat = cn := ⟨_, rfl⟩
      rw [hcc] at hcn hcI hcJ
      clear hN hsq hsl hhd hc hcc hc45 h1 ho
      cases o
      all_goals
        go_enter Tryd.func56, Tryd.ntmps56
        go_wp2_with fail
        refine HN.out.mono ?_
        rintro e w1 ⟨rfl, hw⟩
        obtain rfl := hw.symm
        unfold numN
        try dsimp only
        go_wp2
        go_ret2
        exact ⟨rfl, rfl⟩
    · have h1I : ¬ (1 : Int) < s.size := by omega
      clear hN hsq hsl h1 hz ho
      cases o
      all_goals
        go_enter Tryd.func56, Tryd.ntmps56
        go_wp2_with fail
        refine HN.out.mono ?_
        rintro e w1 ⟨rfl, hw⟩
        obtain rfl := hw.symm
        unfold numN
        try dsimp only
        go_wp2
        go_ret2
        exact ⟨rfl, rfl⟩
end Go.Proofs.YtbclgalocipmfaaDoor
