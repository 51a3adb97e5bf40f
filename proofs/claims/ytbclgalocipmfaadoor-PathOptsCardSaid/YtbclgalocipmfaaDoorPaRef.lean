/-
  The document's numbers, whether they are a path, and a path as text.
-/
import Derived.Test.YtbclgalocipmfaaDoorPaRead
import Derived.Test.YtbclgalocipmfaaDoorPlNumEq
namespace Go.Proofs.YtbclgalocipmfaaDoor
open Go.RowKit
set_option maxRecDepth 100000
set_option maxRecDepth 100000
set_option linter.unusedVariables false
theorem numM_long {most : Nat} {l : List UInt8} (hm : most ≤ 2147483647) (h : 10 < l.length) : numM most l = none := by
  unfold numM
  by_cases h0 : l.length = 0 ∨ (1 < l.length ∧ l.head? = some 48)
  · rw [if_pos h0]
  · rw [if_neg h0]
    rcases hd : digs l 0 with _ | v
    · rfl
    · dsimp only
      have hne : l ≠ [] := fun e => by rw [e] at h; exact absurd h (by decide)
      have h1 := dec_digs l.length l v rfl hd hne (fun h48 => by
        exfalso
        refine h0 (.inr ⟨by omega, ?_⟩)
        cases l with
        | nil => exact absurd rfl hne
        | cons c r => exact congrArg some (UInt8.toNat_inj.1 h48))
      rw [if_neg]
      intro hv
      have h2 := dec_len 9 v (by show v < 10000000000; omega)
      rw [h1] at h2
      omega
set_option maxHeartbeats 4000000 in
theorem rnum16_f (s : ByteArray) (hs : s.size ≤ 1000000) (most : Nat) (hm : most ≤ 2147483647) (w : World) :
    Calls Tryd.prog 77 #[.string s, .int .i64 (most : Int)] w fun e w' => e = numN (numM most s.data.toList) ∧ w' = w := by
  have hsl : s.data.toList.length = s.size := Array.length_toList
  obtain ⟨R, hR⟩ : ∃ R, numM most s.data.toList = R := ⟨_, rfl⟩
  rw [hR]
  have hmI : (most : Int) ≤ 2147483647 := by omega
  have hsI : (s.size : Int) ≤ 1000000 := by omega
  by_cases h10 : 10 < s.size
  · rw [numM_long hm (by omega)] at hR
    subst hR
    have h10I : (10 : Int) < s.size := by omega
    have h0I : ¬ (s.size : Int) = 0 := by omega
    have h0J : ((s.size : Int) == 0) = false := beq_eq_false_iff_ne.2 h0I
    clear hsl h10
    go_enter Tryd.func77, Tryd.ntmps77
    go_wp2
    go_ret2
    exact ⟨rfl, rfl⟩
  have h10I : ¬ (10 : Int) < s.size := by omega
  unfold numM at hR
  rw [hsl] at hR
  by_cases h0 : s.size = 0
  · rw [if_pos (.inl h0)] at hR
    subst hR
    obtain rfl : s = ⟨#[]⟩ := str_empty (List.eq_nil_of_length_eq_zero (by omega))
    clear hsl h0 hs hsI h10 h10I
    go_enter Tryd.func77, Tryd.ntmps77
    go_wp2
    go_ret2
    exact ⟨rfl, rfl⟩
  have h0I : ¬ (s.size : Int) = 0 := by omega
  have h0J : ((s.size : Int) == 0) = false := beq_eq_false_iff_ne.2 h0I
  have hpos : 0 < s.size := by omega
  have hposI : (0 : Int) < s.size := by omega
  obtain ⟨c, hc⟩ : ∃ c, s[0]'hpos = c := ⟨_, rfl⟩
  have hhd : s.data.toList.head? = some c := by
    have h1 : s.data.toList[0]? = some (s[0]'hpos) := by rw [Array.getElem?_toList, Array.getElem?_eq_getElem hpos]; rfl
    rw [List.head?_eq_getElem?, h1, hc]
  rw [hhd] at hR
  have hcn : (s[0]'hpos).toNat = c.toNat := by rw [hc]
  by_cases hz : 1 < s.size ∧ c = 48
  · rw [if_pos (.inr ⟨hz.1, congrArg some hz.2⟩)] at hR
    subst hR
    obtain ⟨h1, rfl⟩ := hz
    have h1I : (1 : Int) < s.size := by omega
    have hcn2 : (s[0]'hpos).toNat = 48 := hcn
    clear hsl hhd hc hcn h0 h1 h10
    go_enter Tryd.func77, Tryd.ntmps77
    go_wp2
    go_ret2
    exact ⟨rfl, rfl⟩
  rw [if_neg (fun h => by
    rcases h with h | ⟨h1, h2⟩
    · exact h0 h
    · exact hz ⟨h1, Option.some.inj h2⟩)] at hR
  have HR := Lib.hid (And.intro hR hsl)
  -- the loop, from either way through the test
  by_cases h1 : 1 < s.size
  · have h1I : (1 : Int) < s.size := by omega
    have hcI : ¬ (c.toNat : Int) = 48 := fun e => hz ⟨h1, UInt8.toNat_inj.1 (by show c.toNat = 48; omega)⟩
    have hcJ : ((c.toNat : Int) == 48) = false := beq_eq_false_iff_ne.2 hcI
    obtain ⟨cn, hcc⟩ : ∃ cn, c.toNat = cn := ⟨_, rfl⟩
    rw [hcc] at hcn hcI hcJ
    clear hR hhd hc hz hsl h0 hcc h1 h10
    go_enter Tryd.func77, Tryd.ntmps77
    go_wp2
    go_loop [6, 7] (fun v6 v7 => ∃ (i a : Nat), i ≤ s.size ∧ v7 = .int .i64 (i : Int) ∧ v6 = .int .i64 (a : Int) ∧ a < 10 ^ i ∧ Aside (digs (s.data.toList.drop i) a = digs s.data.toList 0)) (fun _ iv => s.size - (intOf iv).toNat)
    case atStart => exact ⟨0, 0, Nat.zero_le _, rfl, rfl, by decide, (show Aside _ from (by rw [List.drop_zero]; exact rfl))⟩
    case round =>
      obtain ⟨i, a, hi, rfl, rfl, ha, hrel⟩ := hrel
      have hp10 : 10 ^ i ≤ 10 ^ 10 := Nat.pow_le_pow_right (by decide) (by omega)
      have ha10 : (a : Int) < 10000000000 := by omega
      by_cases hlt : i < s.size
      · have hiI : (i : Int) < s.size := by omega
        obtain ⟨y, hy⟩ : ∃ y, s.get! i = y := ⟨_, rfl⟩
        have hsy : s[i]'hlt = y := by rw [← hy]; exact (Utf8W.get!_of_lt s i hlt).symm
        have hyb : (y.toNat : Int) < 256 := by have := y.toNat_lt; omega
        have hst := digs_step s.data.toList i a (by rw [size_list]; exact hlt)
        rw [hrel.out, ← get_getD, hy] at hst
        obtain ⟨yn, hyn⟩ : ∃ yn, y.toNat = yn := ⟨_, rfl⟩
        rw [hyn] at hst hyb
        have hsn : (s[i]'hlt).toNat = yn := by rw [hsy]; exact hyn
        have HST := Lib.hid hst
        clear hrel hst hy hsy hyn
        by_cases yl : yn < 48
        · have ylI : (yn : Int) < 48 := by omega
          have hn : R = none := by have h := HR.out.1; rw [HST.out, if_pos (.inl yl)] at h; exact h.symm
          subst hn
          go_wp2
          go_ret2
          exact ⟨rfl, rfl⟩
        have ylI : ¬ (yn : Int) < 48 := by omega
        by_cases yh : 57 < yn
        · have yhI : (57 : Int) < yn := by omega
          have hn : R = none := by have h := HR.out.1; rw [HST.out, if_pos (.inr yh)] at h; exact h.symm
          subst hn
          go_wp2
          go_ret2
          exact ⟨rfl, rfl⟩
        have yhI : ¬ (57 : Int) < yn := by omega
        go_wp2
        go_round
        case rel => exact ⟨i + 1, a * 10 + (yn - 48), by omega, by go_num, by congr 1; omega, by rw [Nat.pow_succ]; omega, (show Aside _ from (by rw [HST.out, if_neg (by omega)]; exact rfl))⟩
        case measure => simp [intOf]; omega
      · have hdg : digs s.data.toList 0 = some a := by
          rw [← hrel.out, List.drop_of_length_le (by rw [size_list]; omega)]; rfl
        have hRR := HR.out.1
        rw [hdg] at hRR
        replace hRR : (if a ≤ most then some a else none) = R := hRR
        have hiI : ¬ (i : Int) < s.size := by omega
        clear hrel hdg HR
        by_cases hbig : a ≤ most
        · have hbI : ¬ (most : Int) < a := by omega
          rw [if_pos hbig] at hRR
          subst hRR
          clear hbig
          go_wp2
          go_ret2
          exact ⟨rfl, rfl⟩
        · have hbI : (most : Int) < a := by omega
          rw [if_neg hbig] at hRR
          subst hRR
          clear hbig
          go_wp2
          go_ret2
          exact ⟨rfl, rfl⟩
  · have h1I : ¬ (1 : Int) < s.size := by omega
    clear hR hhd hc hcn hz hsl h0 h1 h10
    go_enter Tryd.func77, Tryd.ntmps77
    go_wp2
    go_loop [6, 7] (fun v6 v7 => ∃ (i a : Nat), i ≤ s.size ∧ v7 = .int .i64 (i : Int) ∧ v6 = .int .i64 (a : Int) ∧ a < 10 ^ i ∧ Aside (digs (s.data.toList.drop i) a = digs s.data.toList 0)) (fun _ iv => s.size - (intOf iv).toNat)
    case atStart => exact ⟨0, 0, Nat.zero_le _, rfl, rfl, by decide, (show Aside _ from (by rw [List.drop_zero]; exact rfl))⟩
    case round =>
      obtain ⟨i, a, hi, rfl, rfl, ha, hrel⟩ := hrel
      have hp10 : 10 ^ i ≤ 10 ^ 10 := Nat.pow_le_pow_right (by decide) (by omega)
      have ha10 : (a : Int) < 10000000000 := by omega
      by_cases hlt : i < s.size
      · have hiI : (i : Int) < s.size := by omega
        obtain ⟨y, hy⟩ : ∃ y, s.get! i = y := ⟨_, rfl⟩
        have hsy : s[i]'hlt = y := by rw [← hy]; exact (Utf8W.get!_of_lt s i hlt).symm
        have hyb : (y.toNat : Int) < 256 := by have := y.toNat_lt; omega
        have hst := digs_step s.data.toList i a (by rw [size_list]; exact hlt)
        rw [hrel.out, ← get_getD, hy] at hst
        obtain ⟨yn, hyn⟩ : ∃ yn, y.toNat = yn := ⟨_, rfl⟩
        rw [hyn] at hst hyb
        have hsn : (s[i]'hlt).toNat = yn := by rw [hsy]; exact hyn
        have HST := Lib.hid hst
        clear hrel hst hy hsy hyn
        by_cases yl : yn < 48
        · have ylI : (yn : Int) < 48 := by omega
          have hn : R = none := by have h := HR.out.1; rw [HST.out, if_pos (.inl yl)] at h; exact h.symm
          subst hn
          go_wp2
          go_ret2
          exact ⟨rfl, rfl⟩
        have ylI : ¬ (yn : Int) < 48 := by omega
        by_cases yh : 57 < yn
        · have yhI : (57 : Int) < yn := by omega
          have hn : R = none := by have h := HR.out.1; rw [HST.out, if_pos (.inr yh)] at h; exact h.symm
          subst hn
          go_wp2
          go_ret2
          exact ⟨rfl, rfl⟩
        have yhI : ¬ (57 : Int) < yn := by omega
        go_wp2
        go_round
        case rel => exact ⟨i + 1, a * 10 + (yn - 48), by omega, by go_num, by congr 1; omega, by rw [Nat.pow_succ]; omega, (show Aside _ from (by rw [HST.out, if_neg (by omega)]; exact rfl))⟩
        case measure => simp [intOf]; omega
      · have hdg : digs s.data.toList 0 = some a := by
          rw [← hrel.out, List.drop_of_length_le (by rw [size_list]; omega)]; rfl
        have hRR := HR.out.1
        rw [hdg] at hRR
        replace hRR : (if a ≤ most then some a else none) = R := hRR
        have hiI : ¬ (i : Int) < s.size := by omega
        clear hrel hdg HR
        by_cases hbig : a ≤ most
        · have hbI : ¬ (most : Int) < a := by omega
          rw [if_pos hbig] at hRR
          subst hRR
          clear hbig
          go_wp2
          go_ret2
          exact ⟨rfl, rfl⟩
        · have hbI : (most : Int) < a := by omega
          rw [if_neg hbig] at hRR
          subst hRR
          clear hbig
          go_wp2
          go_ret2
          exact ⟨rfl, rfl⟩
end Go.Proofs.YtbclgalocipmfaaDoor
