/-
  The document's number of a text.
-/
/-
  The document's Number and the program's: the same.
-/
import Derived.Test.YtbclgalocipmfaaDoorPlValid
import Derived.Deep.CutRange
import Derived.Deep.CutBlock
import Derived.Test.YtbclgalocipmfaaDoorPlNumPure
namespace Go.Proofs.YtbclgalocipmfaaDoor
open Go.RowKit
set_option maxRecDepth 100000
set_option maxRecDepth 100000
set_option linter.unusedVariables false
def digs : List UInt8 → Nat → Option Nat
  | [], a => some a
  | b :: t, a => if b.toNat < 48 ∨ 57 < b.toNat then none else digs t (a * 10 + (b.toNat - 48))
def bodyQ (neg : Bool) (d : List UInt8) : Option Int :=
  if d.length = 0 ∨ 19 < d.length ∨ ((d.getD 0 0).toNat = 48 ∧ (1 < d.length ∨ neg = true)) then none
  else match digs d 0 with
    | none => none
    | some n => if 9223372036854775807 < n then none else some (if neg then -(n : Int) else n)
def leastL : List UInt8 := [45, 57, 50, 50, 51, 51, 55, 50, 48, 51, 54, 56, 53, 52, 55, 55, 53, 56, 48, 56]
def numQ (l : List UInt8) : Option Int := if l = leastL then some (-9223372036854775808) else if 0 < l.length ∧ (l.getD 0 0).toNat = 45 then bodyQ true (l.drop 1) else bodyQ false l
def numEnd (o : Option Int) : Ending := match o with | some n => .returned (.tuple #[.int .i64 n, .bool true]) | none => .returned (.tuple #[.int .i64 0, .bool false])
theorem get_getD (s : ByteArray) (j : Nat) : s.get! j = s.data.toList.getD j 0 := by
  cases s with
  | mk a =>
    show a[j]! = a.toList.getD j 0
    by_cases h : j < a.size
    · rw [getElem!_pos a j h, List.getD_eq_getElem?_getD, Array.getElem?_toList, Array.getElem?_eq_getElem h]; rfl
    · rw [getElem!_neg a j h, List.getD_eq_getElem?_getD, Array.getElem?_toList, Array.getElem?_eq_none (by omega)]; rfl
theorem size_list (s : ByteArray) : s.data.toList.length = s.size := Array.length_toList
theorem digs_step (l : List UInt8) (i a : Nat) (h : i < l.length) : digs (l.drop i) a = if (l.getD i 0).toNat < 48 ∨ 57 < (l.getD i 0).toNat then none else digs (l.drop (i + 1)) (a * 10 + ((l.getD i 0).toNat - 48)) := by
  rw [List.drop_eq_getElem_cons h, List.getD_eq_getElem?_getD, List.getElem?_eq_getElem h]
  rfl
set_option maxHeartbeats 8000000 in
theorem rnumber_f (s : ByteArray) (w : World) (hs : s.size ≤ 1000000) : Calls Tryd.prog 42 #[.string s] w fun e w' => e = numEnd (numQ s.data.toList) ∧ ∃ m, w' = w.drewN m := by
  obtain ⟨R, hR⟩ : ∃ R, numQ s.data.toList = R := ⟨_, rfl⟩
  rw [hR]
  obtain ⟨lit, hlit⟩ : ∃ lit : ByteArray, lit = ⟨leastL.toArray⟩ := ⟨_, rfl⟩
  by_cases hle : s.data.toList = leastL
  · have hR2 : R = some (-9223372036854775808) := by rw [← hR]; unfold numQ; rw [if_pos hle]
    subst hR2
    obtain rfl : s = ⟨leastL.toArray⟩ := by
      cases s with
      | mk a => congr 1; rw [← hle, Array.toArray_toList]
    clear hR hlit hle
    go_enter Tryd.func42, Tryd.ntmps42
    unfold leastL
    go_wp2
    go_ret2
    exact ⟨rfl, 0, rfl⟩
  have hne2 : ¬ s.toList = leastL := fun e => hle (by
    rw [ByteArray.toList_eq] at e
    exact e)
  have hne : (s.toList == leastL) = false := beq_eq_false_iff_ne.2 hne2
  unfold leastL at hne hne2
  unfold numQ at hR
  rw [if_neg hle, size_list, ← get_getD] at hR
  clear hle hlit
  by_cases h0 : 0 < s.size
  · have h0I : (0 : Int) < s.size := by omega
    obtain ⟨x0, hx0⟩ : ∃ x, s.get! 0 = x := ⟨_, rfl⟩
    have hs0 : s[0]'(by omega) = x0 := by rw [← hx0]; exact (Utf8W.get!_of_lt s 0 (by omega)).symm
    rw [hx0] at hR
    by_cases hx : x0.toNat = 45
    · have hxI : ((x0.toNat : Int) == 45) = true := beq_iff_eq.2 (by omega)
      rw [if_pos ⟨h0, hx⟩, ← Lib.ext_list] at hR
      have hds := Lib.ext_size s 1
      obtain ⟨d, hd⟩ : ∃ d, s.extract 1 s.size = d := ⟨_, rfl⟩
      rw [hd] at hR hds
      have hdle : d.size ≤ 1000000 := by omega
      clear hx0 hds
      go_enter Tryd.func42, Tryd.ntmps42
      have hdI : (d.size : Int) ≤ 1000000 := by omega
      unfold bodyQ at hR
      rw [size_list, ← get_getD] at hR
      by_cases d0 : d.size = 0
      · have d0I : ((d.size : Int) == 0) = true := by rw [d0]; rfl
        have d0J : (d.size : Int) = 0 := by omega
        rw [if_pos (.inl d0)] at hR
        subst hR
        go_wp2
        go_ret2
        exact ⟨rfl, 0, rfl⟩
      have d0J : ¬ (d.size : Int) = 0 := by omega
      have d0I : ((d.size : Int) == 0) = false := beq_eq_false_iff_ne.2 d0J
      by_cases d19 : 19 < d.size
      · have d19I : (19 : Int) < d.size := by omega
        rw [if_pos (.inr (.inl d19))] at hR
        subst hR
        go_wp2
        go_ret2
        exact ⟨rfl, 0, rfl⟩
      have d19I : ¬ (19 : Int) < d.size := by omega
      have dpos : (0 : Int) < d.size := by omega
      obtain ⟨y0, hy0⟩ : ∃ y, d.get! 0 = y := ⟨_, rfl⟩
      have hdy0 : d[0]'(by omega) = y0 := by rw [← hy0]; exact (Utf8W.get!_of_lt d 0 (by omega)).symm
      rw [hy0] at hR
      by_cases dz : y0.toNat = 48 ∧ (1 < d.size ∨ true = true)
      · have dzI : ((y0.toNat : Int) == 48) = true := beq_iff_eq.2 (by omega)
        have d1 : (1 : Int) < d.size ∨ true = true := dz.2.imp (fun h => by omega) id
        rw [if_pos (.inr (.inr dz))] at hR
        subst hR
        by_cases d1K : (1 : Int) < d.size <;> (go_wp2; go_ret2; exact ⟨rfl, 0, rfl⟩)
      rw [if_neg (fun h => h.elim d0 (fun h => h.elim d19 dz))] at hR
      have y0n : ¬ (y0.toNat : Int) = 48 := fun h => dz ⟨by omega, .inr rfl⟩
      have y0b : ((y0.toNat : Int) == 48) = false := beq_eq_false_iff_ne.2 y0n
      have HR := Lib.hid hR
      clear hR dz
      go_wp2
      go_loopw [6, 7] (fun v6 v7 wr => ∃ (i a : Nat), i ≤ d.size ∧ v7 = .int .i64 (i : Int) ∧ v6 = .int .u64 (a : Int) ∧ a < 10 ^ i ∧ Aside (digs (d.data.toList.drop i) a = digs d.data.toList 0 ∧ ∃ m, wr = w.drewN m)) (fun _ iv _ => d.size - (intOf iv).toNat)
      case atStart => exact ⟨0, 0, Nat.zero_le _, rfl, rfl, by decide, by rw [List.drop_zero], 0, rfl⟩
      case round =>
        obtain ⟨i, a, hi, rfl, rfl, ha, hrel⟩ := hrel
        have hp19 : 10 ^ i ≤ 10 ^ 19 := Nat.pow_le_pow_right (by decide) (by omega)
        have ha19 : (a : Int) < 10000000000000000000 := by omega
        by_cases hlt : i < d.size
        · have hiI : (i : Int) < d.size := by omega
          have hp18 : 10 ^ i ≤ 10 ^ 18 := Nat.pow_le_pow_right (by decide) (by omega)
          have ha18 : (a : Int) < 1000000000000000000 := by omega
          obtain ⟨y, hy⟩ : ∃ y, d.get! i = y := ⟨_, rfl⟩
          have hdy : d[i]'hlt = y := by rw [← hy]; exact (Utf8W.get!_of_lt d i hlt).symm
          have hyb : (y.toNat : Int) < 256 := by have := y.toNat_lt; omega
          have hst := digs_step d.data.toList i a (by rw [size_list]; exact hlt)
          rw [hrel.out.1, ← get_getD, hy] at hst
          obtain ⟨m, hm⟩ := hrel.out.2
          have HM := Lib.hid hm
          have HST := Lib.hid hst
          clear hrel hm hst hy
          by_cases yl : y.toNat < 48
          · have ylI : (y.toNat : Int) < 48 := by omega
            have hn : R = none := by rw [← HR.out, HST.out, if_pos (.inl yl)]
            subst hn
            go_wp2
            go_ret2
            exact ⟨rfl, m, HM.out⟩
          have ylI : ¬ (y.toNat : Int) < 48 := by omega
          by_cases yh : 57 < y.toNat
          · have yhI : (57 : Int) < y.toNat := by omega
            have hn : R = none := by rw [← HR.out, HST.out, if_pos (.inr yh)]
            subst hn
            go_wp2
            go_ret2
            exact ⟨rfl, m, HM.out⟩
          have yhI : ¬ (57 : Int) < y.toNat := by omega
          go_wp2
          go_roundw
          case rel => exact ⟨i + 1, a * 10 + (y.toNat - 48), by omega, by go_num, by congr 1; omega, by rw [Nat.pow_succ]; omega, (show Aside _ from ⟨by rw [HST.out, if_neg (by omega)], m, HM.out⟩)⟩
          case measure => simp [intOf]; omega
        · obtain ⟨m, hm⟩ := hrel.out.2
          have hdg : digs d.data.toList 0 = some a := by
            rw [← hrel.out.1, List.drop_of_length_le (by rw [size_list]; omega)]; rfl
          have hRR := HR.out
          rw [hdg] at hRR
          have HM := Lib.hid hm
          have hie : i = d.size := by omega
          subst hie
          have hiI : ¬ (d.size : Int) < d.size := by omega
          clear hrel hm hdg HR
          by_cases hbig : 9223372036854775807 < a
          · have hbI : (9223372036854775807 : Int) < a := by omega
            have hn : R = none := by rw [← hRR]; exact if_pos hbig
            subst hn
            clear hRR
            go_wp2
            go_ret2
            exact ⟨rfl, m, HM.out⟩
          · have hbI : ¬ (9223372036854775807 : Int) < a := by omega
            have hn : R = some (-(a : Int)) := by rw [← hRR]; exact if_neg hbig
            subst hn
            clear hRR
            go_wp2
            go_ret2
            exact ⟨by unfold numEnd; first | rfl | (congr 3; omega), m, HM.out⟩
    · have hxI : ((x0.toNat : Int) == 45) = false := beq_eq_false_iff_ne.2 (by omega)
      have hxJ : ¬ (x0.toNat : Int) = 45 := by omega
      rw [if_neg (fun h => hx h.2)] at hR
      clear hx0
      obtain ⟨d, hd⟩ : ∃ d, d = s := ⟨_, rfl⟩
      subst hd
      go_enter Tryd.func42, Tryd.ntmps42
      have hdI : (d.size : Int) ≤ 1000000 := by omega
      unfold bodyQ at hR
      rw [size_list, ← get_getD] at hR
      by_cases d0 : d.size = 0
      · have d0I : ((d.size : Int) == 0) = true := by rw [d0]; rfl
        have d0J : (d.size : Int) = 0 := by omega
        rw [if_pos (.inl d0)] at hR
        subst hR
        go_wp2
        go_ret2
        exact ⟨rfl, 0, rfl⟩
      have d0J : ¬ (d.size : Int) = 0 := by omega
      have d0I : ((d.size : Int) == 0) = false := beq_eq_false_iff_ne.2 d0J
      by_cases d19 : 19 < d.size
      · have d19I : (19 : Int) < d.size := by omega
        rw [if_pos (.inr (.inl d19))] at hR
        subst hR
        go_wp2
        go_ret2
        exact ⟨rfl, 0, rfl⟩
      have d19I : ¬ (19 : Int) < d.size := by omega
      have dpos : (0 : Int) < d.size := by omega
      obtain ⟨y0, hy0⟩ : ∃ y, d.get! 0 = y := ⟨_, rfl⟩
      have hdy0 : d[0]'(by omega) = y0 := by rw [← hy0]; exact (Utf8W.get!_of_lt d 0 (by omega)).symm
      rw [hy0] at hR
      obtain rfl : y0 = x0 := hdy0.symm.trans hs0
      by_cases dz : y0.toNat = 48 ∧ (1 < d.size ∨ false = true)
      · have dzI : ((y0.toNat : Int) == 48) = true := beq_iff_eq.2 (by omega)
        have d1 : (1 : Int) < d.size ∨ false = true := dz.2.imp (fun h => by omega) id
        rw [if_pos (.inr (.inr dz))] at hR
        subst hR
        have d1J : (1 : Int) < d.size := d1.elim id (fun h => by cases h)
        go_wp2
        go_ret2
        exact ⟨rfl, 0, rfl⟩
      rw [if_neg (fun h => h.elim d0 (fun h => h.elim d19 dz))] at hR
      have HR := Lib.hid hR
      clear hR
      by_cases y0n : (y0.toNat : Int) = 48
      · have y0b : ((y0.toNat : Int) == 48) = true := beq_iff_eq.2 y0n
        have d1J : ¬ (1 : Int) < d.size := fun h => dz ⟨by omega, .inl (by omega)⟩
        clear dz
        go_wp2
        go_loopw [6, 7] (fun v6 v7 wr => ∃ (i a : Nat), i ≤ d.size ∧ v7 = .int .i64 (i : Int) ∧ v6 = .int .u64 (a : Int) ∧ a < 10 ^ i ∧ Aside (digs (d.data.toList.drop i) a = digs d.data.toList 0 ∧ ∃ m, wr = w.drewN m)) (fun _ iv _ => d.size - (intOf iv).toNat)
        case atStart => exact ⟨0, 0, Nat.zero_le _, rfl, rfl, by decide, by rw [List.drop_zero], 0, rfl⟩
        case round =>
          obtain ⟨i, a, hi, rfl, rfl, ha, hrel⟩ := hrel
          have hp19 : 10 ^ i ≤ 10 ^ 19 := Nat.pow_le_pow_right (by decide) (by omega)
          have ha19 : (a : Int) < 10000000000000000000 := by omega
          by_cases hlt : i < d.size
          · have hiI : (i : Int) < d.size := by omega
            have hp18 : 10 ^ i ≤ 10 ^ 18 := Nat.pow_le_pow_right (by decide) (by omega)
            have ha18 : (a : Int) < 1000000000000000000 := by omega
            obtain ⟨y, hy⟩ : ∃ y, d.get! i = y := ⟨_, rfl⟩
            have hdy : d[i]'hlt = y := by rw [← hy]; exact (Utf8W.get!_of_lt d i hlt).symm
            have hyb : (y.toNat : Int) < 256 := by have := y.toNat_lt; omega
            have hst := digs_step d.data.toList i a (by rw [size_list]; exact hlt)
            rw [hrel.out.1, ← get_getD, hy] at hst
            obtain ⟨m, hm⟩ := hrel.out.2
            have HM := Lib.hid hm
            have HST := Lib.hid hst
            clear hrel hm hst hy
            by_cases yl : y.toNat < 48
            · have ylI : (y.toNat : Int) < 48 := by omega
              have hn : R = none := by rw [← HR.out, HST.out, if_pos (.inl yl)]
              subst hn
              go_wp2
              go_ret2
              exact ⟨rfl, m, HM.out⟩
            have ylI : ¬ (y.toNat : Int) < 48 := by omega
            by_cases yh : 57 < y.toNat
            · have yhI : (57 : Int) < y.toNat := by omega
              have hn : R = none := by rw [← HR.out, HST.out, if_pos (.inr yh)]
              subst hn
              go_wp2
              go_ret2
              exact ⟨rfl, m, HM.out⟩
            have yhI : ¬ (57 : Int) < y.toNat := by omega
            go_wp2
            go_roundw
            case rel => exact ⟨i + 1, a * 10 + (y.toNat - 48), by omega, by go_num, by congr 1; omega, by rw [Nat.pow_succ]; omega, (show Aside _ from ⟨by rw [HST.out, if_neg (by omega)], m, HM.out⟩)⟩
            case measure => simp [intOf]; omega
          · obtain ⟨m, hm⟩ := hrel.out.2
            have hdg : digs d.data.toList 0 = some a := by
              rw [← hrel.out.1, List.drop_of_length_le (by rw [size_list]; omega)]; rfl
            have hRR := HR.out
            rw [hdg] at hRR
            have HM := Lib.hid hm
            have hie : i = d.size := by omega
            subst hie
            have hiI : ¬ (d.size : Int) < d.size := by omega
            clear hrel hm hdg HR
            by_cases hbig : 9223372036854775807 < a
            · have hbI : (9223372036854775807 : Int) < a := by omega
              have hn : R = none := by rw [← hRR]; exact if_pos hbig
              subst hn
              clear hRR
              go_wp2
              go_ret2
              exact ⟨rfl, m, HM.out⟩
            · have hbI : ¬ (9223372036854775807 : Int) < a := by omega
              have hn : R = some ((a : Int)) := by rw [← hRR]; exact if_neg hbig
              subst hn
              clear hRR
              go_wp2
              go_ret2
              exact ⟨by unfold numEnd; first | rfl | (congr 3; omega), m, HM.out⟩
      · have y0b : ((y0.toNat : Int) == 48) = false := beq_eq_false_iff_ne.2 y0n
        clear dz
        go_wp2
        go_loopw [6, 7] (fun v6 v7 wr => ∃ (i a : Nat), i ≤ d.size ∧ v7 = .int .i64 (i : Int) ∧ v6 = .int .u64 (a : Int) ∧ a < 10 ^ i ∧ Aside (digs (d.data.toList.drop i) a = digs d.data.toList 0 ∧ ∃ m, wr = w.drewN m)) (fun _ iv _ => d.size - (intOf iv).toNat)
        case atStart => exact ⟨0, 0, Nat.zero_le _, rfl, rfl, by decide, by rw [List.drop_zero], 0, rfl⟩
        case round =>
          obtain ⟨i, a, hi, rfl, rfl, ha, hrel⟩ := hrel
          have hp19 : 10 ^ i ≤ 10 ^ 19 := Nat.pow_le_pow_right (by decide) (by omega)
          have ha19 : (a : Int) < 10000000000000000000 := by omega
          by_cases hlt : i < d.size
          · have hiI : (i : Int) < d.size := by omega
            have hp18 : 10 ^ i ≤ 10 ^ 18 := Nat.pow_le_pow_right (by decide) (by omega)
            have ha18 : (a : Int) < 1000000000000000000 := by omega
            obtain ⟨y, hy⟩ : ∃ y, d.get! i = y := ⟨_, rfl⟩
            have hdy : d[i]'hlt = y := by rw [← hy]; exact (Utf8W.get!_of_lt d i hlt).symm
            have hyb : (y.toNat : Int) < 256 := by have := y.toNat_lt; omega
            have hst := digs_step d.data.toList i a (by rw [size_list]; exact hlt)
            rw [hrel.out.1, ← get_getD, hy] at hst
            obtain ⟨m, hm⟩ := hrel.out.2
            have HM := Lib.hid hm
            have HST := Lib.hid hst
            clear hrel hm hst hy
            by_cases yl : y.toNat < 48
            · have ylI : (y.toNat : Int) < 48 := by omega
              have hn : R = none := by rw [← HR.out, HST.out, if_pos (.inl yl)]
              subst hn
              go_wp2
              go_ret2
              exact ⟨rfl, m, HM.out⟩
            have ylI : ¬ (y.toNat : Int) < 48 := by omega
            by_cases yh : 57 < y.toNat
            · have yhI : (57 : Int) < y.toNat := by omega
              have hn : R = none := by rw [← HR.out, HST.out, if_pos (.inr yh)]
              subst hn
              go_wp2
              go_ret2
              exact ⟨rfl, m, HM.out⟩
            have yhI : ¬ (57 : Int) < y.toNat := by omega
            go_wp2
            go_roundw
            case rel => exact ⟨i + 1, a * 10 + (y.toNat - 48), by omega, by go_num, by congr 1; omega, by rw [Nat.pow_succ]; omega, (show Aside _ from ⟨by rw [HST.out, if_neg (by omega)], m, HM.out⟩)⟩
            case measure => simp [intOf]; omega
          · obtain ⟨m, hm⟩ := hrel.out.2
            have hdg : digs d.data.toList 0 = some a := by
              rw [← hrel.out.1, List.drop_of_length_le (by rw [size_list]; omega)]; rfl
            have hRR := HR.out
            rw [hdg] at hRR
            have HM := Lib.hid hm
            have hie : i = d.size := by omega
            subst hie
            have hiI : ¬ (d.size : Int) < d.size := by omega
            clear hrel hm hdg HR
            by_cases hbig : 9223372036854775807 < a
            · have hbI : (9223372036854775807 : Int) < a := by omega
              have hn : R = none := by rw [← hRR]; exact if_pos hbig
              subst hn
              clear hRR
              go_wp2
              go_ret2
              exact ⟨rfl, m, HM.out⟩
            · have hbI : ¬ (9223372036854775807 : Int) < a := by omega
              have hn : R = some ((a : Int)) := by rw [← hRR]; exact if_neg hbig
              subst hn
              clear hRR
              go_wp2
              go_ret2
              exact ⟨by unfold numEnd; first | rfl | (congr 3; omega), m, HM.out⟩
  · have h0I : ¬ (0 : Int) < s.size := by omega
    have h0J : (s.size : Int) = 0 := by omega
    have h0K : ((s.size : Int) == 0) = true := beq_iff_eq.2 h0J
    rw [if_neg (fun h => h0 h.1)] at hR
    have hz : s.data.toList.length = 0 := by rw [size_list]; omega
    have hn : R = none := by rw [← hR]; unfold bodyQ; rw [if_pos (.inl hz)]
    subst hn
    clear hR
    go_enter Tryd.func42, Tryd.ntmps42
    go_wp2
    go_ret2
    exact ⟨rfl, 0, rfl⟩
theorem digs_app (c : UInt8) : ∀ (l : List UInt8) (a : Nat), digs (l ++ [c]) a = (digs l a).bind fun x => digs [c] x
  | [], a => rfl
  | b :: l, a => by
    rw [List.cons_append]
    unfold digs
    split
    · rfl
    · exact digs_app c l _
theorem digs_one (x d : Nat) (hd : d < 10) : digs [UInt8.ofNat (48 + d)] x = some (x * 10 + d) := by
  have e : (UInt8.ofNat (48 + d)).toNat = 48 + d := by rw [UInt8.toNat_ofNat']; omega
  unfold digs
  rw [e, if_neg (by omega), show 48 + d - 48 = d by omega]
  rfl
theorem digs_dec (u : Nat) : digs (Lib.decDigits u) 0 = some u := by
  induction u using Nat.strongRecOn with
  | _ u ih =>
    unfold Lib.decDigits
    by_cases h : u < 10
    · rw [dif_pos h, digs_one 0 u h]; simp
    · rw [dif_neg h, digs_app, ih (u / 10) (by omega), Option.bind_some, digs_one _ _ (Nat.mod_lt _ (by omega))]
      congr 1
      omega
/-- Digits with no 0 in front are the digits of what they tell. -/
theorem dec_digs : ∀ (n : Nat) (l : List UInt8) (v : Nat), l.length = n → digs l 0 = some v → l ≠ [] → ((l.getD 0 0).toNat = 48 → l.length = 1) → Lib.decDigits v = l := by
  intro n
  induction n with
  | zero => intro l v hl _ hne _; exact absurd (List.eq_nil_of_length_eq_zero hl) hne
  | succ n ih =>
    intro l v hl hd hne h0
    obtain ⟨p, c, rfl⟩ : ∃ p c, l = p ++ [c] := ⟨l.dropLast, l.getLast hne, (List.dropLast_concat_getLast hne).symm⟩
    rw [digs_app] at hd
    rcases hp : digs p 0 with _ | x
    · rw [hp] at hd; cases hd
    · rw [hp, Option.bind_some] at hd
      unfold digs at hd
      split at hd
      · cases hd
      · rename_i hc
        have hv : x * 10 + (c.toNat - 48) = v := by
          have e : some (x * 10 + (c.toNat - 48)) = some v := hd
          exact Option.some.inj e
        have hcc : UInt8.ofNat (48 + (c.toNat - 48)) = c := by rw [show 48 + (c.toNat - 48) = c.toNat by omega, UInt8.ofNat_toNat]
        cases p with
        | nil =>
          have e : some 0 = some x := hp
          obtain rfl := Option.some.inj e
          unfold Lib.decDigits
          rw [dif_pos (by omega), ← hv, Nat.zero_mul, Nat.zero_add, hcc]
          rfl
        | cons d p =>
          have hl2 : (d :: p).length = n := by rw [List.length_append] at hl; simp only [List.length_cons, List.length_nil] at hl ⊢; omega
          have hd0 : ¬ d.toNat = 48 := fun e => by
            have := h0 e
            rw [List.length_append] at this
            simp only [List.length_cons, List.length_nil] at this
            omega
          have hi := ih (d :: p) x hl2 hp (by simp) (fun e => absurd e hd0)
          have hx : ¬ x = 0 := fun e => by
            rw [e] at hi
            have h48 : Lib.decDigits 0 = [48] := by decide +kernel
            rw [h48] at hi
            injection hi with hi _
            exact hd0 (by rw [← hi]; rfl)
          have h10 : v / 10 = x := by omega
          have hm : v % 10 = c.toNat - 48 := by omega
          unfold Lib.decDigits
          rw [dif_neg (by omega), h10, hm, hi, hcc]
theorem least_is : Lib.itoa (-9223372036854775808) = leastL := by decide +kernel
theorem dec_zero : Lib.decDigits 0 = [48] := by decide +kernel
theorem least_digs : digs (leastL.drop 1) 0 = some 9223372036854775808 := by decide +kernel
theorem numQ_itoa (n : Int) (h0 : -9223372036854775808 ≤ n) (h1 : n ≤ 9223372036854775807) : numQ (Lib.itoa n) = some n := by
  by_cases hm : n = -9223372036854775808
  · subst hm
    rw [least_is]
    unfold numQ
    rw [if_pos rfl]
  by_cases hn : n < 0
  · have hi : Lib.itoa n = 45 :: Lib.decDigits n.natAbs := by unfold Lib.itoa; rw [if_pos hn]
    have hdg := digs_dec n.natAbs
    obtain ⟨c, r, hcr, hc0, hc1, hc2⟩ := dec_first n.natAbs
    have hlen := dec_len 18 n.natAbs (by show n.natAbs < 10000000000000000000; omega)
    rw [hi]
    unfold numQ
    rw [if_neg (fun e => by
      have e2 := congrArg (List.drop 1) e
      rw [List.drop_succ_cons, List.drop_zero] at e2
      rw [e2, least_digs] at hdg
      have := Option.some.inj hdg
      omega), if_pos ⟨by simp, rfl⟩, List.drop_succ_cons, List.drop_zero]
    unfold bodyQ
    rw [hdg, if_neg (by
      rintro (h | h | ⟨h, _⟩)
      · rw [hcr] at h; simp at h
      · omega
      · rw [hcr] at h
        have := hc2 h
        omega)]
    dsimp only
    rw [if_neg (by omega), if_pos rfl]
    congr 1
    omega
  · have hi : Lib.itoa n = Lib.decDigits n.toNat := by unfold Lib.itoa; rw [if_neg hn]
    have hdg := digs_dec n.toNat
    obtain ⟨c, r, hcr, hc0, hc1, hc2⟩ := dec_first n.toNat
    have hlen := dec_len 18 n.toNat (by show n.toNat < 10000000000000000000; omega)
    rw [hi]
    unfold numQ
    rw [if_neg (fun e => by
      rw [hcr] at e
      injection e with e _
      rw [e] at hc0
      exact absurd hc0 (by decide)), if_neg (by
      rintro ⟨_, h⟩
      rw [hcr] at h
      have h : c.toNat = 45 := h
      omega)]
    unfold bodyQ
    rw [hdg, if_neg (by
      rintro (h | h | ⟨h, h3⟩)
      · rw [hcr] at h; simp at h
      · omega
      · rw [hcr] at h
        have h4 := hc2 h
        rw [h4, dec_zero] at h3
        rcases h3 with h3 | h3
        · exact absurd h3 (by decide)
        · cases h3)]
    dsimp only
    rw [if_neg (by omega), if_neg (by decide)]
    congr 1
    omega
theorem numQ_conv (l : List UInt8) (n : Int) (h : numQ l = some n) : Lib.itoa n = l ∧ -9223372036854775808 ≤ n ∧ n ≤ 9223372036854775807 := by
  have body : ∀ (neg : Bool) (d : List UInt8), bodyQ neg d = some n → ∃ v : Nat, v ≤ 9223372036854775807 ∧ Lib.decDigits v = d ∧ n = (if neg then -(v : Int) else v) ∧ (neg = true → 0 < v) := by
    intro neg d hb
    unfold bodyQ at hb
    split at hb
    · cases hb
    · rename_i hc
      split at hb
      · cases hb
      · rename_i v hv
        split at hb
        · cases hb
        · rename_i hle
          have e := Option.some.inj hb
          have hne : d ≠ [] := fun e => hc (.inl (by rw [e]; rfl))
          have hd := dec_digs d.length d v rfl hv hne (fun h48 => by
            have : ¬ 1 < d.length := fun hl => hc (.inr (.inr ⟨h48, .inl hl⟩))
            have : ¬ d.length = 0 := fun hl => hc (.inl hl)
            omega)
          refine ⟨v, by omega, hd, e.symm, fun hneg => ?_⟩
          rcases Nat.eq_zero_or_pos v with h0 | h0
          · exfalso
            rw [h0, dec_zero] at hd
            exact hc (.inr (.inr ⟨by rw [← hd]; rfl, .inr hneg⟩))
          · exact h0
  unfold numQ at h
  split at h
  · rename_i hl
    obtain rfl := Option.some.inj h
    exact ⟨by rw [least_is, hl], by omega, by omega⟩
  · split at h
    · rename_i h45
      obtain ⟨v, hv, hd, rfl, hp⟩ := body true _ h
      have hp := hp rfl
      rw [if_pos rfl]
      refine ⟨?_, by omega, by omega⟩
      unfold Lib.itoa
      rw [if_pos (by omega), show (-(v : Int)).natAbs = v by omega, hd]
      cases l with
      | nil => exact absurd h45.1 (by decide)
      | cons c r =>
        rw [List.drop_succ_cons, List.drop_zero]
        have h4 : c.toNat = 45 := h45.2
        rw [show c = 45 from UInt8.toNat_inj.1 (by rw [h4]; rfl)]
    · obtain ⟨v, hv, hd, rfl, _⟩ := body false _ h
      rw [if_neg (by decide)]
      refine ⟨?_, by omega, by omega⟩
      unfold Lib.itoa
      rw [if_neg (by omega), Int.toNat_natCast, hd]
/-- The document's reading of a number and the program's are the same. -/
theorem numQ_eq (l : List UInt8) : numQ l = numP l := by
  rcases hq : numQ l with _ | n
  · rcases hp : numP l with _ | m
    · rfl
    · obtain ⟨e, h0, h1⟩ : Lib.itoa m = l ∧ -9223372036854775808 ≤ m ∧ m ≤ 9223372036854775807 := by
        have hp2 := hp
        unfold numP at hp2
        split at hp2
        · cases hp2
        · split at hp2
          · rename_i v hpv
            split at hp2
            · rename_i he
              obtain rfl := Option.some.inj hp2
              exact ⟨he, parsed_in hpv⟩
            · cases hp2
          · cases hp2
      have := numQ_itoa m h0 h1
      rw [e, hq] at this
      cases this
  · obtain ⟨e, h0, h1⟩ := numQ_conv l n hq
    have := numP_itoa n h0 h1
    rw [e] at this
    exact this.symm
end Go.Proofs.YtbclgalocipmfaaDoor
