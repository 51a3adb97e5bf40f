/-
  The document's number of a text.
-/
import Derived.Test.YthnbcilpallhjaaDoorPlRRunes
import Derived.Deep.CutRange
import Derived.Deep.CutBlock
namespace Go.Proofs.YthnbcilpallhjaaDoor
open Go.RowKit
set_option maxRecDepth 100000
set_option maxRecDepth 100000
set_option linter.unusedVariables false
def digs : List UInt8 → Nat → Option Nat
  | [], a => some a
  | b :: t, a => if b.toNat < 48 ∨ 57 < b.toNat then none else digs t (a * 10 + (b.toNat - 48))
def bodyQ (neg : Bool) (d : List UInt8) : Option Int :=
  if d.length = 0 ∨ 19 < d.length ∨ ((d.getD 0 0).toNat = 48 ∧ (1 < d.length ∨ neg = true)) then none
  else match digs d 0 with
    | none => none
    | some n => if 9223372036854775807 < n then none else some (if neg then -(n : Int) else n)
def leastL : List UInt8 := [45, 57, 50, 50, 51, 51, 55, 50, 48, 51, 54, 56, 53, 52, 55, 55, 53, 56, 48, 56]
def numQ (l : List UInt8) : Option Int := if l = leastL then some (-9223372036854775808) else if 0 < l.length ∧ (l.getD 0 0).toNat = 45 then bodyQ true (l.drop 1) else bodyQ false l
def numEnd (o : Option Int) : Ending := match o with | some n => .returned (.tuple #[.int .i64 n, .bool true]) | none => .returned (.tuple #[.int .i64 0, .bool false])
theorem get_getD (s : ByteArray) (j : Nat) : s.get! j = s.data.toList.getD j 0 := by
  cases s with
  | mk a =>
    show a[j]! = a.toList.getD j 0
    by_cases h : j < a.size
    · rw [getElem!_pos a j h, List.getD_eq_getElem?_getD, Array.getElem?_toList, Array.getElem?_eq_getElem h]; rfl
    · rw [getElem!_neg a j h, List.getD_eq_getElem?_getD, Array.getElem?_toList, Array.getElem?_eq_none (by omega)]; rfl
theorem size_list (s : ByteArray) : s.data.toList.length = s.size := Array.length_toList
theorem digs_step (l : List UInt8) (i a : Nat) (h : i < l.length) : digs (l.drop i) a = if (l.getD i 0).toNat < 48 ∨ 57 < (l.getD i 0).toNat then none else digs (l.drop (i + 1)) (a * 10 + ((l.getD i 0).toNat - 48)) := by
  rw [List.drop_eq_getElem_cons h, List.getD_eq_getElem?_getD, List.getElem?_eq_getElem h]
  rfl
set_option maxHeartbeats 8000000 in
theorem rnumber_f (s : ByteArray) (w : World) (hs : s.size ≤ 1000000) : Calls Tryd.prog 42 #[.string s] w fun e w' => e = numEnd (numQ s.data.toList) ∧ ∃ m, w' = w.drewN m := by
  obtain ⟨R, hR⟩ : ∃ R, numQ s.data.toList = R := ⟨_, rfl⟩
  rw [hR]
  obtain ⟨lit, hlit⟩ : ∃ lit : ByteArray, lit = ⟨leastL.toArray⟩ := ⟨_, rfl⟩
  by_cases hle : s.data.toList = leastL
  · have hR2 : R = some (-9223372036854775808) := by rw [← hR]; unfold numQ; rw [if_pos hle]
    subst hR2
    obtain rfl : s = ⟨leastL.toArray⟩ := by
      cases s with
      | mk a => congr 1; rw [← hle, Array.toArray_toList]
    clear hR hlit hle
    go_enter Tryd.func42, Tryd.ntmps42
    unfold leastL
    go_wp2
    go_ret2
    exact ⟨rfl, 0, rfl⟩
  have hne2 : ¬ s.toList = leastL := fun e => hle (by
    rw [ByteArray.toList_eq] at e
    exact e)
  have hne : (s.toList == leastL) = false := beq_eq_false_iff_ne.2 hne2
  unfold leastL at hne hne2
  unfold numQ at hR
  rw [if_neg hle, size_list, ← get_getD] at hR
  clear hle hlit
  by_cases h0 : 0 < s.size
  · have h0I : (0 : Int) < s.size := by omega
    obtain ⟨x0, hx0⟩ : ∃ x, s.get! 0 = x := ⟨_, rfl⟩
    have hs0 : s[0]'(by omega) = x0 := by rw [← hx0]; exact (Utf8W.get!_of_lt s 0 (by omega)).symm
    rw [hx0] at hR
    by_cases hx : x0.toNat = 45
    · have hxI : ((x0.toNat : Int) == 45) = true := beq_iff_eq.2 (by omega)
      rw [if_pos ⟨h0, hx⟩, ← Lib.ext_list] at hR
      have hds := Lib.ext_size s 1
      obtain ⟨d, hd⟩ : ∃ d, s.extract 1 s.size = d := ⟨_, rfl⟩
      rw [hd] at hR hds
      have hdle : d.size ≤ 1000000 := by omega
      clear hx0 hds
      go_enter Tryd.func42, Tryd.ntmps42
      have hdI : (d.size : Int) ≤ 1000000 := by omega
      unfold bodyQ at hR
      rw [size_list, ← get_getD] at hR
      by_cases d0 : d.size = 0
      · have d0I : ((d.size : Int) == 0) = true := by rw [d0]; rfl
        have d0J : (d.size : Int) = 0 := by omega
        rw [if_pos (.inl d0)] at hR
        subst hR
        go_wp2
        go_ret2
        exact ⟨rfl, 0, rfl⟩
      have d0J : ¬ (d.size : Int) = 0 := by omega
      have d0I : ((d.size : Int) == 0) = false := beq_eq_false_iff_ne.2 d0J
      by_cases d19 : 19 < d.size
      · have d19I : (19 : Int) < d.size := by omega
        rw [if_pos (.inr (.inl d19))] at hR
        subst hR
        go_wp2
        go_ret2
        exact ⟨rfl, 0, rfl⟩
      have d19I : ¬ (19 : Int) < d.size := by omega
      have dpos : (0 : Int) < d.size := by omega
      obtain ⟨y0, hy0⟩ : ∃ y, d.get! 0 = y := ⟨_, rfl⟩
      have hdy0 : d[0]'(by omega) = y0 := by rw [← hy0]; exact (Utf8W.get!_of_lt d 0 (by omega)).symm
      rw [hy0] at hR
      by_cases dz : y0.toNat = 48 ∧ (1 < d.size ∨ true = true)
      · have dzI : ((y0.toNat : Int) == 48) = true := beq_iff_eq.2 (by omega)
        have d1 : (1 : Int) < d.size ∨ true = true := dz.2.imp (fun h => by omega) id
        rw [if_pos (.inr (.inr dz))] at hR
        subst hR
        by_cases d1K : (1 : Int) < d.size <;> (go_wp2; go_ret2; exact ⟨rfl, 0, rfl⟩)
      rw [if_neg (fun h => h.elim d0 (fun h => h.elim d19 dz))] at hR
      have y0n : ¬ (y0.toNat : Int) = 48 := fun h => dz ⟨by omega, .inr rfl⟩
      have y0b : ((y0.toNat : Int) == 48) = false := beq_eq_false_iff_ne.2 y0n
      have HR := Lib.hid hR
      clear hR dz
      go_wp2
      go_loopw [6, 7] (fun v6 v7 wr => ∃ (i a : Nat), i ≤ d.size ∧ v7 = .int .i64 (i : Int) ∧ v6 = .int .u64 (a : Int) ∧ a < 10 ^ i ∧ Aside (digs (d.data.toList.drop i) a = digs d.data.toList 0 ∧ ∃ m, wr = w.drewN m)) (fun _ iv _ => d.size - (intOf iv).toNat)
      case atStart => exact ⟨0, 0, Nat.zero_le _, rfl, rfl, by decide, by rw [List.drop_zero], 0, rfl⟩
      case round =>
        obtain ⟨i, a, hi, rfl, rfl, ha, hrel⟩ := hrel
        have hp19 : 10 ^ i ≤ 10 ^ 19 := Nat.pow_le_pow_right (by decide) (by omega)
        have ha19 : (a : Int) < 10000000000000000000 := by omega
        by_cases hlt : i < d.size
        · have hiI : (i : Int) < d.size := by omega
          have hp18 : 10 ^ i ≤ 10 ^ 18 := Nat.pow_le_pow_right (by decide) (by omega)
          have ha18 : (a : Int) < 1000000000000000000 := by omega
          obtain ⟨y, hy⟩ : ∃ y, d.get! i = y := ⟨_, rfl⟩
          have hdy : d[i]'hlt = y := by rw [← hy]; exact (Utf8W.get!_of_lt d i hlt).symm
          have hyb : (y.toNat : Int) < 256 := by have := y.toNat_lt; omega
          have hst := digs_step d.data.toList i a (by rw [size_list]; exact hlt)
          rw [hrel.out.1, ← get_getD, hy] at hst
          obtain ⟨m, hm⟩ := hrel.out.2
          have HM := Lib.hid hm
          have HST := Lib.hid hst
          clear hrel hm hst hy
          by_cases yl : y.toNat < 48
          · have ylI : (y.toNat : Int) < 48 := by omega
            have hn : R = none := by rw [← HR.out, HST.out, if_pos (.inl yl)]
            subst hn
            go_wp2
            go_ret2
            exact ⟨rfl, m, HM.out⟩
          have ylI : ¬ (y.toNat : Int) < 48 := by omega
          by_cases yh : 57 < y.toNat
          · have yhI : (57 : Int) < y.toNat := by omega
            have hn : R = none := by rw [← HR.out, HST.out, if_pos (.inr yh)]
            subst hn
            go_wp2
            go_ret2
            exact ⟨rfl, m, HM.out⟩
          have yhI : ¬ (57 : Int) < y.toNat := by omega
          go_wp2
          go_roundw
          case rel => exact ⟨i + 1, a * 10 + (y.toNat - 48), by omega, by go_num, by congr 1; omega, by rw [Nat.pow_succ]; omega, (show Aside _ from ⟨by rw [HST.out, if_neg (by omega)], m, HM.out⟩)⟩
          case measure => simp [intOf]; omega
        · obtain ⟨m, hm⟩ := hrel.out.2
          have hdg : digs d.data.toList 0 = some a := by
            rw [← hrel.out.1, List.drop_of_length_le (by rw [size_list]; omega)]; rfl
          have hRR := HR.out
          rw [hdg] at hRR
          have HM := Lib.hid hm
          have hie : i = d.size := by omega
          subst hie
          have hiI : ¬ (d.size : Int) < d.size := by omega
          clear hrel hm hdg HR
          by_cases hbig : 9223372036854775807 < a
          · have hbI : (9223372036854775807 : Int) < a := by omega
            have hn : R = none := by rw [← hRR]; exact if_pos hbig
            subst hn
            clear hRR
            go_wp2
            go_ret2
            exact ⟨rfl, m, HM.out⟩
          · have hbI : ¬ (9223372036854775807 : Int) < a := by omega
            have hn : R = some (-(a : Int)) := by rw [← hRR]; exact if_neg hbig
            subst hn
            clear hRR
            go_wp2
            go_ret2
            exact ⟨by unfold numEnd; first | rfl | (congr 3; omega), m, HM.out⟩
    · have hxI : ((x0.toNat : Int) == 45) = false := beq_eq_false_iff_ne.2 (by omega)
      have hxJ : ¬ (x0.toNat : Int) = 45 := by omega
      rw [if_neg (fun h => hx h.2)] at hR
      clear hx0
      obtain ⟨d, hd⟩ : ∃ d, d = s := ⟨_, rfl⟩
      subst hd
      go_enter Tryd.func42, Tryd.ntmps42
      have hdI : (d.size : Int) ≤ 1000000 := by omega
      unfold bodyQ at hR
      rw [size_list, ← get_getD] at hR
      by_cases d0 : d.size = 0
      · have d0I : ((d.size : Int) == 0) = true := by rw [d0]; rfl
        have d0J : (d.size : Int) = 0 := by omega
        rw [if_pos (.inl d0)] at hR
        subst hR
        go_wp2
        go_ret2
        exact ⟨rfl, 0, rfl⟩
      have d0J : ¬ (d.size : Int) = 0 := by omega
      have d0I : ((d.size : Int) == 0) = false := beq_eq_false_iff_ne.2 d0J
      by_cases d19 : 19 < d.size
      · have d19I : (19 : Int) < d.size := by omega
        rw [if_pos (.inr (.inl d19))] at hR
        subst hR
        go_wp2
        go_ret2
        exact ⟨rfl, 0, rfl⟩
      have d19I : ¬ (19 : Int) < d.size := by omega
      have dpos : (0 : Int) < d.size := by omega
      obtain ⟨y0, hy0⟩ : ∃ y, d.get! 0 = y := ⟨_, rfl⟩
      have hdy0 : d[0]'(by omega) = y0 := by rw [← hy0]; exact (Utf8W.get!_of_lt d 0 (by omega)).symm
      rw [hy0] at hR
      obtain rfl : y0 = x0 := hdy0.symm.trans hs0
      by_cases dz : y0.toNat = 48 ∧ (1 < d.size ∨ false = true)
      · have dzI : ((y0.toNat : Int) == 48) = true := beq_iff_eq.2 (by omega)
        have d1 : (1 : Int) < d.size ∨ false = true := dz.2.imp (fun h => by omega) id
        rw [if_pos (.inr (.inr dz))] at hR
        subst hR
        have d1J : (1 : Int) < d.size := d1.elim id (fun h => by cases h)
        go_wp2
        go_ret2
        exact ⟨rfl, 0, rfl⟩
      rw [if_neg (fun h => h.elim d0 (fun h => h.elim d19 dz))] at hR
      have HR := Lib.hid hR
      clear hR
      by_cases y0n : (y0.toNat : Int) = 48
      · have y0b : ((y0.toNat : Int) == 48) = true := beq_iff_eq.2 y0n
        have d1J : ¬ (1 : Int) < d.size := fun h => dz ⟨by omega, .inl (by omega)⟩
        clear dz
        go_wp2
        go_loopw [6, 7] (fun v6 v7 wr => ∃ (i a : Nat), i ≤ d.size ∧ v7 = .int .i64 (i : Int) ∧ v6 = .int .u64 (a : Int) ∧ a < 10 ^ i ∧ Aside (digs (d.data.toList.drop i) a = digs d.data.toList 0 ∧ ∃ m, wr = w.drewN m)) (fun _ iv _ => d.size - (intOf iv).toNat)
        case atStart => exact ⟨0, 0, Nat.zero_le _, rfl, rfl, by decide, by rw [List.drop_zero], 0, rfl⟩
        case round =>
          obtain ⟨i, a, hi, rfl, rfl, ha, hrel⟩ := hrel
          have hp19 : 10 ^ i ≤ 10 ^ 19 := Nat.pow_le_pow_right (by decide) (by omega)
          have ha19 : (a : Int) < 10000000000000000000 := by omega
          by_cases hlt : i < d.size
          · have hiI : (i : Int) < d.size := by omega
            have hp18 : 10 ^ i ≤ 10 ^ 18 := Nat.pow_le_pow_right (by decide) (by omega)
            have ha18 : (a : Int) < 1000000000000000000 := by omega
            obtain ⟨y, hy⟩ : ∃ y, d.get! i = y := ⟨_, rfl⟩
            have hdy : d[i]'hlt = y := by rw [← hy]; exact (Utf8W.get!_of_lt d i hlt).symm
            have hyb : (y.toNat : Int) < 256 := by have := y.toNat_lt; omega
            have hst := digs_step d.data.toList i a (by rw [size_list]; exact hlt)
            rw [hrel.out.1, ← get_getD, hy] at hst
            obtain ⟨m, hm⟩ := hrel.out.2
            have HM := Lib.hid hm
            have HST := Lib.hid hst
            clear hrel hm hst hy
            by_cases yl : y.toNat < 48
            · have ylI : (y.toNat : Int) < 48 := by omega
              have hn : R = none := by rw [← HR.out, HST.out, if_pos (.inl yl)]
              subst hn
              go_wp2
              go_ret2
              exact ⟨rfl, m, HM.out⟩
            have ylI : ¬ (y.toNat : Int) < 48 := by omega
            by_cases yh : 57 < y.toNat
            · have yhI : (57 : Int) < y.toNat := by omega
              have hn : R = none := by rw [← HR.out, HST.out, if_pos (.inr yh)]
              subst hn
              go_wp2
              go_ret2
              exact ⟨rfl, m, HM.out⟩
            have yhI : ¬ (57 : Int) < y.toNat := by omega
            go_wp2
            go_roundw
            case rel => exact ⟨i + 1, a * 10 + (y.toNat - 48), by omega, by go_num, by congr 1; omega, by rw [Nat.pow_succ]; omega, (show Aside _ from ⟨by rw [HST.out, if_neg (by omega)], m, HM.out⟩)⟩
            case measure => simp [intOf]; omega
          · obtain ⟨m, hm⟩ := hrel.out.2
            have hdg : digs d.data.toList 0 = some a := by
              rw [← hrel.out.1, List.drop_of_length_le (by rw [size_list]; omega)]; rfl
            have hRR := HR.out
            rw [hdg] at hRR
            have HM := Lib.hid hm
            have hie : i = d.size := by omega
            subst hie
            have hiI : ¬ (d.size : Int) < d.size := by omega
            clear hrel hm hdg HR
            by_cases hbig : 9223372036854775807 < a
            · have hbI : (9223372036854775807 : Int) < a := by omega
              have hn : R = none := by rw [← hRR]; exact if_pos hbig
              subst hn
              clear hRR
              go_wp2
              go_ret2
              exact ⟨rfl, m, HM.out⟩
            · have hbI : ¬ (9223372036854775807 : Int) < a := by omega
              have hn : R = some ((a : Int)) := by rw [← hRR]; exact if_neg hbig
              subst hn
              clear hRR
              go_wp2
              go_ret2
              exact ⟨by unfold numEnd; first | rfl | (congr 3; omega), m, HM.out⟩
      · have y0b : ((y0.toNat : Int) == 48) = false := beq_eq_false_iff_ne.2 y0n
        clear dz
        go_wp2
        go_loopw [6, 7] (fun v6 v7 wr => ∃ (i a : Nat), i ≤ d.size ∧ v7 = .int .i64 (i : Int) ∧ v6 = .int .u64 (a : Int) ∧ a < 10 ^ i ∧ Aside (digs (d.data.toList.drop i) a = digs d.data.toList 0 ∧ ∃ m, wr = w.drewN m)) (fun _ iv _ => d.size - (intOf iv).toNat)
        case atStart => exact ⟨0, 0, Nat.zero_le _, rfl, rfl, by decide, by rw [List.drop_zero], 0, rfl⟩
        case round =>
          obtain ⟨i, a, hi, rfl, rfl, ha, hrel⟩ := hrel
          have hp19 : 10 ^ i ≤ 10 ^ 19 := Nat.pow_le_pow_right (by decide) (by omega)
          have ha19 : (a : Int) < 10000000000000000000 := by omega
          by_cases hlt : i < d.size
          · have hiI : (i : Int) < d.size := by omega
            have hp18 : 10 ^ i ≤ 10 ^ 18 := Nat.pow_le_pow_right (by decide) (by omega)
            have ha18 : (a : Int) < 1000000000000000000 := by omega
            obtain ⟨y, hy⟩ : ∃ y, d.get! i = y := ⟨_, rfl⟩
            have hdy : d[i]'hlt = y := by rw [← hy]; exact (Utf8W.get!_of_lt d i hlt).symm
            have hyb : (y.toNat : Int) < 256 := by have := y.toNat_lt; omega
            have hst := digs_step d.data.toList i a (by rw [size_list]; exact hlt)
            rw [hrel.out.1, ← get_getD, hy] at hst
            obtain ⟨m, hm⟩ := hrel.out.2
            have HM := Lib.hid hm
            have HST := Lib.hid hst
            clear hrel hm hst hy
            by_cases yl : y.toNat < 48
            · have ylI : (y.toNat : Int) < 48 := by omega
              have hn : R = none := by rw [← HR.out, HST.out, if_pos (.inl yl)]
              subst hn
              go_wp2
              go_ret2
              exact ⟨rfl, m, HM.out⟩
            have ylI : ¬ (y.toNat : Int) < 48 := by omega
            by_cases yh : 57 < y.toNat
            · have yhI : (57 : Int) < y.toNat := by omega
              have hn : R = none := by rw [← HR.out, HST.out, if_pos (.inr yh)]
              subst hn
              go_wp2
              go_ret2
              exact ⟨rfl, m, HM.out⟩
            have yhI : ¬ (57 : Int) < y.toNat := by omega
            go_wp2
            go_roundw
            case rel => exact ⟨i + 1, a * 10 + (y.toNat - 48), by omega, by go_num, by congr 1; omega, by rw [Nat.pow_succ]; omega, (show Aside _ from ⟨by rw [HST.out, if_neg (by omega)], m, HM.out⟩)⟩
            case measure => simp [intOf]; omega
          · obtain ⟨m, hm⟩ := hrel.out.2
            have hdg : digs d.data.toList 0 = some a := by
              rw [← hrel.out.1, List.drop_of_length_le (by rw [size_list]; omega)]; rfl
            have hRR := HR.out
            rw [hdg] at hRR
            have HM := Lib.hid hm
            have hie : i = d.size := by omega
            subst hie
            have hiI : ¬ (d.size : Int) < d.size := by omega
            clear hrel hm hdg HR
            by_cases hbig : 9223372036854775807 < a
            · have hbI : (9223372036854775807 : Int) < a := by omega
              have hn : R = none := by rw [← hRR]; exact if_pos hbig
              subst hn
              clear hRR
              go_wp2
              go_ret2
              exact ⟨rfl, m, HM.out⟩
            · have hbI : ¬ (9223372036854775807 : Int) < a := by omega
              have hn : R = some ((a : Int)) := by rw [← hRR]; exact if_neg hbig
              subst hn
              clear hRR
              go_wp2
              go_ret2
              exact ⟨by unfold numEnd; first | rfl | (congr 3; omega), m, HM.out⟩
  · have h0I : ¬ (0 : Int) < s.size := by omega
    have h0J : (s.size : Int) = 0 := by omega
    have h0K : ((s.size : Int) == 0) = true := beq_iff_eq.2 h0J
    rw [if_neg (fun h => h0 h.1)] at hR
    have hz : s.data.toList.length = 0 := by rw [size_list]; omega
    have hn : R = none := by rw [← hR]; unfold bodyQ; rw [if_pos (.inl hz)]
    subst hn
    clear hR
    go_enter Tryd.func42, Tryd.ntmps42
    go_wp2
    go_ret2
    exact ⟨rfl, 0, rfl⟩
end Go.Proofs.YthnbcilpallhjaaDoor
