/-
  The document's list of answers: found, counted.
-/
import Derived.Test.YtdlgemlpbpbhcaaCaLen
import Derived.Deep.QuietTactic
namespace Go.Proofs.Ytdlgemlpbpbhcaa
open Go.RowKit
set_option linter.unusedVariables false
theorem clock_f (x : Int) (w : World) : Calls Try.prog 26 #[.int .i64 x] w fun e w' => e = .returned (.int .i64 (clampN x)) ∧ w' = w := by
  by_cases h0 : x < 0
  · have hq : clampN x = 0 := by unfold clampN; omega
    rw [hq]
    go_enter Try.func26, Try.ntmps26
    go_wp2
    go_ret
    exact ⟨rfl, rfl⟩
  · by_cases h1 : 1099511627776 < x
    · have hq : clampN x = 1099511627776 := by unfold clampN; omega
      rw [hq]
      go_enter Try.func26, Try.ntmps26
      go_wp2
      go_ret
      exact ⟨rfl, rfl⟩
    · have hq : clampN x = x := by unfold clampN; omega
      rw [hq]
      go_enter Try.func26, Try.ntmps26
      go_wp2
      go_ret
      exact ⟨rfl, rfl⟩
theorem an_cells {w : World} {b o : Nat} {s : An} (h : w.rangeAt b o s.vals) : w.cell? ⟨b, o, none⟩ = some (.int .i64 s.f) ∧ w.cell? ⟨b, o + 1, none⟩ = some (.int .i64 s.i) ∧ w.cell? ⟨b, o + 2, none⟩ = some (.int .i64 s.t) ∧ w.cell? ⟨b, o + 3, none⟩ = some (.slice s.A s.n s.c) :=
  ⟨h 0 _ rfl, h 1 _ rfl, h 2 _ rfl, h 3 _ rfl⟩
theorem size_kept : (Try.prog.info? 55).map (·.size) = some 4 := by kernel_rfl
set_option maxHeartbeats 4000000 in
theorem rlen_f (A : Option Addr) (n c : Nat) (vs : List An) (w : World) (B : Nat) (h : Ah w B A n vs) (htk : ∀ s ∈ vs, 0 ≤ s.t ∧ s.t ≤ 1099511627776) (hn : (n : Int) ≤ 1048576) (now : Int) :
    Calls Try.prog 16 #[.slice A n c, .int .i64 now] w fun e w' => e = .returned (.int .i64 (cntA now vs : Int)) ∧ ∃ m, w' = w.drewN m := by
  have hT := clampN_in now
  have hcl := fun W => clock_f now W
  have hdef : ∀ k s, vs[k]? = some s → cntA now (vs.take (k + 1)) = cntA now (vs.take k) + (if clampN now - s.t < 247 then 1 else 0) := fun k s hs => cntA_next hs
  generalize clampN now = T at *
  have HT := Lib.hid hcl
  have HD := Lib.hid hdef
  have hvl := Lib.hid h.len
  clear hcl hdef
  go_enter Try.func16, Try.ntmps16
  go_wp2
  go_loopw [5, 6] (fun mv iv wr => ∃ k m q : Nat, k ≤ n ∧ m ≤ k ∧ iv = .int .i64 (k : Int) ∧ mv = .int .i64 (m : Int) ∧ Aside (m = cntA now (vs.take k)) ∧ wr = w.drewN q) (fun _ iv _ => n - (intOf iv).toNat)
  case atStart => exact ⟨0, 0, 0, Nat.zero_le _, Nat.le_refl _, rfl, rfl, rfl, rfl⟩
  case round =>
    obtain ⟨k, m, q, hk, hm, rfl, rfl, hcm, hwr⟩ := hrel
    have hw : Ah wr B A n vs := h.keep (fun p _ => by rw [hwr]; rfl)
    have HW := Lib.hid hwr
    clear hwr
    by_cases hlt : k < n
    · obtain ⟨s, hs⟩ := an_get h hlt
      obtain ⟨b, off, rfl, hb, _⟩ := h.place (by omega)
      obtain ⟨d0, d1, d2, d3⟩ := an_cells (hw.range hs)
      have hst := htk s (List.mem_of_getElem? hs)
      have hnx := HD.out k s hs
      by_cases hl : T - s.t < 247
      · rw [if_pos hl] at hnx
        have HN := Lib.hid hnx
        clear hnx hs
        go_wp2
        go_quiet ((go_at_call 26; exact Calls.quiet_of_same (HT.out _)))
        go_wp2
        go_roundw
        case rel => exact ⟨k + 1, m + 1, _, by omega, by omega, by go_num, by go_num, (show Aside _ from by rw [HN.out, hcm.out]; rfl), by rw [HW.out]; exact World.drewN_drewN ..⟩
        case measure => simp [intOf]; omega
      · rw [if_neg hl] at hnx
        have HN := Lib.hid hnx
        clear hnx hs
        go_wp2
        go_quiet ((go_at_call 26; exact Calls.quiet_of_same (HT.out _)))
        go_wp2
        go_roundw
        case rel => exact ⟨k + 1, m, _, by omega, by omega, by go_num, rfl, (show Aside _ from by rw [HN.out, Nat.add_zero, hcm.out]; rfl), by rw [HW.out]; exact World.drewN_drewN ..⟩
        case measure => simp [intOf]; omega
    · obtain rfl : k = n := by omega
      have hfin : m = cntA now vs := by
        have := hcm.out
        rwa [List.take_of_length_le (by rw [hvl.out]; exact Nat.le_refl _)] at this
      go_wp2
      go_ret
      exact ⟨by rw [← hfin]; rfl, q, HW.out⟩
/-- What the list holds for a message. -/
def hitA (fr id T : Int) (s : An) : Bool := (s.f == fr && s.i == id) && decide (T - s.t < 247)
def slA : Option An → Value | some s => .slice s.A s.n s.c | none => .slice none 0 0
theorem findA_hit {p : An → Bool} {vs : List An} {k : Nat} {s : An} (h : ∀ (j : Nat) (t : An), j < k → vs[j]? = some t → p t = false) (hs : vs[k]? = some s) (hp : p s = true) : vs.find? p = some s := by
  rw [List.find?_eq_some_iff_getElem]
  obtain ⟨hk, rfl⟩ := List.getElem?_eq_some_iff.1 hs
  exact ⟨hp, k, hk, rfl, fun j hj => by rw [h j _ hj (List.getElem?_eq_getElem (by omega))]; rfl⟩
theorem findA_miss {p : An → Bool} {vs : List An} (h : ∀ (j : Nat) (t : An), j < vs.length → vs[j]? = some t → p t = false) : vs.find? p = none := by
  rw [List.find?_eq_none]
  intro x hx
  obtain ⟨j, hj⟩ := List.mem_iff_getElem?.1 hx
  rw [h j x (List.getElem?_eq_some_iff.1 hj).1 hj]; decide
theorem miss_next {p : An → Bool} {vs : List An} {k : Nat} {s : An} (h : ∀ (j : Nat) (t : An), j < k → vs[j]? = some t → p t = false) (hs : vs[k]? = some s) (hp : p s = false) : ∀ (j : Nat) (t : An), j < k + 1 → vs[j]? = some t → p t = false := by
  intro j t hj ht
  by_cases e : j = k
  · subst e
    rw [ht] at hs
    obtain rfl := Option.some.inj hs
    exact hp
  · exact h j t (by omega) ht
set_option maxHeartbeats 8000000 in
theorem rfind_f (A : Option Addr) (n c : Nat) (vs : List An) (w : World) (B : Nat) (h : Ah w B A n vs) (htk : ∀ s ∈ vs, 0 ≤ s.t ∧ s.t ≤ 1099511627776) (hn : (n : Int) ≤ 1048576) (fr id now : Int) :
    Calls Try.prog 13 #[.slice A n c, .int .i64 fr, .int .i64 id, .int .i64 now] w fun e w' => e = .returned (.tuple #[slA (vs.find? (hitA fr id (clampN now))), .bool (vs.find? (hitA fr id (clampN now))).isSome]) ∧ ∃ m, w' = w.drewN m := by
  have hT := clampN_in now
  have hcl := fun W => clock_f now W
  generalize clampN now = T at *
  obtain ⟨R, hR⟩ : ∃ R, vs.find? (hitA fr id T) = R := ⟨_, rfl⟩
  rw [hR]
  have HR := Lib.hid hR
  have HT := Lib.hid hcl
  have hvl := Lib.hid h.len
  clear hcl hR
  go_enter Try.func13, Try.ntmps13
  go_wp2
  go_loopw [10] (fun iv wr => ∃ k q : Nat, k ≤ n ∧ iv = .int .i64 (k : Int) ∧ Aside (∀ (j : Nat) (t : An), j < k → vs[j]? = some t → hitA fr id T t = false) ∧ wr = w.drewN q) (fun iv _ => n - (intOf iv).toNat)
  case atStart => exact ⟨0, 0, Nat.zero_le _, rfl, fun j t hj => absurd hj (Nat.not_lt_zero _), rfl⟩
  case round =>
    obtain ⟨k, q, hk, rfl, hmiss, hwr⟩ := hrel
    have hw : Ah wr B A n vs := h.keep (fun p _ => by rw [hwr]; rfl)
    have HW := Lib.hid hwr
    clear hwr
    by_cases hlt : k < n
    · obtain ⟨s, hs⟩ := an_get h hlt
      obtain ⟨b, off, rfl, hb, _⟩ := h.place (by omega)
      obtain ⟨d0, d1, d2, d3⟩ := an_cells (hw.range hs)
      have hst := htk s (List.mem_of_getElem? hs)
      have HS := Lib.hid hs
      clear hs
      by_cases hf : s.f = fr
      · have hfb : (s.f == fr) = true := by rw [hf]; exact beq_self_eq_true _
        by_cases hi : s.i = id
        · have hib : (s.i == id) = true := by rw [hi]; exact beq_self_eq_true _
          by_cases hl : T - s.t < 247
          · have hp : hitA fr id T s = true := by unfold hitA; rw [hfb, hib, decide_eq_true hl]; rfl
            have HP := Lib.hid ((findA_hit hmiss.out HS.out hp).symm.trans HR.out)
            clear hp
            rw [hf] at d0
            rw [hi] at d1
            clear hfb hib
            go_wp2
            go_quiet ((go_at_call 26; exact Calls.quiet_of_same (HT.out _)))
            go_wp2
            go_ret2
            exact ⟨by rw [← HP.out]; rfl, _, by rw [HW.out]; exact World.drewN_drewN ..⟩
          · have hp : hitA fr id T s = false := by unfold hitA; rw [decide_eq_false hl, Bool.and_false]
            have HP := Lib.hid (miss_next hmiss.out HS.out hp)
            clear hp
            rw [hf] at d0
            rw [hi] at d1
            clear hfb hib
            go_wp2
            go_quiet ((go_at_call 26; exact Calls.quiet_of_same (HT.out _)))
            go_wp2
            go_roundw
            case rel => exact ⟨k + 1, _, by omega, by go_num, HP.out, by rw [HW.out]; exact World.drewN_drewN ..⟩
            case measure => simp [intOf]; omega
        · have hib : (s.i == id) = false := beq_eq_false_iff_ne.2 hi
          have hp : hitA fr id T s = false := by unfold hitA; rw [hib, Bool.and_false, Bool.false_and]
          have HP := Lib.hid (miss_next hmiss.out HS.out hp)
          clear hp
          rw [hf] at d0
          clear hfb
          go_wp2
          go_quiet (fail)
          go_wp2
          go_roundw
          case rel => exact ⟨k + 1, _, by omega, by go_num, HP.out, by rw [HW.out]; exact World.drewN_drewN ..⟩
          case measure => simp [intOf]; omega
      · have hfb : (s.f == fr) = false := beq_eq_false_iff_ne.2 hf
        have hp : hitA fr id T s = false := by unfold hitA; rw [hfb, Bool.false_and, Bool.false_and]
        have HP := Lib.hid (miss_next hmiss.out HS.out hp)
        clear hp
        go_wp2
        go_quiet (fail)
        go_wp2
        go_roundw
        case rel => exact ⟨k + 1, _, by omega, by go_num, HP.out, by rw [HW.out]; exact World.drewN_drewN ..⟩
        case measure => simp [intOf]; omega
    · obtain rfl : k = n := by omega
      have hfin : R = none := by rw [← HR.out]; exact findA_miss fun j t hj ht => hmiss.out j t (by rw [← hvl.out]; exact hj) ht
      subst hfin
      go_wp2
      go_ret2
      exact ⟨rfl, q, HW.out⟩
end Go.Proofs.Ytdlgemlpbpbhcaa
