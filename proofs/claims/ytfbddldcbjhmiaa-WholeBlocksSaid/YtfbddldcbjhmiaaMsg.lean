/-
  Messages: what a code is; what is small.
-/
import Derived.Test.YtfbddldcbjhmiaaOptRWrite
import Derived.Deep.Fields
namespace Go.Proofs.Ytfbddldcbjhmiaa
open Go.RowKit
set_option maxRecDepth 100000
set_option linter.unusedVariables false
theorem class_f (c : Int) (w : World) : Calls Try.prog 50 #[.int .i64 c] w fun e w' => e = .returned (.int .i64 (c / 32)) ∧ w' = w := by
  go_enter Try.func50, Try.ntmps50
  go_wp2
  go_ret
  exact ⟨rfl, rfl⟩
/-- Is it a code, and its class used? -/
def codeB (c : Int) : Bool := decide ((0 ≤ c ∧ c ≤ 31) ∨ (64 ≤ c ∧ c ≤ 191))
theorem codeB_iff (c : Int) : codeB c = true ↔ (0 ≤ c ∧ c ≤ 31) ∨ (64 ≤ c ∧ c ≤ 191) := by unfold codeB; simp
theorem isCode_f (c : Int) (w : World) : Calls Try.prog 42 #[.int .i64 c] w fun e w' => e = .returned (.bool (codeB c)) ∧ w' = w := by
  obtain ⟨q, hq⟩ : ∃ q, c / 32 = q := ⟨_, rfl⟩
  have hcl := class_f c w
  rw [hq] at hcl
  have HC := Lib.hid hcl
  by_cases hc : q = 0 ∨ q = 2 ∨ q = 3 ∨ q = 4 ∨ q = 5
  · have hr : codeB c = true := (codeB_iff c).2 (by omega)
    have HR := Lib.hid hr
    clear hr hq hcl
    go_enter Try.func42, Try.ntmps42
    rcases hc with rfl | rfl | rfl | rfl | rfl
    all_goals
      go_wp2_with (go_at_call 50; refine HC.out.mono ?_; rintro e w' ⟨rfl, hw⟩; obtain rfl := hw.symm)
      go_ret
      exact ⟨retB HR.out.symm, rfl⟩
  · have hr : codeB c = false := by
      cases e : codeB c with
      | false => rfl
      | true => exact absurd ((codeB_iff c).1 e) (by omega)
    have h0 : (q == 0) = false := by simp; omega
    have h2 : (q == 2) = false := by simp; omega
    have h3 : (q == 3) = false := by simp; omega
    have h4 : (q == 4) = false := by simp; omega
    have h5 : (q == 5) = false := by simp; omega
    have HR := Lib.hid hr
    clear hr hq hcl hc
    go_enter Try.func42, Try.ntmps42
    go_wp2_with (go_at_call 50; refine HC.out.mono ?_; rintro e w' ⟨rfl, hw⟩; obtain rfl := hw.symm)
    go_ret
    exact ⟨retB HR.out.symm, rfl⟩
theorem range_newA (w : World) (cs : Array Value) (t : TypeId) {vs : List Value} (h : cs.toList = vs) : (w.alloc (.cells cs t)).rangeAt w.heap.size 0 vs := by
  intro j v hv
  rw [Nat.zero_add, cell_of_row _ _ _ _ _ _ (heap_alloc_new w _), ← hv, ← h, Array.getElem?_toList]
theorem Bs.from {w : World} {B n : Nat} {A : Option Addr} {l : List UInt8} (h : Bs w B A n l) (k : Nat) (hk : k ≤ n) : Bs w B (A.map (·.add k)) (n - k) (l.drop k) := by
  have := h.cut (lo := k) (hi := n) (c := k + n + 1) hk (Nat.le_refl _) (by omega) (A' := A.map (·.add k)) (by rw [if_neg (by omega)])
  rwa [List.take_of_length_le (by rw [h.len]; exact Nat.le_refl _)] at this
theorem Bs.fromIf {w : World} {B n c : Nat} {A : Option Addr} {l : List UInt8} (h : Bs w B A n l) (k : Nat) (hk : k ≤ n) (hc : n ≤ c) : Bs w B (if c = k then A else A.map (·.add k)) (n - k) (l.drop k) := by
  have := h.cut (lo := k) (hi := n) (c := c) hk (Nat.le_refl _) hc rfl
  rwa [List.take_of_length_le (by rw [h.len]; exact Nat.le_refl _)] at this
def bodyF (l : List UInt8) : List UInt8 × Int := if l.length = 0 then ([], 0) else if l.length = 1 then ([], 20) else if 1201 < l.length then ([], 2) else (l.drop 1, 0)
theorem WrRet.nil {w w' : World} {er : Int} (hb : Below w.heap.size w w') : WrRet ([], er) w (.returned (.tuple #[.slice none 0 0, .int .i64 er])) w' := ⟨none, 0, 0, rfl, ⟨Nat.le_refl _, Nat.zero_le _⟩, rfl, Bs.empty _ _ _, hb⟩
set_option maxHeartbeats 1000000 in
theorem readBody_f (A : Option Addr) (n c : Nat) (l : List UInt8) (w : World) (B : Nat) (hbs : Bs w B A n l) (hB : B ≤ w.heap.size) (hc : n ≤ c) (hcI : (c : Int) ≤ 9223372036854775807) :
    Calls Try.prog 44 #[.slice A n c] w (WrRet (bodyF l) w) := by
  have hl := hbs.len
  have hnc : (n : Int) ≤ c := by omega
  have fin : ∀ {er : Int}, bodyF l = ([], er) → WrRet (bodyF l) w (.returned (.tuple #[.slice none 0 0, .int .i64 er])) w := fun h => by rw [h]; exact WrRet.nil (Below.refl _ _)
  by_cases h0 : n = 0
  · subst h0
    have HF := Lib.hid (@fin 0 (by unfold bodyF; rw [if_pos hl]))
    clear hbs fin hl
    go_enter Try.func44, Try.ntmps44
    go_wp2
    go_ret2
    exact HF.out
  · by_cases h1 : n = 1
    · subst h1
      have HF := Lib.hid (@fin 20 (by unfold bodyF; rw [if_neg (by omega), if_pos hl]))
      clear hbs fin hl
      go_enter Try.func44, Try.ntmps44
      go_wp2
      all_goals
        go_ret2
        exact HF.out
    · have hn0 : ((n : Int) == 0) = false := by simp; omega
      have hn1 : (((n - 1 : Nat) : Int) == 0) = false := by simp; omega
      have hnI : (1 : Int) < n := by omega
      by_cases h2 : 1201 < n
      · have h2I : (1200 : Int) < ((n - 1 : Nat) : Int) := by omega
        have HF := Lib.hid (@fin 2 (by unfold bodyF; rw [if_neg (by omega), if_neg (by omega), if_pos (by omega)]))
        clear hbs fin hl
        go_enter Try.func44, Try.ntmps44
        go_wp2
        go_ret2
        exact HF.out
      · have h2I : ¬ (1200 : Int) < ((n - 1 : Nat) : Int) := by omega
        have hcl := bclone_f (A.map (·.add 1)) (n - 1) (c - 1) (l.drop 1) w B (hbs.from 1 (by omega)) hB (by omega)
        have hr : bodyF l = (l.drop 1, 0) := by unfold bodyF; rw [if_neg (by omega), if_neg (by omega), if_neg (by omega)]
        obtain ⟨D, hD⟩ : ∃ D, l.drop 1 = D := ⟨_, rfl⟩
        rw [hD] at hcl hr
        clear hD
        have HF := Lib.hid (And.intro hcl hr)
        clear hbs fin hl hcl hr
        go_enter Try.func44, Try.ntmps44
        go_wp2_with fail
        refine HF.out.1.mono ?_
        rintro e w1 ⟨u, rfl, ho, b1⟩
        obtain ⟨m, hm⟩ : ∃ m, D.length = m := ⟨_, rfl⟩
        rw [hm] at ho
        obtain ⟨A1, c1, rfl, hc1, hb1⟩ := own_bs ho
        have H1 := Lib.hid (And.intro ho (And.intro hc1 (And.intro hb1 (And.intro b1 hm))))
        clear ho hc1 hb1 b1 hm
        go_wp2
        go_ret2
        rw [HF.out.2]
        exact ⟨A1, _, c1, rfl, ⟨H1.out.2.1, row_cap H1.out.1⟩, H1.out.2.2.2.2.symm, H1.out.2.2.1, H1.out.2.2.2.1⟩
/-- Does it ask, does it answer? -/
def askB (c : Int) : Bool := decide (1 ≤ c ∧ c ≤ 31)
def ansB (c : Int) : Bool := decide ((64 ≤ c ∧ c ≤ 95) ∨ (128 ≤ c ∧ c ≤ 191))
section
variable (kd cd id : Int) (tA : Option Addr) (tn tc : Nat) (oA : Option Addr) (on oc : Nat) (bA : Option Addr) (bn bc : Nat) (w : World)
theorem request_f : Calls Try.prog 20 #[.agg #[.int .i64 kd, .int .i64 cd, .int .i64 id, .slice tA tn tc, .slice oA on oc, .slice bA bn bc]] w fun e w' => e = .returned (.bool (askB cd)) ∧ Below w.heap.size w w' := by
  obtain ⟨q, hq⟩ : ∃ q, cd / 32 = q := ⟨_, rfl⟩
  have hcl := fun W => class_f cd W
  rw [hq] at hcl
  have HC := Lib.hid hcl
  by_cases h0 : q = 0
  · subst h0
    have hr : askB cd = (cd != 0) := by
      unfold askB
      by_cases e : cd = 0
      · subst e; rfl
      · rw [decide_eq_true (by omega)]; symm; exact bne_iff_ne.2 e
    have HR := Lib.hid hr
    clear hr hq hcl
    go_enter Try.func20, Try.ntmps20
    go_wp2_with (go_at_call 50; refine (HC.out _).mono ?_; rintro e w' ⟨rfl, hw⟩; obtain rfl := hw.symm)
    go_ret
    exact ⟨retB HR.out.symm, (Below.refl _ _).alloc (Nat.le_refl _) _⟩
  · have hr : askB cd = false := by unfold askB; exact decide_eq_false (by omega)
    have hq0 : (q == 0) = false := by simpa using h0
    have HR := Lib.hid hr
    clear hr hq hcl h0
    go_enter Try.func20, Try.ntmps20
    go_wp2_with (go_at_call 50; refine (HC.out _).mono ?_; rintro e w' ⟨rfl, hw⟩; obtain rfl := hw.symm)
    go_ret
    exact ⟨retB HR.out.symm, (Below.refl _ _).alloc (Nat.le_refl _) _⟩
def rngB (kd cd id : Int) : Bool := decide (0 ≤ kd ∧ kd ≤ 3 ∧ ((0 ≤ cd ∧ cd ≤ 31) ∨ (64 ≤ cd ∧ cd ≤ 191)) ∧ 0 ≤ id ∧ id ≤ 65535)
theorem inRange_f : Calls Try.prog 39 #[.agg #[.int .i64 kd, .int .i64 cd, .int .i64 id, .slice tA tn tc, .slice oA on oc, .slice bA bn bc]] w fun e w' => e = .returned (.bool (rngB kd cd id)) ∧ Below w.heap.size w w' := by
  obtain ⟨q, hq⟩ : ∃ q, codeB cd = q := ⟨_, rfl⟩
  have hcl := fun W => isCode_f cd W
  rw [hq] at hcl
  have HC := Lib.hid hcl
  have hr : rngB kd cd id = (decide (0 ≤ kd) && decide (kd ≤ 3) && q && decide (0 ≤ id) && decide (id ≤ 65535)) := by
    unfold rngB
    rw [← hq]
    unfold codeB
    rw [Bool.eq_iff_iff]
    simp only [decide_eq_true_eq, Bool.and_eq_true]
    omega
  have HR := Lib.hid hr
  clear hr hq hcl
  by_cases h1 : 0 ≤ kd
  · by_cases h2 : kd ≤ 3
    · cases q with
      | true =>
        by_cases h3 : 0 ≤ id
        · go_enter Try.func39, Try.ntmps39
          go_wp2_with (go_at_call 42; refine (HC.out _).mono ?_; rintro e w' ⟨rfl, hw⟩; obtain rfl := hw.symm)
          go_ret
          exact ⟨retB (by rw [HR.out]; simp [h1, h2, h3]), (Below.refl _ _).alloc (Nat.le_refl _) _⟩
        · go_enter Try.func39, Try.ntmps39
          go_wp2_with (go_at_call 42; refine (HC.out _).mono ?_; rintro e w' ⟨rfl, hw⟩; obtain rfl := hw.symm)
          go_ret
          exact ⟨retB (by rw [HR.out]; simp; omega), (Below.refl _ _).alloc (Nat.le_refl _) _⟩
      | false =>
        go_enter Try.func39, Try.ntmps39
        go_wp2_with (go_at_call 42; refine (HC.out _).mono ?_; rintro e w' ⟨rfl, hw⟩; obtain rfl := hw.symm)
        go_ret
        exact ⟨retB (by rw [HR.out]; simp), (Below.refl _ _).alloc (Nat.le_refl _) _⟩
    · go_enter Try.func39, Try.ntmps39
      go_wp2
      go_ret
      exact ⟨retB (by rw [HR.out]; simp; omega), (Below.refl _ _).alloc (Nat.le_refl _) _⟩
  · go_enter Try.func39, Try.ntmps39
    go_wp2
    go_ret
    exact ⟨retB (by rw [HR.out]; simp; omega), (Below.refl _ _).alloc (Nat.le_refl _) _⟩
end
end Go.Proofs.Ytfbddldcbjhmiaa
