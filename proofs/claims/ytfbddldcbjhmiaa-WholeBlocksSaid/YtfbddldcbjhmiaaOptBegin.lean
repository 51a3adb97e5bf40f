/-
  What stands ahead of an option's value: its delta, its length.
-/
import Derived.Test.YtfbddldcbjhmiaaOptJoin
namespace Go.Proofs.Ytfbddldcbjhmiaa
open Go.RowKit
set_option maxRecDepth 100000
set_option linter.unusedVariables false
theorem results_tmp4 {fn : Func} {t u v x : Tmp} (h : fn.results = #[.tmp t, .tmp u, .tmp v, .tmp x]) (tmps : Array Value) (P : Program) (w : World) :
    (results fn tmps).run P w = .ok (.tuple #[tmps.getD t undef, tmps.getD u undef, tmps.getD v undef, tmps.getD x undef]) w := by
  simp [results, h]
/-- The delta, the length, and how many bytes tell them. -/
def bg : List UInt8 → Option (Nat × Nat × Nat)
  | [] => none
  | x :: r => match jn (x.toNat / 16) r with
    | none => none
    | some (d, k) => match jn (x.toNat % 16) (r.drop k) with
      | none => none
      | some (s, k2) => some (d, s, 1 + k + k2)
theorem bg_le {l : List UInt8} {d s k : Nat} (h : bg l = some (d, s, k)) : d ≤ 65804 ∧ s ≤ 65804 ∧ 1 ≤ k ∧ k ≤ l.length := by
  cases l with
  | nil => cases h
  | cons x r =>
    simp only [bg] at h
    cases h1 : jn (x.toNat / 16) r with
    | none => rw [h1] at h; cases h
    | some p =>
      obtain ⟨d', k'⟩ := p
      rw [h1] at h
      simp only at h
      cases h2 : jn (x.toNat % 16) (r.drop k') with
      | none => rw [h2] at h; cases h
      | some p =>
        obtain ⟨s', k2⟩ := p
        rw [h2] at h
        simp only at h
        injection h with h
        injection h with e1 h
        injection h with e2 e3
        subst e1 e2 e3
        have j1 := jn_le h1
        have j2 := jn_le h2
        rw [List.length_drop] at j2
        rw [List.length_cons]
        omega
theorem and15 : ∀ a : Nat, a < 256 → bits .and .u8 (a : Int) 15 = ((a % 16 : Nat) : Int) := by decide +kernel
def BeginPost (l : List UInt8) (w : World) (e : Ending) (w' : World) : Prop :=
  (∃ m, w' = w.drewN m) ∧ match bg l with
    | some (d, s, k) => e = .returned (.tuple #[.int .i64 (d : Int), .int .i64 (s : Int), .int .i64 (k : Int), .bool true])
    | none => ∃ d s k : Nat, e = .returned (.tuple #[.int .i64 (d : Int), .int .i64 (s : Int), .int .i64 (k : Int), .bool false]) ∧ d ≤ 65804 ∧ k ≤ l.length
theorem ret_4 {a b c d c' : Value} (h : c = c') : Ending.returned (.tuple #[a, b, c, d]) = .returned (.tuple #[a, b, c', d]) := by rw [h]
set_option maxHeartbeats 4000000 in
theorem begin_f (b off n c : Nat) (x : UInt8) (r : List UInt8) (w : World) (B : Nat) (hbs : Bs w B (some ⟨b, off, none⟩) n (x :: r)) (hc : n ≤ c) (hcI : (c : Int) ≤ 9223372036854775807) :
    Calls Try.prog 74 #[.slice (some ⟨b, off, none⟩) n c] w (BeginPost (x :: r) w) := by
  have hln := hbs.len
  rw [List.length_cons] at hln
  have hn1I : (1 : Int) ≤ n := by omega
  have hncI : (n : Int) ≤ c := by omega
  obtain ⟨b', off', e0, _, hcell⟩ := hbs.place (by omega)
  injection e0 with e0
  injection e0 with e1 e2
  subst e1 e2
  have c0 : ∀ m, (w.drewN m).cell? ⟨b, off, none⟩ = some (.int .u8 (x.toNat : Int)) := fun m => hcell 0 x rfl
  have c0w : w.cell? ⟨b, off, none⟩ = some (.int .u8 (x.toNat : Int)) := c0 0
  have hx := x.toNat_lt
  have hdiv : (x.toNat : Int) / 16 = ((x.toNat / 16 : Nat) : Int) := by omega
  have hand := and15 x.toNat (by omega)
  have hcut := fun (A' : Option Addr) (hA : A' = if c = 1 then some ⟨b, off, none⟩ else (some ⟨b, off, none⟩ : Option Addr).map (·.add 1)) => hbs.cut (lo := 1) (hi := n) (c := c) (by omega) (Nat.le_refl _) hc hA
  rw [List.take_of_length_le (by rw [List.length_cons]; omega)] at hcut
  obtain ⟨A1, hA1, hsp⟩ : ∃ A1 : Option Addr, Bs w B A1 (n - 1) r ∧ (c = 1 ∧ A1 = some ⟨b, off, none⟩ ∨ ¬ c = 1 ∧ A1 = some ⟨b, off + 1, none⟩) := by
    by_cases h1 : c = 1
    · exact ⟨_, by have := hcut _ rfl; rw [if_pos h1] at this; exact this, .inl ⟨h1, rfl⟩⟩
    · exact ⟨_, by have := hcut _ rfl; rw [if_neg h1] at this; exact this, .inr ⟨h1, by simp [Addr.add]⟩⟩
  obtain ⟨f1, hf1⟩ : ∃ f, x.toNat / 16 = f := ⟨_, rfl⟩
  obtain ⟨f2, hf2⟩ : ∃ f, x.toNat % 16 = f := ⟨_, rfl⟩
  have hbg : bg (x :: r) = match jn f1 r with
    | none => none
    | some (d, k) => match jn f2 (r.drop k) with
      | none => none
      | some (s, k2) => some (d, s, 1 + k + k2) := by rw [← hf1, ← hf2]; rfl
  have hj1 := join_f f1 (by omega) A1 (n - 1) (c - 1) r w B hA1 (by omega) (by omega)
  have hj2 := fun (m k : Nat) (A' : Option Addr) (h : Bs (w.drewN m) B A' (n - 1 - k) (r.drop k)) => join_f f2 (by omega) A' (n - 1 - k) (c - 1 - k) (r.drop k) (w.drewN m) B h (by omega) (by omega)
  rw [hf1] at hdiv
  rw [hf2] at hand
  obtain ⟨xx, hxx⟩ : ∃ xx : Int, (x.toNat : Int) = xx := ⟨_, rfl⟩
  rw [hxx] at c0w hand hdiv
  have hxb : xx < 256 := by omega
  have hx0 : 0 ≤ xx := by omega
  rw [hxx] at c0
  have HH : Aside _ := And.intro hbg (And.intro hln (And.intro hj2 c0))
  clear hbs hcell hcut hA1 hf1 hf2 hbg hj2 hln hxx c0 hx
  rcases hsp with ⟨hc1, rfl⟩ | ⟨hc1, rfl⟩
  · have hn11 : n = 1 := by omega
    subst hc1 hn11
    have HJ : Aside (∀ (m k : Nat) (A' : Option Addr), Bs (w.drewN m) B A' (0 - k) (r.drop k) → Calls Try.prog 88 #[.int .u8 (f2 : Int), .slice A' 0 0] (w.drewN m) (JoinPost f2 0 0 (r.drop k) (w.drewN m) B)) := fun m k A' h => by
      have := HH.out.2.2.1 m k A' h
      rw [Nat.sub_self, Nat.zero_sub] at this
      exact this
    rw [Nat.sub_self] at hj1
    go_enter Try.func74, Try.ntmps74
    go_wp2_with fail
    with_reducible refine hj1.mono ?_
    rintro e w1 ⟨⟨m1, rfl⟩, h1⟩
    cases hq1 : jn f1 r with
    | none =>
      rw [hq1] at h1
      simp only at h1
      subst h1
      have HQ := Lib.hid hq1
      clear hq1 hj1
      go_wp2
      refine bodyPost_ret (results_tmp4 rfl _ _ _) rfl ?_
      refine ⟨⟨m1, rfl⟩, ?_⟩
      rw [HH.out.1, HQ.out]
      exact ⟨0, 0, 0, rfl, by omega, Nat.zero_le _⟩
    | some p =>
      obtain ⟨d, k⟩ := p
      rw [hq1] at h1
      simp only at h1
      obtain ⟨A', rfl, hA'⟩ := h1
      have hj2 := HJ.out m1 k A' hA'
      have hle := jn_le hq1
      have c0' := HH.out.2.2.2 m1
      have HQ := Lib.hid (And.intro hq1 hle)
      clear hq1 hj1 hA' hle
      go_wp2_with fail
      with_reducible refine hj2.mono ?_
      rintro e w2 ⟨⟨m2, rfl⟩, h2⟩
      cases hq2 : jn f2 (r.drop k) with
      | none =>
        rw [hq2] at h2
        simp only at h2
        subst h2
        have HQ2 := Lib.hid hq2
        clear hq2 hj2
        have hkk : k ≤ r.length := HQ.out.2.2
        go_wp2
        refine bodyPost_ret (results_tmp4 rfl _ _ _) rfl ?_
        refine ⟨⟨_, rfl⟩, ?_⟩
        rw [HH.out.1, HQ.out.1]
        simp only
        rw [HQ2.out]
        exact ⟨d, 0, 1, ret_4 (int_eq (by first | rfl | (simp) | omega)), HQ.out.2.1, by rw [List.length_cons]; omega⟩
      | some p =>
        obtain ⟨s, k2⟩ := p
        rw [hq2] at h2
        simp only at h2
        obtain ⟨A2, rfl, hA2⟩ := h2
        have hle2 := jn_le hq2
        rw [List.length_drop] at hle2
        have HQ2 := Lib.hid (And.intro hq2 hle2)
        clear hq2 hj2 hA2 hle2
        go_wp2
        refine bodyPost_ret (results_tmp4 rfl _ _ _) rfl ?_
        refine ⟨⟨_, rfl⟩, ?_⟩
        rw [HH.out.1, HQ.out.1]
        simp only
        rw [HQ2.out.1]
        exact ret_4 (int_eq (by have := HH.out.2.1; have := HQ.out.2.2; have := HQ2.out.2.2; omega))
  · have HJ : Aside _ := HH.out.2.2.1
    go_enter Try.func74, Try.ntmps74
    go_wp2_with fail
    with_reducible refine hj1.mono ?_
    rintro e w1 ⟨⟨m1, rfl⟩, h1⟩
    cases hq1 : jn f1 r with
    | none =>
      rw [hq1] at h1
      simp only at h1
      subst h1
      have HQ := Lib.hid hq1
      clear hq1 hj1
      go_wp2
      refine bodyPost_ret (results_tmp4 rfl _ _ _) rfl ?_
      refine ⟨⟨m1, rfl⟩, ?_⟩
      rw [HH.out.1, HQ.out]
      exact ⟨0, 0, 0, rfl, by omega, Nat.zero_le _⟩
    | some p =>
      obtain ⟨d, k⟩ := p
      rw [hq1] at h1
      simp only at h1
      obtain ⟨A', rfl, hA'⟩ := h1
      have hj2 := HJ.out m1 k A' hA'
      have hle := jn_le hq1
      have c0' := HH.out.2.2.2 m1
      have HQ := Lib.hid (And.intro hq1 hle)
      clear hq1 hj1 hA' hle
      go_wp2_with fail
      with_reducible refine hj2.mono ?_
      rintro e w2 ⟨⟨m2, rfl⟩, h2⟩
      cases hq2 : jn f2 (r.drop k) with
      | none =>
        rw [hq2] at h2
        simp only at h2
        subst h2
        have HQ2 := Lib.hid hq2
        clear hq2 hj2
        have hkk : k ≤ r.length := HQ.out.2.2
        go_wp2
        refine bodyPost_ret (results_tmp4 rfl _ _ _) rfl ?_
        refine ⟨⟨_, rfl⟩, ?_⟩
        rw [HH.out.1, HQ.out.1]
        simp only
        rw [HQ2.out]
        exact ⟨d, 0, n, ret_4 (int_eq (by first | rfl | (simp) | omega)), HQ.out.2.1, by have := HH.out.2.1; rw [List.length_cons]; omega⟩
      | some p =>
        obtain ⟨s, k2⟩ := p
        rw [hq2] at h2
        simp only at h2
        obtain ⟨A2, rfl, hA2⟩ := h2
        have hle2 := jn_le hq2
        rw [List.length_drop] at hle2
        have HQ2 := Lib.hid (And.intro hq2 hle2)
        clear hq2 hj2 hA2 hle2
        go_wp2
        refine bodyPost_ret (results_tmp4 rfl _ _ _) rfl ?_
        refine ⟨⟨_, rfl⟩, ?_⟩
        rw [HH.out.1, HQ.out.1]
        simp only
        rw [HQ2.out.1]
        exact ret_4 (int_eq (by have := HH.out.2.1; have := HQ.out.2.2; have := HQ2.out.2.2; omega))
end Go.Proofs.Ytfbddldcbjhmiaa
