/-
  What stands ahead of an option's value.
-/
import Derived.Test.YtfbddldcbjhmiaaOptAll
namespace Go.Proofs.Ytfbddldcbjhmiaa
open Go.RowKit
set_option maxRecDepth 100000
set_option linter.unusedVariables false
/-- The number of four bits and of the bytes that follow for it, and how many these are. -/
def jn (f : Nat) (l : List UInt8) : Option (Nat × Nat) :=
  if f < 13 then some (f, 0) else if f = 13 then (match l with | a :: _ => some (13 + a.toNat, 1) | _ => none) else if f = 14 then (match l with | a :: b :: _ => some (269 + a.toNat * 256 + b.toNat, 2) | _ => none) else none
theorem jn_le {f : Nat} {l : List UInt8} {v k : Nat} (h : jn f l = some (v, k)) : v ≤ 65804 ∧ k ≤ l.length := by
  unfold jn at h
  split at h
  · injection h with h; injection h with h1 h2; subst h1 h2; exact ⟨by omega, by omega⟩
  · split at h
    · cases l with
      | nil => cases h
      | cons a r => injection h with h; injection h with h1 h2; subst h1 h2; have := a.toNat_lt; exact ⟨by omega, by simp⟩
    · split at h
      · match l, h with
        | a :: b :: r, h => injection h with h; injection h with h1 h2; subst h1 h2; have := a.toNat_lt; have := b.toNat_lt; exact ⟨by omega, by simp⟩
      · cases h
def JoinPost (f : Nat) (c n : Nat) (l : List UInt8) (w : World) (B : Nat) (e : Ending) (w' : World) : Prop :=
  (∃ m, w' = w.drewN m) ∧ match jn f l with
    | some (v, k) => ∃ A', e = .returned (.tuple #[.int .i64 (v : Int), .slice A' (n - k) (c - k), .bool true]) ∧ Bs w' B A' (n - k) (l.drop k)
    | none => e = .returned (.tuple #[.int .i64 0, .slice none 0 0, .bool false])
theorem int_eq {k : IntKind} {a b : Int} (h : a = b) : Value.int k a = Value.int k b := by rw [h]
theorem ret_3 {a b c a' : Value} (h : a = a') : Ending.returned (.tuple #[a, b, c]) = .returned (.tuple #[a', b, c]) := by rw [h]
set_option maxHeartbeats 4000000 in
theorem join_f (f : Nat) (hf : f < 16) (A : Option Addr) (n c : Nat) (l : List UInt8) (w : World) (B : Nat) (hbs : Bs w B A n l) (hc : n ≤ c) (hcI : (c : Int) ≤ 9223372036854775807) :
    Calls Try.prog 88 #[.int .u8 (f : Int), .slice A n c] w (JoinPost f c n l w B) := by
  have hln := hbs.len
  have hncI : (n : Int) ≤ c := by omega
  by_cases h13 : f < 13
  · have hj : jn f l = some (f, 0) := by unfold jn; rw [if_pos h13]
    have HB := Lib.hid (And.intro hbs hj)
    have hfI : (f : Int) < 13 := by omega
    clear hbs hj hln
    go_enter Try.func88, Try.ntmps88
    go_wp2
    go_ret3
    refine ⟨⟨0, rfl⟩, ?_⟩
    rw [HB.out.2]
    exact ⟨A, rfl, HB.out.1⟩
  · by_cases e13 : f = 13
    · subst e13
      cases l with
      | nil =>
        have hn0 : n = 0 := by simpa using hln.symm
        subst hn0
        have hj : jn 13 [] = none := rfl
        have HB := Lib.hid hj
        clear hbs hj hln
        go_enter Try.func88, Try.ntmps88
        go_wp2
        go_ret3
        refine ⟨⟨0, rfl⟩, ?_⟩
        rw [HB.out]
        exact rfl
      | cons u r =>
        have hn1 : 1 ≤ n := by rw [← hln]; simp
        have hn1I : (1 : Int) ≤ n := by omega
        have hj : jn 13 (u :: r) = some (13 + u.toNat, 1) := rfl
        obtain ⟨b, off, rfl, hb, hcell⟩ := hbs.place (by omega)
        have c0 : w.cell? ⟨b, off, none⟩ = some (.int .u8 (u.toNat : Int)) := hcell 0 u rfl
        have hu := byte_lt u
        have hu0 : (0 : Int) ≤ (u.toNat : Int) := by omega
        obtain ⟨x, hx⟩ : ∃ x : Int, (u.toNat : Int) = x := ⟨_, rfl⟩
        rw [hx] at c0 hu hu0
        have HB := Lib.hid (And.intro hbs (And.intro hj hx))
        have hw1 : IntKind.i64.wrap (13 + x) = 13 + x := IntWalk.i64_in _ (by omega)
        have hcut := fun (A' : Option Addr) (hA : A' = if c = 1 then some ⟨b, off, none⟩ else (some ⟨b, off, none⟩ : Option Addr).map (·.add 1)) => hbs.cut (lo := 1) (hi := n) (c := c) hn1 (Nat.le_refl _) hc hA
        have HC := Lib.hid hcut
        clear hbs hj hln hcell hx hcut
        by_cases hc1 : c = 1
        · have hn11 : n = 1 := by omega
          subst hc1 hn11
          go_enter Try.func88, Try.ntmps88
          go_wp2
          go_quiet (fail)
          go_wp2
          go_ret3
          refine ⟨⟨_, rfl⟩, ?_⟩
          rw [HB.out.2.1]
          refine ⟨_, ret_3 (int_eq (by have := HB.out.2.2; omega)), ?_⟩
          have := HC.out _ rfl
          rw [List.take_of_length_le (by rw [HB.out.1.len]; exact Nat.le_refl _)] at this
          simp only [if_true] at this
          exact this.drewN _
        · go_enter Try.func88, Try.ntmps88
          go_wp2
          go_quiet (fail)
          go_wp2
          go_ret3
          refine ⟨⟨_, rfl⟩, ?_⟩
          rw [HB.out.2.1]
          refine ⟨_, ret_3 (int_eq (by have := HB.out.2.2; omega)), ?_⟩
          have := HC.out _ rfl
          rw [List.take_of_length_le (by rw [HB.out.1.len]; exact Nat.le_refl _), if_neg hc1] at this
          exact this.drewN _
    · have hne : ((f : Int) == 13) = false := beq_eq_false_iff_ne.2 (by omega)
      by_cases e14 : f = 14
      · subst e14
        match l, hbs, hln with
        | [], hbs, hln =>
          have hn0 : n = 0 := by simpa using hln.symm
          subst hn0
          have hj : jn 14 [] = none := rfl
          have HB := Lib.hid hj
          clear hbs hj hln
          go_enter Try.func88, Try.ntmps88
          go_wp2
          go_ret3
          refine ⟨⟨0, rfl⟩, ?_⟩
          rw [HB.out]
          exact rfl
        | [u], hbs, hln =>
          have hn0 : n = 1 := by simpa using hln.symm
          subst hn0
          have hj : jn 14 [u] = none := rfl
          have HB := Lib.hid hj
          clear hbs hj hln
          go_enter Try.func88, Try.ntmps88
          go_wp2
          go_ret3
          refine ⟨⟨0, rfl⟩, ?_⟩
          rw [HB.out]
          exact rfl
        | u :: v :: r, hbs, hln =>
          have hn1 : 2 ≤ n := by rw [← hln]; simp
          have hn1I : (2 : Int) ≤ n := by omega
          have hj : jn 14 (u :: v :: r) = some (269 + u.toNat * 256 + v.toNat, 2) := rfl
          obtain ⟨b, off, rfl, hb, hcell⟩ := hbs.place (by omega)
          have c0 : w.cell? ⟨b, off, none⟩ = some (.int .u8 (u.toNat : Int)) := hcell 0 u rfl
          have c1 : w.cell? ⟨b, off + 1, none⟩ = some (.int .u8 (v.toNat : Int)) := hcell 1 v rfl
          have hu := byte_lt u
          have hu0 : (0 : Int) ≤ (u.toNat : Int) := by omega
          have hv := byte_lt v
          have hv0 : (0 : Int) ≤ (v.toNat : Int) := by omega
          obtain ⟨x, hx⟩ : ∃ x : Int, (u.toNat : Int) = x := ⟨_, rfl⟩
          obtain ⟨y, hy⟩ : ∃ y : Int, (v.toNat : Int) = y := ⟨_, rfl⟩
          rw [hx] at c0 hu hu0
          rw [hy] at c1 hv hv0
          have HB := Lib.hid (And.intro hbs (And.intro hj (And.intro hx hy)))
          have hw0 : IntKind.i64.wrap (x * 256) = x * 256 := IntWalk.i64_in _ (by omega)
          have hw1 : IntKind.i64.wrap (269 + x * 256) = 269 + x * 256 := IntWalk.i64_in _ (by omega)
          have hw2 : IntKind.i64.wrap (269 + x * 256 + y) = 269 + x * 256 + y := IntWalk.i64_in _ (by omega)
          have hcut := fun (A' : Option Addr) (hA : A' = if c = 2 then some ⟨b, off, none⟩ else (some ⟨b, off, none⟩ : Option Addr).map (·.add 2)) => hbs.cut (lo := 2) (hi := n) (c := c) hn1 (Nat.le_refl _) hc hA
          have HC := Lib.hid hcut
          clear hbs hj hln hcell hx hy hcut
          by_cases hc1 : c = 2
          · have hn11 : n = 2 := by omega
            subst hc1 hn11
            go_enter Try.func88, Try.ntmps88
            go_wp2
            go_quiet (fail)
            go_wp2
            go_ret3
            refine ⟨⟨_, rfl⟩, ?_⟩
            rw [HB.out.2.1]
            refine ⟨_, ret_3 (int_eq (by have := HB.out.2.2.1; have := HB.out.2.2.2; omega)), ?_⟩
            have := HC.out _ rfl
            rw [List.take_of_length_le (by rw [HB.out.1.len]; exact Nat.le_refl _)] at this
            simp only [if_true] at this
            exact this.drewN _
          · go_enter Try.func88, Try.ntmps88
            go_wp2
            go_quiet (fail)
            go_wp2
            go_ret3
            refine ⟨⟨_, rfl⟩, ?_⟩
            rw [HB.out.2.1]
            refine ⟨_, ret_3 (int_eq (by have := HB.out.2.2.1; have := HB.out.2.2.2; omega)), ?_⟩
            have := HC.out _ rfl
            rw [List.take_of_length_le (by rw [HB.out.1.len]; exact Nat.le_refl _), if_neg hc1] at this
            exact this.drewN _
      · have hne2 : ((f : Int) == 14) = false := beq_eq_false_iff_ne.2 (by omega)
        have hj : jn f l = none := by unfold jn; rw [if_neg h13, if_neg e13, if_neg e14]
        have hfI : (13 : Int) ≤ f := by omega
        have HB := Lib.hid hj
        clear hbs hj hln
        go_enter Try.func88, Try.ntmps88
        go_wp2
        go_ret3
        refine ⟨⟨0, rfl⟩, ?_⟩
        rw [HB.out]
        exact rfl
end Go.Proofs.Ytfbddldcbjhmiaa
