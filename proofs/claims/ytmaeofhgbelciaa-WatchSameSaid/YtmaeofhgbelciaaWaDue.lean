/-
  When a watch is due: the same values, changes that count.
-/
import Derived.Test.YtmaeofhgbelciaaWaFind
namespace Go.Proofs.Ytmaeofhgbelciaa
open Go.RowKit
set_option maxRecDepth 100000
set_option maxRecDepth 100000
set_option linter.unusedVariables false
def numK (k : Int) : Bool := decide (k = 1 ∨ k = 5 ∨ k = 2)
def vsame (a b : Vq) : Bool := (a.k == b.k) && ((a.n == b.n) && ((a.s.toList == b.s.toList) && (decide (a.b = b.b) && ((a.o == b.o) && (a.i == b.i)))))
def apartQ (a b : Int) : Int := min (max a b - min a b) 9223372036854775807
def countsQ (c : Cq) (a b : Vq) : Bool :=
  if (c.hg = false ∧ c.hl = false ∧ c.hs = false) ∨ numK a.k = false ∨ numK b.k = false then true
  else (c.hg && (decide (a.n > c.g) != decide (b.n > c.g))) || ((c.hl && (decide (a.n < c.l) != decide (b.n < c.l))) || (c.hs && decide (apartQ a.n b.n ≥ c.s)))
def dueQ (c : Cq) (u : Vq) (t : Int) (v : Vq) (now : Int) : Bool :=
  if now - t < 1 ∨ (c.ha = true ∧ now - t < c.a) then false
  else if c.hb = true ∧ c.b > 0 ∧ now - t ≥ c.b then true
  else !vsame u v && countsQ c u v
def In64 (n : Int) : Prop := -9223372036854775808 ≤ n ∧ n ≤ 9223372036854775807
theorem isnum_f (v : Vq) (A : Option Addr) (n c : Nat) (w : World) : Calls Try.prog 59 #[.agg (vvals v A n c).toArray] w fun e w' => e = .returned (.bool (numK v.k)) ∧ Below w.heap.size w w' := by
  obtain ⟨k, m, s, l, o, i⟩ := v
  dsimp only [vvals]
  have hb := Lib.hid (alloc_below w (.cells #[.int .i64 k, .int .i64 m, .string s, .slice A n c, .int .i64 o, .int .i64 i] 34))
  by_cases h1 : k = 1
  · have hq : numK k = true := decide_eq_true (.inl h1)
    rw [hq]
    have g1 : (k == 1) = true := beq_iff_eq.2 h1
    clear h1 hq
    go_enter Try.func59, Try.ntmps59
    go_wp2
    go_ret
    exact ⟨rfl, hb.out⟩
  have g1 : (k == 1) = false := beq_eq_false_iff_ne.2 h1
  by_cases h2 : k = 5
  · have hq : numK k = true := decide_eq_true (.inr (.inl h2))
    rw [hq]
    have g2 : (k == 5) = true := beq_iff_eq.2 h2
    clear h1 h2 hq
    go_enter Try.func59, Try.ntmps59
    go_wp2
    go_ret
    exact ⟨rfl, hb.out⟩
  have g2 : (k == 5) = false := beq_eq_false_iff_ne.2 h2
  by_cases h3 : k = 2
  · have hq : numK k = true := decide_eq_true (.inr (.inr h3))
    rw [hq]
    have g3 : (k == 2) = true := beq_iff_eq.2 h3
    clear h1 h2 h3 hq
    go_enter Try.func59, Try.ntmps59
    go_wp2
    go_ret
    exact ⟨rfl, hb.out⟩
  have g3 : (k == 2) = false := beq_eq_false_iff_ne.2 h3
  have hq : numK k = false := decide_eq_false (by omega)
  rw [hq]
  clear h1 h2 h3 hq
  go_enter Try.func59, Try.ntmps59
  go_wp2
  go_ret
  exact ⟨rfl, hb.out⟩
set_option maxHeartbeats 2000000 in
theorem vsame_f (a b : Vq) (A1 A2 : Option Addr) (n1 c1 n2 c2 : Nat) (w : World) (B1 B2 : Nat) (h1 : Bs w B1 A1 n1 a.b) (h2 : Bs w B2 A2 n2 b.b) (hB1 : B1 ≤ w.heap.size) (hB2 : B2 ≤ w.heap.size) :
    Calls Try.prog 51 #[.agg (vvals a A1 n1 c1).toArray, .agg (vvals b A2 n2 c2).toArray] w fun e w' => e = .returned (.bool (vsame a b)) ∧ Below w.heap.size w w' := by
  obtain ⟨k, m, s, l, o, i⟩ := a
  obtain ⟨k', m', s', l', o', i'⟩ := b
  dsimp only [vvals, vsame] at *
  obtain ⟨W, hW⟩ : ∃ W, (w.alloc (.cells #[.int .i64 k, .int .i64 m, .string s, .slice A1 n1 c1, .int .i64 o, .int .i64 i] 34)).alloc (.cells #[.int .i64 k', .int .i64 m', .string s', .slice A2 n2 c2, .int .i64 o', .int .i64 i'] 34) = W := ⟨_, rfl⟩
  have hb : Below w.heap.size w W := by rw [← hW]; exact (alloc_below w _).alloc (by rw [alloc_size]; omega) _
  have he := equal_any A1 A2 n1 c1 n2 c2 l l' W _ _ (h1.below' hb hB1) (h2.below' hb hB2)
  obtain ⟨x2, e2⟩ : ∃ x, (s.toList == s'.toList) = x := ⟨_, rfl⟩
  obtain ⟨x3, e3⟩ : ∃ x, decide (l = l') = x := ⟨_, rfl⟩
  rw [e3] at he
  rw [e2, e3]
  rw [← hW] at he hb
  have HH := Lib.hid (And.intro he hb)
  clear he hb h1 h2 hW e3
  by_cases f0 : k = k'
  · subst f0
    rw [show (k == k) = true from beq_self_eq_true _]
    by_cases f1 : m = m'
    · subst f1
      rw [show (m == m) = true from beq_self_eq_true _]
      cases x2 with
      | false =>
        go_enter Try.func51, Try.ntmps51
        go_wp2
        go_ret
        exact ⟨rfl, HH.out.2⟩
      | true =>
        cases x3 with
        | false =>
          go_enter Try.func51, Try.ntmps51
          go_wp2_with (go_at_call 56; refine HH.out.1.mono ?_; rintro e w' ⟨rfl, hw⟩; subst hw)
          go_ret
          exact ⟨(by first | rfl | simp), HH.out.2⟩
        | true =>
          by_cases f4 : o = o'
          · subst f4
            rw [show (o == o) = true from beq_self_eq_true _]
            by_cases f5 : i = i'
            · subst f5
              rw [show (i == i) = true from beq_self_eq_true _]
              go_enter Try.func51, Try.ntmps51
              go_wp2_with (go_at_call 56; refine HH.out.1.mono ?_; rintro e w' ⟨rfl, hw⟩; subst hw)
              go_ret
              exact ⟨(by first | rfl | simp), HH.out.2⟩
            · have e5 : (i == i') = false := beq_eq_false_iff_ne.2 f5
              rw [e5]
              clear f5
              go_enter Try.func51, Try.ntmps51
              go_wp2_with (go_at_call 56; refine HH.out.1.mono ?_; rintro e w' ⟨rfl, hw⟩; subst hw)
              go_ret
              exact ⟨(by first | rfl | simp), HH.out.2⟩
          · have e4 : (o == o') = false := beq_eq_false_iff_ne.2 f4
            rw [e4]
            clear f4
            go_enter Try.func51, Try.ntmps51
            go_wp2_with (go_at_call 56; refine HH.out.1.mono ?_; rintro e w' ⟨rfl, hw⟩; subst hw)
            go_ret
            exact ⟨(by first | rfl | simp), HH.out.2⟩
    · have e1 : (m == m') = false := beq_eq_false_iff_ne.2 f1
      rw [e1]
      clear f1
      go_enter Try.func51, Try.ntmps51
      go_wp2
      go_ret
      exact ⟨rfl, HH.out.2⟩
  · have e0 : (k == k') = false := beq_eq_false_iff_ne.2 f0
    rw [e0]
    clear f0
    go_enter Try.func51, Try.ntmps51
    go_wp2
    go_ret
    exact ⟨rfl, HH.out.2⟩
theorem apart_f (a b : Int) (w : World) (ha : In64 a) (hb : In64 b) : Calls Try.prog 60 #[.int .i64 a, .int .i64 b] w fun e w' => e = .returned (.int .i64 (apartQ a b)) ∧ w' = w := by
  have hq : wrap64 (min (IntKind.u64.wrap (IntKind.u64.wrap (max a b) - IntKind.u64.wrap (min a b))) 9223372036854775807) = apartQ a b := by
    unfold In64 at ha hb
    unfold apartQ
    rw [IntKind.wrap_u64, IntKind.wrap_u64, IntKind.wrap_u64]
    rw [show (max a b % 18446744073709551616 - min a b % 18446744073709551616) % 18446744073709551616 = max a b - min a b by omega]
    unfold wrap64; omega
  have HQ := Lib.hid hq
  clear hq ha hb
  go_enter Try.func60, Try.ntmps60
  go_wp2
  go_ret
  exact ⟨by rw [← HQ.out]; rfl, rfl⟩
end Go.Proofs.Ytmaeofhgbelciaa
