/-
  Are steps few, of few bytes?
-/
import Derived.Test.YtoagodgiaccadaaOps
import Derived.Test.YtoagodgiaccadaaMem
import Derived.Deep.MidRow
namespace Go.Proofs.Ytoagodgiaccadaa
open Go.RowKit
/-- A step as values. -/
def Opn.vals (s : Opn) : List Value := [.int .i64 s.k, .int .i64 s.a, .int .i64 s.b, .slice s.A s.n s.c]
theorem OpAt.range {w : World} {B b o : Nat} {s : Opn} (h : OpAt w B b o s) : w.rangeAt b o s.vals := by
  intro j v hj
  match j, hj with
  | 0, hj => obtain rfl := Option.some.inj hj; exact h.c0
  | 1, hj => obtain rfl := Option.some.inj hj; exact h.c1
  | 2, hj => obtain rfl := Option.some.inj hj; exact h.c2
  | 3, hj => obtain rfl := Option.some.inj hj; exact h.c3
theorem size44 : (Try.prog.info? 44).map (·.size) = some 4 := by kernel_rfl
theorem small4 (A : Option Addr) (m c : Nat) (os : List Opn) (w : World) (h : Ops w w.heap.size A m os) (hm : m ≤ maxLen) :
    Calls Try.prog 19 #[.slice A m c] w fun e w' => ∃ b, e = .returned (.bool b) ∧ Below w.heap.size w w' := by
  have hmi : (m : Int) ≤ 9223372036854775807 := by simp only [maxLen] at hm; omega
  have hlen := Lib.hid h.len
  clear hm
  go_enter Try.func19, Try.ntmps19
  go_wp2
  go_loopw [3, 8] (fun v i wr => ∃ k t : Nat, k ≤ m ∧ i = .int .i64 k ∧ v = .int .i64 t ∧ (t : Int) ≤ 3000 ∧ Below w.heap.size w wr) (fun _ i _ => m - (intOf i).toNat)
  case atStart => exact ⟨0, 0, by omega, rfl, rfl, by omega, Below.refl _ _⟩
  case round =>
    obtain ⟨k, t, hk, rfl, rfl, ht, B⟩ := hrel
    by_cases hlt : k < m
    · obtain ⟨b, off, rfl, hb, hc⟩ := h.place (by omega)
      obtain ⟨s, hs⟩ := op_get (os := os) (k := k) (by rw [hlen.out]; omega)
      have hop := (hc k s hs).keep hb (fun p hp => B.cell hp)
      have hcap := hop.cap
      have hmax := hop.max
      have hr := hop.range
      simp only [maxLen] at hmax
      clear hc hs hop
      by_cases hfit : (3000 : Int) - t < s.n
      · go_wp2_with (refine wpList_load_mid rfl 44 (.tmp 10) rfl b (off + k * 4) rfl [.int .i64 s.k, .int .i64 s.a, .int .i64 s.b, .slice s.A s.n s.c] _ hr Try.underlying44 rfl size44 ?_)
        go_ret
        exact ⟨false, rfl, B.alloc B.size _⟩
      · go_wp2_with (refine wpList_load_mid rfl 44 (.tmp 10) rfl b (off + k * 4) rfl [.int .i64 s.k, .int .i64 s.a, .int .i64 s.b, .slice s.A s.n s.c] _ hr Try.underlying44 rfl size44 ?_)
        go_roundw
        case rel => exact ⟨k + 1, t + s.n, by omega, by go_num, by go_num, by omega, B.alloc B.size _⟩
        case measure => simp [intOf]; omega
    · obtain rfl : k = m := by omega
      go_wp2
      go_ret
      exact ⟨_, rfl, B⟩
theorem size29 : (Try.prog.info? 29).map (·.size) = some 4 := by kernel_rfl
theorem small3 (A : Option Addr) (m c : Nat) (os : List Opn) (w : World) (h : Ops w w.heap.size A m os) (hm : m ≤ maxLen) :
    Calls Try.prog 10 #[.slice A m c] w fun e w' => ∃ b, e = .returned (.bool b) ∧ Below w.heap.size w w' ∧ (b = true → ∀ (i : Nat) (s : Opn), os[i]? = some s → (s.n : Int) ≤ 3000) := by
  have hmi : (m : Int) ≤ 9223372036854775807 := by simp only [maxLen] at hm; omega
  have hlen := Lib.hid h.len
  clear hm
  by_cases h30 : (30 : Int) < m
  · go_enter Try.func10, Try.ntmps10
    go_wp2
    go_ret
    exact ⟨_, rfl, Below.refl _ _, fun x => by cases x⟩
  go_enter Try.func10, Try.ntmps10
  go_wp2
  go_loopw [3, 11] (fun v i wr => ∃ k t : Nat, k ≤ m ∧ i = .int .i64 k ∧ v = .int .i64 t ∧ (t : Int) ≤ 3000 ∧ Below w.heap.size w wr ∧ Hid (∀ (i : Nat) (s : Opn), i < k → os[i]? = some s → (s.n : Int) ≤ 3000)) (fun _ i _ => m - (intOf i).toNat)
  case atStart => exact ⟨0, 0, by omega, rfl, rfl, by omega, Below.refl _ _, fun i s h => by omega⟩
  case round =>
    obtain ⟨k, t, hk, rfl, rfl, ht, B, H3⟩ := hrel
    by_cases hlt : k < m
    · obtain ⟨b, off, rfl, hb, hc⟩ := h.place (by omega)
      obtain ⟨s, hs⟩ := op_get (os := os) (k := k) (by rw [hlen.out]; omega)
      have hop := (hc k s hs).keep hb (fun p hp => B.cell hp)
      have hcap := hop.cap
      have hmax := hop.max
      have hr := hop.range
      simp only [maxLen] at hmax
      have HS := Lib.hid hs
      clear hc hs hop
      by_cases hfit : (3000 : Int) - t < s.n
      · go_wp2_with (refine wpList_load_mid rfl 29 (.tmp 13) rfl b (off + k * 4) rfl [.int .i64 s.k, .int .i64 s.a, .int .i64 s.b, .slice s.A s.n s.c] _ hr Try.underlying29 rfl size29 ?_)
        go_ret
        exact ⟨false, rfl, B.alloc B.size _, fun x => by cases x⟩
      · go_wp2_with (refine wpList_load_mid rfl 29 (.tmp 13) rfl b (off + k * 4) rfl [.int .i64 s.k, .int .i64 s.a, .int .i64 s.b, .slice s.A s.n s.c] _ hr Try.underlying29 rfl size29 ?_)
        go_roundw
        case rel => exact ⟨k + 1, t + s.n, by omega, by go_num, by go_num, by omega, B.alloc B.size _, fun i s' hi hs' => by
          by_cases hik : i = k
          · subst hik
            have := HS.out
            rw [hs'] at this
            obtain rfl := Option.some.inj this
            omega
          · exact H3.out i s' (by omega) hs'⟩
        case measure => simp [intOf]; omega
    · obtain rfl : k = m := by omega
      go_wp2
      go_ret
      exact ⟨_, rfl, B, fun _ i s hs => H3.out i s (by have := (List.getElem?_eq_some_iff.1 hs).1; have := hlen.out; omega) hs⟩
end Go.Proofs.Ytoagodgiaccadaa
