/-
  What may follow a pair, at once and at last: the closures, the rows searched, the states that can be come to.
-/
import Derived.Test.YtcaipmljlhjlcaaDoorFsNext
namespace Go.Proofs.YtcaipmljlhjlcaaDoor
open Go.RowKit
set_option maxRecDepth 100000
set_option linter.unusedVariables false
set_option linter.unusedSimpArgs false
def mayP (x y z : Int) (s : Ed) : Bool := s.fr == x && (s.to == y && s.rs == z)
theorem may1_f (b1 b2 b3 : Nat) (x y z : Int) (s : Ed) (w : World) (h1 : w.cell? ⟨b1, 0, none⟩ = some (.int .i64 x)) (h2 : w.cell? ⟨b2, 0, none⟩ = some (.int .i64 y)) (h3 : w.cell? ⟨b3, 0, none⟩ = some (.int .i64 z)) :
    Calls Tryd.prog 20 #[.agg s.vals.toArray, .pointer (some ⟨b1, 0, none⟩), .pointer (some ⟨b2, 0, none⟩), .pointer (some ⟨b3, 0, none⟩)] w fun e w' => e = .returned (.bool (mayP x y z s)) ∧ Below w.heap.size w w' := by
  obtain ⟨e1, e2, e3, e4⟩ := s
  dsimp only [Ed.vals, mayP]
  have l1 := World.block_lt_of_cell? w ⟨b1, 0, none⟩ h1
  have l2 := World.block_lt_of_cell? w ⟨b2, 0, none⟩ h2
  have l3 := World.block_lt_of_cell? w ⟨b3, 0, none⟩ h3
  have hb := Lib.hid (alloc_below w (.cells #[.int .i64 e1, .int .i64 e2, .int .i64 e3, .int .i64 e4] 24))
  by_cases c1 : e2 = x
  · have q1 : (e2 == x) = true := beq_iff_eq.2 c1
    by_cases c2 : e3 = y
    · have q2 : (e3 == y) = true := beq_iff_eq.2 c2
      rw [q1, q2, Bool.true_and, Bool.true_and]
      go_enter Tryd.func20, Tryd.ntmps20
      go_wp2
      go_ret
      exact ⟨rfl, alloc_below w _⟩
    · have q2 : (e3 == y) = false := beq_eq_false_iff_ne.2 c2
      rw [q1, q2, Bool.true_and, Bool.false_and]
      go_enter Tryd.func20, Tryd.ntmps20
      go_wp2
      go_ret
      exact ⟨rfl, alloc_below w _⟩
  · have q1 : (e2 == x) = false := beq_eq_false_iff_ne.2 c1
    rw [q1, Bool.false_and]
    go_enter Tryd.func20, Tryd.ntmps20
    go_wp2
    go_ret
    exact ⟨rfl, alloc_below w _⟩
def pathP (m : List Bool) (y z : Int) (s : Ed) : Bool := m.getD s.fr.toNat false && (s.to == y && s.rs == z)
theorem path1_f (b1 b2 b3 : Nat) (m : List Bool) (y z : Int) (s : Ed) (w : World) (hm : m.length = 4) (h1 : w.rangeAt b1 0 (m.map Value.bool)) (h2 : w.cell? ⟨b2, 0, none⟩ = some (.int .i64 y)) (h3 : w.cell? ⟨b3, 0, none⟩ = some (.int .i64 z)) (hs : 0 ≤ s.fr ∧ s.fr < 4) :
    Calls Tryd.prog 23 #[.agg s.vals.toArray, .pointer (some ⟨b1, 0, none⟩), .pointer (some ⟨b2, 0, none⟩), .pointer (some ⟨b3, 0, none⟩)] w fun e w' => e = .returned (.bool (pathP m y z s)) ∧ Below w.heap.size w w' := by
  obtain ⟨e1, e2, e3, e4⟩ := s
  dsimp only at hs
  obtain ⟨n, rfl⟩ : ∃ n : Nat, e2 = n := ⟨e2.toNat, by omega⟩
  have hn : n < 4 := by omega
  have hn1 : (n : Int) < 4 := hs.2
  obtain ⟨q, hq⟩ : ∃ q, m[n]? = some q := ⟨_, List.getElem?_eq_getElem (by omega)⟩
  have hc1 : w.cell? ⟨b1, n, none⟩ = some (.bool q) := by
    have := h1 n (.bool q) (by rw [List.getElem?_map, hq]; rfl)
    rw [Nat.zero_add] at this; exact this
  have hgd : m.getD n false = q := by rw [List.getD_eq_getElem?_getD, hq]; rfl
  dsimp only [Ed.vals, pathP]
  rw [Int.toNat_natCast, hgd]
  have l1 := World.block_lt_of_cell? w ⟨b1, n, none⟩ hc1
  have l2 := World.block_lt_of_cell? w ⟨b2, 0, none⟩ h2
  have l3 := World.block_lt_of_cell? w ⟨b3, 0, none⟩ h3
  have hb := Lib.hid (alloc_below w (.cells #[.int .i64 e1, .int .i64 n, .int .i64 e3, .int .i64 e4] 24))
  clear h1 hgd hq hs hm
  cases q
  · rw [Bool.false_and]
    go_enter Tryd.func23, Tryd.ntmps23
    go_wp2
    go_ret
    exact ⟨rfl, alloc_below w _⟩
  · by_cases c2 : e3 = y
    · have q2 : (e3 == y) = true := beq_iff_eq.2 c2
      rw [q2, Bool.true_and, Bool.true_and]
      go_enter Tryd.func23, Tryd.ntmps23
      go_wp2
      go_ret
      exact ⟨rfl, alloc_below w _⟩
    · have q2 : (e3 == y) = false := beq_eq_false_iff_ne.2 c2
      rw [q2, Bool.true_and, Bool.false_and]
      go_enter Tryd.func23, Tryd.ntmps23
      go_wp2
      go_ret
      exact ⟨rfl, alloc_below w _⟩
/-- The first place at which a predicate holds, or -1. -/
def idxE (p : Ed → Bool) (vs : List Ed) : Int := match vs.findIdx? p with | some i => (i : Int) | none => -1
theorem idxE_hit {p : Ed → Bool} {vs : List Ed} {k : Nat} {s : Ed} (h : ∀ (j : Nat) (t : Ed), j < k → vs[j]? = some t → p t = false) (hs : vs[k]? = some s) (hp : p s = true) : idxE p vs = k := by
  have : vs.findIdx? p = some k := by
    rw [List.findIdx?_eq_some_iff_getElem]
    obtain ⟨hk, rfl⟩ := List.getElem?_eq_some_iff.1 hs
    exact ⟨hk, hp, fun j hj => by rw [h j _ hj (List.getElem?_eq_getElem (by omega))]; simp⟩
  unfold idxE; rw [this]
theorem idxE_miss {p : Ed → Bool} {vs : List Ed} (h : ∀ (j : Nat) (t : Ed), j < vs.length → vs[j]? = some t → p t = false) : idxE p vs = -1 := by
  have : vs.findIdx? p = none := by
    rw [List.findIdx?_eq_none_iff]
    intro x hx
    obtain ⟨j, hj⟩ := List.mem_iff_getElem?.1 hx
    exact h j x (List.getElem?_eq_some_iff.1 hj).1 hj
  unfold idxE; rw [this]
theorem idxE_any (p : Ed → Bool) (vs : List Ed) : decide (0 ≤ idxE p vs) = vs.any p := by
  unfold idxE
  cases h : vs.findIdx? p with
  | none =>
    rw [List.findIdx?_eq_none_iff] at h
    have e : vs.any p = false := by rw [List.any_eq_false]; intro x hx; rw [h x hx]; decide
    rw [e]; rfl
  | some i =>
    rw [List.findIdx?_eq_some_iff_getElem] at h
    obtain ⟨hi, hp, _⟩ := h
    have e : vs.any p = true := List.any_eq_true.2 ⟨_, List.getElem_mem hi, hp⟩
    rw [e]
    exact decide_eq_true (by dsimp only; omega)
theorem ret_ie {a b : Int} (h : a = b) : Ending.returned (.int .i64 a) = .returned (.int .i64 b) := by rw [h]
set_option maxHeartbeats 4000000 in
theorem indexE_f (g : Nat) (lb : Array Value) (p : Ed → Bool) (eg : FnE g) (A : Option Addr) (n c : Nat) (vs : List Ed) (w : World) (hsh : edK.At w w.heap.size A n vs) (hn : (n : Int) ≤ 9223372036854775807)
    (hp : ∀ (W : World) (s : Ed), Below w.heap.size w W → s ∈ vs → Calls Tryd.prog g (#[.agg s.vals.toArray] ++ lb) W fun e w' => e = .returned (.bool (p s)) ∧ Below W.heap.size W w') :
    Calls Tryd.prog 24 #[.slice A n c, .func (.func g) #[] lb] w fun e w' => e = .returned (.int .i64 (idxE p vs)) ∧ Below w.heap.size w w' := by
  unfold FnE at eg
  have HS : Aside _ := hsh
  have HP : Aside _ := hp
  clear hsh hp
  go_enter Tryd.func24, Tryd.ntmps24
  go_wp2
  go_loopg [5, 8] n (fun gg _ s8 wr => ∃ kk : Nat, kk ≤ n ∧ n - kk ≤ gg ∧ s8 = .int .i64 kk ∧ Aside (Below w.heap.size w wr) ∧ Aside (∀ (j : Nat) (t : Ed), j < kk → vs[j]? = some t → p t = false))
  case atStart => exact ⟨0, Nat.zero_le _, by omega, rfl, Below.refl _ w, fun j t hj => absurd hj (Nat.not_lt_zero _)⟩
  case round =>
    obtain ⟨kk, hkk, hg, rfl, BW, HA⟩ := hrel
    by_cases hlt : kk < n
    · have hltz : (kk : Int) < (n : Int) := by omega
      have hsr := HS.out.below BW.out
      obtain ⟨b, off, rfl, hb, _⟩ := hsr.place (by omega)
      obtain ⟨s, hs⟩ := hsr.get hlt
      have hr := hsr.range hs
      replace hr : wr.rangeAt b (off + kk * 4) s.vals := hr
      have hcall := HP.out wr s BW.out (List.mem_of_getElem? hs)
      have HS1 : Aside _ := hs
      clear hsr hs
      obtain ⟨q, hq⟩ : ∃ q, p s = q := ⟨_, rfl⟩
      rw [hq] at hcall
      have HQ := Lib.hid hq
      clear hq
      obtain ⟨e1, e2, e3, e4⟩ := s
      have hc0 : wr.cell? ⟨b, off + kk * 4, none⟩ = some (.int .i64 e1) := hr 0 _ rfl
      have hc1 : wr.cell? ⟨b, off + kk * 4 + 1, none⟩ = some (.int .i64 e2) := hr 1 _ rfl
      have hc2 : wr.cell? ⟨b, off + kk * 4 + 2, none⟩ = some (.int .i64 e3) := hr 2 _ rfl
      have hc3 : wr.cell? ⟨b, off + kk * 4 + 3, none⟩ = some (.int .i64 e4) := hr 3 _ rfl
      clear hr
      cases q with
      | true =>
        go_wp2_with (go_at_fn g; refine hcall.mono ?_; rintro e w' ⟨rfl, hb'⟩)
        go_ret
        refine ⟨?_, BW.out.trans (hb'.mono BW.out.size)⟩
        exact ret_ie (idxE_hit HA.out HS1.out HQ.out).symm
      | false =>
        go_wp2_with (go_at_fn g; refine hcall.mono ?_; rintro e w' ⟨rfl, hb'⟩)
        go_roundg (n - (kk + 1))
        case measure => omega
        case rel =>
          refine ⟨kk + 1, by omega, by omega, by go_num, BW.out.trans (hb'.mono BW.out.size), (show Aside _ from fun j t hj ht => ?_)⟩
          by_cases e : j = kk
          · subst e
            have e2 := HS1.out
            rw [ht] at e2
            obtain rfl := Option.some.inj e2
            exact HQ.out
          · exact HA.out j t (by omega) ht
    · have hltz : ¬ (kk : Int) < (n : Int) := by omega
      have : kk = n := by omega
      subst this
      go_wp2
      go_ret
      refine ⟨?_, BW.out⟩
      exact ret_ie (idxE_miss fun j t hj ht => HA.out j t (by have := HS.out.len; omega) ht).symm
theorem contains_f (g : Nat) (lb : Array Value) (p : Ed → Bool) (eg : FnE g) (A : Option Addr) (n c : Nat) (vs : List Ed) (w : World) (hsh : edK.At w w.heap.size A n vs) (hn : (n : Int) ≤ 9223372036854775807)
    (hp : ∀ (W : World) (s : Ed), Below w.heap.size w W → s ∈ vs → Calls Tryd.prog g (#[.agg s.vals.toArray] ++ lb) W fun e w' => e = .returned (.bool (p s)) ∧ Below W.heap.size W w') :
    Calls Tryd.prog 19 #[.slice A n c, .func (.func g) #[] lb] w fun e w' => e = .returned (.bool (vs.any p)) ∧ Below w.heap.size w w' := by
  have hi := Lib.hid (indexE_f g lb p eg A n c vs w hsh hn hp)
  have ha := idxE_any p vs
  obtain ⟨z, hz⟩ : ∃ z, idxE p vs = z := ⟨_, rfl⟩
  obtain ⟨q, hq⟩ : ∃ q, vs.any p = q := ⟨_, rfl⟩
  rw [hz] at hi ha
  rw [hq] at ha ⊢
  subst ha
  clear hp hsh hz hq
  go_enter Tryd.func19, Tryd.ntmps19
  go_wp2_with fail
  refine hi.out.mono ?_
  rintro e w1 ⟨rfl, hb⟩
  try dsimp only
  go_wp2
  go_ret
  exact ⟨rfl, hb⟩
end Go.Proofs.YtcaipmljlhjlcaaDoor
