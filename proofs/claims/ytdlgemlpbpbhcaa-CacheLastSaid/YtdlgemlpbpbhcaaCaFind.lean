/-
  Answers that are kept: the closures, and the first one that is found.
-/
import Derived.Test.YtdlgemlpbpbhcaaCaRow
import Derived.Lib.SliceRun
namespace Go.Proofs.Ytdlgemlpbpbhcaa
open Go.RowKit
set_option maxRecDepth 100000
set_option linter.unusedVariables false
theorem ret_ia {a b : Int} (h : a = b) : Ending.returned (.int .i64 a) = .returned (.int .i64 b) := by rw [h]
def clampN (x : Int) : Int := min (max x 0) 1099511627776
theorem clampN_in (x : Int) : 0 ≤ clampN x ∧ clampN x ≤ 1099511627776 := by unfold clampN; omega
theorem clamp_f (x : Int) (w : World) : Calls Try.prog 18 #[.int .i64 x] w fun e w' => e = .returned (.int .i64 (clampN x)) ∧ w' = w := by
  have hm : min (max x 0) 1099511627776 = clampN x := rfl
  obtain ⟨y, hy⟩ : ∃ y, max x 0 = y := ⟨_, rfl⟩
  rw [hy] at hm
  generalize clampN x = q at *
  go_enter Try.func18, Try.ntmps18
  go_wp2
  go_ret
  exact ⟨rfl, rfl⟩
theorem to1_f (b1 b2 : Nat) (fr id : Int) (s : An) (w : World) (h1 : b1 < w.heap.size) (h2 : b2 < w.heap.size) (c1 : w.cell? ⟨b1, 0, none⟩ = some (.int .i64 fr)) (c2 : w.cell? ⟨b2, 0, none⟩ = some (.int .i64 id)) :
    Calls Try.prog 28 #[.agg #[.int .i64 s.f, .int .i64 s.i, .int .i64 s.t, .slice s.A s.n s.c], .pointer (some ⟨b1, 0, none⟩), .pointer (some ⟨b2, 0, none⟩)] w fun e w' => e = .returned (.bool (s.f == fr && s.i == id)) ∧ Below w.heap.size w w' := by
  obtain ⟨f, i, t, A, n, c⟩ := s
  dsimp only
  by_cases hf : f = fr
  · have hq : (f == fr) = true := by rw [hf]; exact beq_self_eq_true _
    rw [hq]
    go_enter Try.func28, Try.ntmps28
    go_wp2
    go_ret
    exact ⟨rfl, alloc_below _ _⟩
  · have hq : (f == fr) = false := beq_eq_false_iff_ne.2 hf
    rw [hq]
    go_enter Try.func28, Try.ntmps28
    go_wp2
    go_ret
    exact ⟨rfl, alloc_below _ _⟩
theorem living1_f (b1 : Nat) (now : Int) (s : An) (w : World) (h1 : b1 < w.heap.size) (c1 : w.cell? ⟨b1, 0, none⟩ = some (.int .i64 now)) (hn : 0 ≤ now ∧ now ≤ 1099511627776) (ht : 0 ≤ s.t ∧ s.t ≤ 1099511627776) :
    Calls Try.prog 31 #[.agg #[.int .i64 s.f, .int .i64 s.i, .int .i64 s.t, .slice s.A s.n s.c], .pointer (some ⟨b1, 0, none⟩)] w fun e w' => e = .returned (.bool (decide (now - s.t < 247))) ∧ Below w.heap.size w w' := by
  obtain ⟨f, i, t, A, n, c⟩ := s
  dsimp only at ht ⊢
  obtain ⟨n0, n1⟩ := hn
  obtain ⟨t0, t1⟩ := ht
  go_enter Try.func31, Try.ntmps31
  go_wp2
  go_ret
  exact ⟨rfl, alloc_below _ _⟩
theorem keep1_f (b1 : Nat) (now : Int) (s : An) (w : World) (h1 : b1 < w.heap.size) (c1 : w.cell? ⟨b1, 0, none⟩ = some (.int .i64 now)) :
    Calls Try.prog 22 #[.agg #[.int .i64 s.f, .int .i64 s.i, .int .i64 s.t, .slice s.A s.n s.c], .pointer (some ⟨b1, 0, none⟩)] w fun e w' => e = .returned (.bool (decide (now < s.t))) ∧ Below w.heap.size w w' := by
  obtain ⟨f, i, t, A, n, c⟩ := s
  dsimp only
  go_enter Try.func22, Try.ntmps22
  go_wp2
  go_ret
  exact ⟨rfl, alloc_below _ _⟩
theorem to_f (fr id : Int) (w : World) : Calls Try.prog 20 #[.int .i64 fr, .int .i64 id] w fun e w' => e = .returned (.func (.func 28) #[] #[.pointer (some ⟨w.heap.size, 0, none⟩), .pointer (some ⟨w.heap.size + 1, 0, none⟩)]) ∧ Below w.heap.size w w' ∧ w.heap.size + 2 ≤ w'.heap.size ∧ w'.cell? ⟨w.heap.size, 0, none⟩ = some (.int .i64 fr) ∧ w'.cell? ⟨w.heap.size + 1, 0, none⟩ = some (.int .i64 id) := by
  go_enter Try.func20, Try.ntmps20
  go_wp2
  go_ret
  exact ⟨rfl, ((Below.refl _ _).alloc (Nat.le_refl _) _).alloc (by rw [alloc_size]; omega) _, by rw [alloc_size, alloc_size]; exact Nat.le_refl _, by rw [cell_of_row _ _ _ _ _ _ (heap_alloc2_old w _ _)]; rfl, by rw [cell_of_row _ _ _ _ _ _ (heap_alloc2_new w _ _)]; rfl⟩
theorem living_f (x : Int) (w : World) : Calls Try.prog 27 #[.int .i64 x] w fun e w' => e = .returned (.func (.func 31) #[] #[.pointer (some ⟨w.heap.size, 0, none⟩)]) ∧ Below w.heap.size w w' ∧ w.heap.size < w'.heap.size ∧ w'.cell? ⟨w.heap.size, 0, none⟩ = some (.int .i64 (clampN x)) := by
  have hc := fun W => clamp_f x W
  generalize clampN x = q at *
  have HC := Lib.hid hc
  clear hc
  go_enter Try.func27, Try.ntmps27
  go_wp2_with (go_at_call 18; refine (HC.out _).mono ?_; rintro e w1 ⟨rfl, hw⟩; obtain rfl := hw.symm)
  go_ret
  exact ⟨rfl, (Below.refl _ _).alloc (Nat.le_refl _) _, by rw [alloc_size]; omega, by rw [cell_of_row _ _ _ _ _ _ (heap_alloc_new w _)]; rfl⟩
theorem pred_to (b1 b2 : Nat) (fr id : Int) (w : World) (h1 : b1 < w.heap.size) (h2 : b2 < w.heap.size) (c1 : w.cell? ⟨b1, 0, none⟩ = some (.int .i64 fr)) (c2 : w.cell? ⟨b2, 0, none⟩ = some (.int .i64 id)) : PredA 28 #[.pointer (some ⟨b1, 0, none⟩), .pointer (some ⟨b2, 0, none⟩)] (fun s => s.f == fr && s.i == id) w :=
  fun W s h _ => to1_f b1 b2 fr id s W (Nat.lt_of_lt_of_le h1 h.size) (Nat.lt_of_lt_of_le h2 h.size) ((h.cell (p := ⟨b1, 0, none⟩) h1).trans c1) ((h.cell (p := ⟨b2, 0, none⟩) h2).trans c2)
theorem pred_living (b1 : Nat) (now : Int) (w : World) (h1 : b1 < w.heap.size) (c1 : w.cell? ⟨b1, 0, none⟩ = some (.int .i64 now)) (hn : 0 ≤ now ∧ now ≤ 1099511627776) : PredA 31 #[.pointer (some ⟨b1, 0, none⟩)] (fun s => decide (now - s.t < 247)) w :=
  fun W s h ht => living1_f b1 now s W (Nat.lt_of_lt_of_le h1 h.size) ((h.cell (p := ⟨b1, 0, none⟩) h1).trans c1) hn ht
theorem pred_keep (b1 : Nat) (now : Int) (w : World) (h1 : b1 < w.heap.size) (c1 : w.cell? ⟨b1, 0, none⟩ = some (.int .i64 now)) : PredA 22 #[.pointer (some ⟨b1, 0, none⟩)] (fun s => decide (now < s.t)) w :=
  fun W s h _ => keep1_f b1 now s W (Nat.lt_of_lt_of_le h1 h.size) ((h.cell (p := ⟨b1, 0, none⟩) h1).trans c1)
/-- The first place at which a predicate holds, or -1. -/
def idxA (p : An → Bool) (vs : List An) : Int := match vs.findIdx? p with | some i => (i : Int) | none => -1
theorem idxA_hit {p : An → Bool} {vs : List An} {k : Nat} {s : An} (h : ∀ (j : Nat) (t : An), j < k → vs[j]? = some t → p t = false) (hs : vs[k]? = some s) (hp : p s = true) : idxA p vs = k := by
  have : vs.findIdx? p = some k := by
    rw [List.findIdx?_eq_some_iff_getElem]
    obtain ⟨hk, rfl⟩ := List.getElem?_eq_some_iff.1 hs
    exact ⟨hk, hp, fun j hj => by rw [h j _ hj (List.getElem?_eq_getElem (by omega))]; simp⟩
  unfold idxA; rw [this]
theorem idxA_miss {p : An → Bool} {vs : List An} (h : ∀ (j : Nat) (t : An), j < vs.length → vs[j]? = some t → p t = false) : idxA p vs = -1 := by
  have : vs.findIdx? p = none := by
    rw [List.findIdx?_eq_none_iff]
    intro x hx
    obtain ⟨j, hj⟩ := List.mem_iff_getElem?.1 hx
    exact h j x (List.getElem?_eq_some_iff.1 hj).1 hj
  unfold idxA; rw [this]
set_option maxHeartbeats 2000000 in
theorem indexA_f (g : Nat) (lb : Array Value) (p : An → Bool) (eg : FnA g) (A : Option Addr) (n c : Nat) (vs : List An) (w : World) (B : Nat) (hsh : Ah w B A n vs) (hB : B ≤ w.heap.size) (hn : (n : Int) ≤ 9223372036854775807) (hp : PredA g lb p w) (htk : ∀ s ∈ vs, 0 ≤ s.t ∧ s.t ≤ 1099511627776) :
    Calls Try.prog 21 #[.slice A n c, .func (.func g) #[] lb] w fun e w' => e = .returned (.int .i64 (idxA p vs)) ∧ Below w.heap.size w w' := by
  unfold FnA at eg
  have HS : Aside _ := hsh
  have HP : Aside _ := hp
  clear hsh hp
  go_enter Try.func21, Try.ntmps21
  go_wp2
  go_loopg [5, 8] n (fun gg _ s8 wr => ∃ kk : Nat, kk ≤ n ∧ n - kk ≤ gg ∧ s8 = .int .i64 kk ∧ Aside (Below w.heap.size w wr) ∧ Aside (∀ (j : Nat) (t : An), j < kk → vs[j]? = some t → p t = false))
  case atStart => exact ⟨0, Nat.zero_le _, by omega, rfl, Below.refl _ w, fun j t hj => absurd hj (Nat.not_lt_zero _)⟩
  case round =>
    obtain ⟨kk, hkk, hg, rfl, BW, HA⟩ := hrel
    by_cases hlt : kk < n
    · have hltz : (kk : Int) < (n : Int) := by omega
      have hsr := HS.out.below' BW.out hB
      obtain ⟨b, off, rfl, hb, _⟩ := hsr.place (by omega)
      obtain ⟨s, hs⟩ := an_get hsr hlt
      have hr := hsr.range hs
      have hcall := HP.out wr s BW.out (htk s (List.mem_of_getElem? hs))
      have HS1 : Aside _ := hs
      clear hsr hs
      obtain ⟨q, hq⟩ : ∃ q, p s = q := ⟨_, rfl⟩
      rw [hq] at hcall
      have HQ := Lib.hid hq
      clear hq
      cases q with
      | true =>
        go_wp2_with (first
          | (refine wpList_load_mid rfl 48 (.tmp 14) rfl b (off + kk * 4) rfl [.int .i64 s.f, .int .i64 s.i, .int .i64 s.t, .slice s.A s.n s.c] _ hr Try.underlying48 rfl size_an ?_)
          | (go_at_fn g; refine hcall.mono ?_; rintro e w' ⟨rfl, hb'⟩))
        go_ret
        refine ⟨?_, BW.out.trans (hb'.mono BW.out.size)⟩
        exact ret_ia (idxA_hit HA.out HS1.out HQ.out).symm
      | false =>
        go_wp2_with (first
          | (refine wpList_load_mid rfl 48 (.tmp 14) rfl b (off + kk * 4) rfl [.int .i64 s.f, .int .i64 s.i, .int .i64 s.t, .slice s.A s.n s.c] _ hr Try.underlying48 rfl size_an ?_)
          | (go_at_fn g; refine hcall.mono ?_; rintro e w' ⟨rfl, hb'⟩))
        go_roundg (n - (kk + 1))
        case measure => omega
        case rel =>
          refine ⟨kk + 1, by omega, by omega, by go_num, BW.out.trans (hb'.mono BW.out.size), (show Aside _ from fun j t hj ht => ?_)⟩
          by_cases e : j = kk
          · subst e
            have e2 := HS1.out
            rw [ht] at e2
            obtain rfl := Option.some.inj e2
            exact HQ.out
          · exact HA.out j t (by omega) ht
    · have hltz : ¬ (kk : Int) < (n : Int) := by omega
      have : kk = n := by omega
      subst this
      go_wp2
      go_ret
      refine ⟨?_, BW.out⟩
      exact ret_ia (idxA_miss fun j t hj ht => HA.out j t (by have := HS.out.len; omega) ht).symm
theorem ca_row (w : World) (B : Nat) (hB : B ≤ w.heap.size) (e : TypeId) (size : Nat) : (w.alloc (.cells #[] e)).ownsRow B e size (.slice (some ⟨w.heap.size, 0, none⟩) 0 0) 0 [] :=
  World.ownsRow_made (base := B) (e := e) (size := size) w #[] 0 hB (Nat.zero_le _) (by simp)
set_option maxHeartbeats 400000 in
theorem caclone_f (A : Option Addr) (n c : Nat) (l : List UInt8) (w : World) (B : Nat) (hbs : Bs w B A n l) (hB : B ≤ w.heap.size) (hn : (n : Int) ≤ 140737488355328) :
    Calls Try.prog 24 #[.slice A n c] w (RetOwn 5 l w) := by
  obtain ⟨i0, hi0, hz0, hz1, hz2⟩ := info_parts info_u8
  have hnil : ∀ W, (binOp .eql 28 (.slice A n c) (.slice none 0 0)).run Try.prog W = .ok (.bool A.isNone) W := fun W => Lib.run_eql_slice_nil W _ _ A n c _ _ Try.underlying28
  have hlen := Lib.hid hbs.len
  cases A with
  | none =>
    have hn0 : n = 0 := by
      rcases Nat.eq_zero_or_pos n with h | h
      · exact h
      · obtain ⟨_, _, e, _⟩ := hbs.place h
        cases e
    have hl : l = [] := List.eq_nil_of_length_eq_zero (by rw [hlen.out, hn0])
    have HL := Lib.hid hl
    clear hl hn0
    go_enter Try.func24, Try.ntmps24
    go_wp2
    go_ret
    refine ⟨_, rfl, ?_, Below.refl _ _⟩
    rw [HL.out]
    exact World.ownsRow_nil _ _ _ _
  | some ad =>
    go_enter Try.func24, Try.ntmps24
    go_wp2_with (at_builtin; refine wpList_append_bs _ rfl (.tmp 5) (.tmp 6) 28 rfl w.heap.size 5 i0 Try.underlying28 hi0 hz0 hz1 hz2 _ 0 _ rfl (ca_row w _ (Nat.le_refl _) _ _) B (some ad) n c l rfl (hbs.alloc hB _) (by omega) (by rw [alloc_size]; omega) ?_; intro v' w1 hown1 hgrow)
    go_ret
    refine ⟨_, rfl, ?_, ((Below.refl w.heap.size w).alloc (Nat.le_refl _) _).grown hgrow (by rw [alloc_size]; omega) (own_ge (ca_row w _ (Nat.le_refl _) 5 1))⟩
    rw [hlen.out]
    simpa using hown1
end Go.Proofs.Ytdlgemlpbpbhcaa
