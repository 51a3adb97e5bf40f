/-
  Answers that are kept: a slice of three numbers with bytes.
-/
/-
  Answers that are kept: the closures, and the first one that is found.
-/
/-
  Answers that are kept: found.
-/
/-
  Answers that are kept: how many.
-/
import Derived.Test.YtfbddldcbjhmiaaCrcWalks
import Derived.Test.YtfbddldcbjhmiaaMem
import Derived.BigQuiet
import Derived.Deep.LoopGhost
import Derived.Lib.SliceRun
namespace Go.Proofs.Ytfbddldcbjhmiaa
open Go.RowKit
set_option maxRecDepth 100000
set_option linter.unusedVariables false
/-- An answer as it lies: whose it is, which message's, when it was kept, where its bytes are. -/
structure An where
  f : Int
  i : Int
  t : Int
  A : Option Addr
  n : Nat
  c : Nat
def An.vals (s : An) : List Value := [.int .i64 s.f, .int .i64 s.i, .int .i64 s.t, .slice s.A s.n s.c]
def ans (vs : List An) : List Value := vs.flatMap An.vals
theorem ans_nil : ans [] = [] := rfl
theorem ans_cons (s : An) (vs : List An) : ans (s :: vs) = .int .i64 s.f :: .int .i64 s.i :: .int .i64 s.t :: .slice s.A s.n s.c :: ans vs := rfl
theorem ans_append (a b : List An) : ans (a ++ b) = ans a ++ ans b := List.flatMap_append
theorem ans_length (vs : List An) : (ans vs).length = vs.length * 4 := by
  induction vs with
  | nil => rfl
  | cons s vs ih => rw [ans_cons, List.length_cons, List.length_cons, List.length_cons, List.length_cons, List.length_cons, ih]; omega
theorem ans_get : ∀ (vs : List An) (i : Nat) (s : An) (j : Nat) (u : Value), vs[i]? = some s → s.vals[j]? = some u → (ans vs)[i * 4 + j]? = some u
  | [], i, s, j, u, h, _ => by simp at h
  | a :: vs, 0, s, j, u, h, hj => by
    obtain rfl := Option.some.inj h
    match j, hj with
    | 0, hj => exact hj
    | 1, hj => exact hj
    | 2, hj => exact hj
    | 3, hj => exact hj
    | j + 4, hj => simp [An.vals] at hj
  | a :: vs, i + 1, s, j, u, h, hj => by
    rw [List.getElem?_cons_succ] at h
    rw [ans_cons, show (i + 1) * 4 + j = i * 4 + j + 1 + 1 + 1 + 1 by omega]
    exact ans_get vs i s j u h hj
theorem ans_at : ∀ (vs : List An) (k : Nat) (u : Value), (ans vs)[k]? = some u → ∃ i j s, vs[i]? = some s ∧ s.vals[j]? = some u ∧ k = i * 4 + j
  | [], k, u, h => by simp [ans] at h
  | a :: vs, 0, u, h => ⟨0, 0, a, rfl, h, rfl⟩
  | a :: vs, 1, u, h => ⟨0, 1, a, rfl, h, rfl⟩
  | a :: vs, 2, u, h => ⟨0, 2, a, rfl, h, rfl⟩
  | a :: vs, 3, u, h => ⟨0, 3, a, rfl, h, rfl⟩
  | a :: vs, k + 4, u, h => by
    obtain ⟨i, j, s, h1, h2, h3⟩ := ans_at vs k u h
    exact ⟨i + 1, j, s, h1, h2, by omega⟩
theorem ans_one (vs : List An) : ∀ u ∈ ans vs, u.oneCell' = true := by
  intro u hu
  obtain ⟨k, hk⟩ := List.mem_iff_getElem?.1 hu
  obtain ⟨i, j, s, _, h2, _⟩ := ans_at vs k u hk
  match j, h2 with
  | 0, h2 => obtain rfl := Option.some.inj h2; rfl
  | 1, h2 => obtain rfl := Option.some.inj h2; rfl
  | 2, h2 => obtain rfl := Option.some.inj h2; rfl
  | 3, h2 => obtain rfl := Option.some.inj h2; rfl
  | j + 4, h2 => simp [An.vals] at h2
/-- A slice of answers as they lie. -/
structure Ah (w : World) (B : Nat) (A : Option Addr) (n : Nat) (vs : List An) : Prop where
  len : vs.length = n
  place : 0 < n → ∃ b off, A = some ⟨b, off, none⟩ ∧ b < B ∧ ∀ (i : Nat) (s : An), vs[i]? = some s → w.rangeAt b (off + i * 4) s.vals
section
variable {w w' : World} {B B' n : Nat} {A : Option Addr} {vs : List An}
theorem an_get (h : Ah w B A n vs) {k : Nat} (hk : k < n) : ∃ s, vs[k]? = some s := ⟨_, List.getElem?_eq_getElem (by have := h.len; omega)⟩
theorem Ah.nil_ (w : World) (B : Nat) (A : Option Addr) : Ah w B A 0 [] := ⟨rfl, fun h => absurd h (by omega)⟩
theorem Ah.keep (h : Ah w B A n vs) (hk : ∀ p : Addr, p.block < B → w'.cell? p = w.cell? p) : Ah w' B A n vs :=
  ⟨h.len, fun hn => by
    obtain ⟨b, off, e, hb, hc⟩ := h.place hn
    exact ⟨b, off, e, hb, fun i s hs j v hj => (hk ⟨b, off + i * 4 + j, none⟩ hb).trans (hc i s hs j v hj)⟩⟩
theorem Ah.below (h : Ah w B A n vs) (hb : Below B w w') : Ah w' B A n vs := h.keep fun _ hp => hb.cell hp
theorem Ah.below' (h : Ah w B A n vs) (hb : Below B' w w') (hB : B ≤ B') : Ah w' B A n vs := h.keep fun _ hp => hb.cell (by omega)
theorem Ah.more (h : Ah w B A n vs) (hB : B ≤ B') : Ah w B' A n vs :=
  ⟨h.len, fun hn => by
    obtain ⟨b, off, e, hb, hc⟩ := h.place hn
    exact ⟨b, off, e, by omega, hc⟩⟩
theorem Ah.range {b off : Nat} (h : Ah w B (some ⟨b, off, none⟩) n vs) {k : Nat} {s : An} (hs : vs[k]? = some s) : w.rangeAt b (off + k * 4) s.vals := by
  obtain ⟨b', off', e, _, hc⟩ := h.place (by have := (List.getElem?_eq_some_iff.1 hs).1; have := h.len; omega)
  injection e with e
  injection e with e1 e2
  subst e1 e2
  exact hc k s hs
theorem Ah.of_own {base : Nat} {e : TypeId} {v : Value} (h : w.ownsRow base e 4 v n (ans vs)) : ∃ A c, v = .slice A n c ∧ n ≤ c ∧ Ah w w.heap.size A n vs := by
  have hlen : vs.length = n := by have := h.1; rw [ans_length] at this; omega
  have h' := h
  rcases h.2 with ⟨rfl, hn⟩ | ⟨g, cap, cur, rfl, hbg, hg, hnc, _, hcs, htake⟩
  · subst hn
    have : vs = [] := List.eq_nil_of_length_eq_zero hlen
    subst this
    exact ⟨Option.none, 0, rfl, Nat.le_refl _, Ah.nil_ _ _ _⟩
  · refine ⟨_, cap, rfl, hnc, hlen, fun hn => ⟨g, 0, rfl, (Array.getElem?_eq_some_iff.1 hg).1, fun i s hs j u hj => ?_⟩⟩
    have hil := (List.getElem?_eq_some_iff.1 hs).1
    have hj4 : j < 4 := by have := (List.getElem?_eq_some_iff.1 hj).1; exact this
    rw [Nat.zero_add, h'.cellAt (i * 4 + j) (by omega)]
    exact ans_get vs i s j u hs hj
theorem Ah.cut (h : Ah w B A n vs) {lo hi c : Nat} (hlo : lo ≤ hi) (hhi : hi ≤ n) (hc : n ≤ c) {A' : Option Addr} (hA : A' = if c = lo then A else A.map (·.add (lo * 4))) : Ah w B A' (hi - lo) ((vs.take hi).drop lo) := by
  refine ⟨by rw [List.length_drop, List.length_take, h.len]; omega, fun hn => ?_⟩
  obtain ⟨b, off, rfl, hb, hcell⟩ := h.place (by omega)
  rw [if_neg (by omega)] at hA
  refine ⟨b, off + lo * 4, by rw [hA]; simp [Addr.add], hb, fun i s hs => ?_⟩
  rw [List.getElem?_drop] at hs
  have hl : lo + i < hi := by have := (List.getElem?_eq_some_iff.1 hs).1; rw [List.length_take] at this; omega
  rw [List.getElem?_take_of_lt hl] at hs
  have := hcell _ s hs
  rw [show off + lo * 4 + i * 4 = off + (lo + i) * 4 by omega]
  exact this
end
theorem size_an : (Try.prog.info? 110).map (·.size) = some 4 := by kernel_rfl
def An.agg (s : An) : Value := .agg #[.int .i64 s.f, .int .i64 s.i, .int .i64 s.t, .slice s.A s.n s.c]
/-- A predicate that is handed in. -/
def PredA (g : Nat) (lb : Array Value) (p : An → Bool) (w : World) : Prop :=
  ∀ (W : World) (s : An), Below w.heap.size w W → 0 ≤ s.t ∧ s.t ≤ 1099511627776 → Calls Try.prog g (#[.agg #[.int .i64 s.f, .int .i64 s.i, .int .i64 s.t, .slice s.A s.n s.c]] ++ lb) W fun e w' => e = .returned (.bool (p s)) ∧ Below W.heap.size W w'
theorem PredA.later {g : Nat} {lb : Array Value} {p : An → Bool} {w W : World} (h : PredA g lb p w) (hb : Below w.heap.size w W) : PredA g lb p W :=
  fun W' s hb' ht => h W' s (hb.trans (hb'.mono hb.size)) ht
def FnA (g : Nat) : Prop := ∀ args w, (callFunc g args).run Try.prog w = .ok (.enter g args) w
theorem fn_to : FnA 77 := enters_of Try.func77 (by kernel_rfl) rfl
theorem fn_living : FnA 76 := enters_of Try.func76 (by kernel_rfl) rfl
theorem fn_keep : FnA 61 := enters_of Try.func61 (by kernel_rfl) rfl
theorem ret_ia {a b : Int} (h : a = b) : Ending.returned (.int .i64 a) = .returned (.int .i64 b) := by rw [h]
def clampN (x : Int) : Int := min (max x 0) 1099511627776
theorem clampN_in (x : Int) : 0 ≤ clampN x ∧ clampN x ≤ 1099511627776 := by unfold clampN; omega
theorem clamp_f (x : Int) (w : World) : Calls Try.prog 59 #[.int .i64 x] w fun e w' => e = .returned (.int .i64 (clampN x)) ∧ w' = w := by
  have hm : min (max x 0) 1099511627776 = clampN x := rfl
  obtain ⟨y, hy⟩ : ∃ y, max x 0 = y := ⟨_, rfl⟩
  rw [hy] at hm
  generalize clampN x = q at *
  go_enter Try.func59, Try.ntmps59
  go_wp2
  go_ret
  exact ⟨rfl, rfl⟩
theorem to1_f (b1 b2 : Nat) (fr id : Int) (s : An) (w : World) (h1 : b1 < w.heap.size) (h2 : b2 < w.heap.size) (c1 : w.cell? ⟨b1, 0, none⟩ = some (.int .i64 fr)) (c2 : w.cell? ⟨b2, 0, none⟩ = some (.int .i64 id)) :
    Calls Try.prog 77 #[.agg #[.int .i64 s.f, .int .i64 s.i, .int .i64 s.t, .slice s.A s.n s.c], .pointer (some ⟨b1, 0, none⟩), .pointer (some ⟨b2, 0, none⟩)] w fun e w' => e = .returned (.bool (s.f == fr && s.i == id)) ∧ Below w.heap.size w w' := by
  obtain ⟨f, i, t, A, n, c⟩ := s
  dsimp only
  by_cases hf : f = fr
  · have hq : (f == fr) = true := by rw [hf]; exact beq_self_eq_true _
    rw [hq]
    go_enter Try.func77, Try.ntmps77
    go_wp2
    go_ret
    exact ⟨rfl, alloc_below _ _⟩
  · have hq : (f == fr) = false := beq_eq_false_iff_ne.2 hf
    rw [hq]
    go_enter Try.func77, Try.ntmps77
    go_wp2
    go_ret
    exact ⟨rfl, alloc_below _ _⟩
theorem living1_f (b1 : Nat) (now : Int) (s : An) (w : World) (h1 : b1 < w.heap.size) (c1 : w.cell? ⟨b1, 0, none⟩ = some (.int .i64 now)) (hn : 0 ≤ now ∧ now ≤ 1099511627776) (ht : 0 ≤ s.t ∧ s.t ≤ 1099511627776) :
    Calls Try.prog 76 #[.agg #[.int .i64 s.f, .int .i64 s.i, .int .i64 s.t, .slice s.A s.n s.c], .pointer (some ⟨b1, 0, none⟩)] w fun e w' => e = .returned (.bool (decide (now - s.t < 247))) ∧ Below w.heap.size w w' := by
  obtain ⟨f, i, t, A, n, c⟩ := s
  dsimp only at ht ⊢
  obtain ⟨n0, n1⟩ := hn
  obtain ⟨t0, t1⟩ := ht
  go_enter Try.func76, Try.ntmps76
  go_wp2
  go_ret
  exact ⟨rfl, alloc_below _ _⟩
theorem keep1_f (b1 : Nat) (now : Int) (s : An) (w : World) (h1 : b1 < w.heap.size) (c1 : w.cell? ⟨b1, 0, none⟩ = some (.int .i64 now)) :
    Calls Try.prog 61 #[.agg #[.int .i64 s.f, .int .i64 s.i, .int .i64 s.t, .slice s.A s.n s.c], .pointer (some ⟨b1, 0, none⟩)] w fun e w' => e = .returned (.bool (decide (now < s.t))) ∧ Below w.heap.size w w' := by
  obtain ⟨f, i, t, A, n, c⟩ := s
  dsimp only
  go_enter Try.func61, Try.ntmps61
  go_wp2
  go_ret
  exact ⟨rfl, alloc_below _ _⟩
theorem to_f (fr id : Int) (w : World) : Calls Try.prog 58 #[.int .i64 fr, .int .i64 id] w fun e w' => e = .returned (.func (.func 77) #[] #[.pointer (some ⟨w.heap.size, 0, none⟩), .pointer (some ⟨w.heap.size + 1, 0, none⟩)]) ∧ Below w.heap.size w w' ∧ w.heap.size + 2 ≤ w'.heap.size ∧ w'.cell? ⟨w.heap.size, 0, none⟩ = some (.int .i64 fr) ∧ w'.cell? ⟨w.heap.size + 1, 0, none⟩ = some (.int .i64 id) := by
  go_enter Try.func58, Try.ntmps58
  go_wp2
  go_ret
  exact ⟨rfl, ((Below.refl _ _).alloc (Nat.le_refl _) _).alloc (by rw [alloc_size]; omega) _, by rw [alloc_size, alloc_size]; exact Nat.le_refl _, by rw [cell_of_row _ _ _ _ _ _ (heap_alloc2_old w _ _)]; rfl, by rw [cell_of_row _ _ _ _ _ _ (heap_alloc2_new w _ _)]; rfl⟩
theorem living_f (x : Int) (w : World) : Calls Try.prog 56 #[.int .i64 x] w fun e w' => e = .returned (.func (.func 76) #[] #[.pointer (some ⟨w.heap.size, 0, none⟩)]) ∧ Below w.heap.size w w' ∧ w.heap.size < w'.heap.size ∧ w'.cell? ⟨w.heap.size, 0, none⟩ = some (.int .i64 (clampN x)) := by
  have hc := fun W => clamp_f x W
  generalize clampN x = q at *
  have HC := Lib.hid hc
  clear hc
  go_enter Try.func56, Try.ntmps56
  go_wp2_with (go_at_call 59; refine (HC.out _).mono ?_; rintro e w1 ⟨rfl, hw⟩; obtain rfl := hw.symm)
  go_ret
  exact ⟨rfl, (Below.refl _ _).alloc (Nat.le_refl _) _, by rw [alloc_size]; omega, by rw [cell_of_row _ _ _ _ _ _ (heap_alloc_new w _)]; rfl⟩
theorem pred_to (b1 b2 : Nat) (fr id : Int) (w : World) (h1 : b1 < w.heap.size) (h2 : b2 < w.heap.size) (c1 : w.cell? ⟨b1, 0, none⟩ = some (.int .i64 fr)) (c2 : w.cell? ⟨b2, 0, none⟩ = some (.int .i64 id)) : PredA 77 #[.pointer (some ⟨b1, 0, none⟩), .pointer (some ⟨b2, 0, none⟩)] (fun s => s.f == fr && s.i == id) w :=
  fun W s h _ => to1_f b1 b2 fr id s W (Nat.lt_of_lt_of_le h1 h.size) (Nat.lt_of_lt_of_le h2 h.size) ((h.cell (p := ⟨b1, 0, none⟩) h1).trans c1) ((h.cell (p := ⟨b2, 0, none⟩) h2).trans c2)
theorem pred_living (b1 : Nat) (now : Int) (w : World) (h1 : b1 < w.heap.size) (c1 : w.cell? ⟨b1, 0, none⟩ = some (.int .i64 now)) (hn : 0 ≤ now ∧ now ≤ 1099511627776) : PredA 76 #[.pointer (some ⟨b1, 0, none⟩)] (fun s => decide (now - s.t < 247)) w :=
  fun W s h ht => living1_f b1 now s W (Nat.lt_of_lt_of_le h1 h.size) ((h.cell (p := ⟨b1, 0, none⟩) h1).trans c1) hn ht
theorem pred_keep (b1 : Nat) (now : Int) (w : World) (h1 : b1 < w.heap.size) (c1 : w.cell? ⟨b1, 0, none⟩ = some (.int .i64 now)) : PredA 61 #[.pointer (some ⟨b1, 0, none⟩)] (fun s => decide (now < s.t)) w :=
  fun W s h _ => keep1_f b1 now s W (Nat.lt_of_lt_of_le h1 h.size) ((h.cell (p := ⟨b1, 0, none⟩) h1).trans c1)
/-- The first place at which a predicate holds, or -1. -/
def idxA (p : An → Bool) (vs : List An) : Int := match vs.findIdx? p with | some i => (i : Int) | none => -1
theorem idxA_hit {p : An → Bool} {vs : List An} {k : Nat} {s : An} (h : ∀ (j : Nat) (t : An), j < k → vs[j]? = some t → p t = false) (hs : vs[k]? = some s) (hp : p s = true) : idxA p vs = k := by
  have : vs.findIdx? p = some k := by
    rw [List.findIdx?_eq_some_iff_getElem]
    obtain ⟨hk, rfl⟩ := List.getElem?_eq_some_iff.1 hs
    exact ⟨hk, hp, fun j hj => by rw [h j _ hj (List.getElem?_eq_getElem (by omega))]; simp⟩
  unfold idxA; rw [this]
theorem idxA_miss {p : An → Bool} {vs : List An} (h : ∀ (j : Nat) (t : An), j < vs.length → vs[j]? = some t → p t = false) : idxA p vs = -1 := by
  have : vs.findIdx? p = none := by
    rw [List.findIdx?_eq_none_iff]
    intro x hx
    obtain ⟨j, hj⟩ := List.mem_iff_getElem?.1 hx
    exact h j x (List.getElem?_eq_some_iff.1 hj).1 hj
  unfold idxA; rw [this]
set_option maxHeartbeats 2000000 in
theorem indexA_f (g : Nat) (lb : Array Value) (p : An → Bool) (eg : FnA g) (A : Option Addr) (n c : Nat) (vs : List An) (w : World) (B : Nat) (hsh : Ah w B A n vs) (hB : B ≤ w.heap.size) (hn : (n : Int) ≤ 9223372036854775807) (hp : PredA g lb p w) (htk : ∀ s ∈ vs, 0 ≤ s.t ∧ s.t ≤ 1099511627776) :
    Calls Try.prog 57 #[.slice A n c, .func (.func g) #[] lb] w fun e w' => e = .returned (.int .i64 (idxA p vs)) ∧ Below w.heap.size w w' := by
  unfold FnA at eg
  have HS : Aside _ := hsh
  have HP : Aside _ := hp
  clear hsh hp
  go_enter Try.func57, Try.ntmps57
  go_wp2
  go_loopg [5, 8] n (fun gg _ s8 wr => ∃ kk : Nat, kk ≤ n ∧ n - kk ≤ gg ∧ s8 = .int .i64 kk ∧ Aside (Below w.heap.size w wr) ∧ Aside (∀ (j : Nat) (t : An), j < kk → vs[j]? = some t → p t = false))
  case atStart => exact ⟨0, Nat.zero_le _, by omega, rfl, Below.refl _ w, fun j t hj => absurd hj (Nat.not_lt_zero _)⟩
  case round =>
    obtain ⟨kk, hkk, hg, rfl, BW, HA⟩ := hrel
    by_cases hlt : kk < n
    · have hltz : (kk : Int) < (n : Int) := by omega
      have hsr := HS.out.below' BW.out hB
      obtain ⟨b, off, rfl, hb, _⟩ := hsr.place (by omega)
      obtain ⟨s, hs⟩ := an_get hsr hlt
      have hr := hsr.range hs
      have hcall := HP.out wr s BW.out (htk s (List.mem_of_getElem? hs))
      have HS1 : Aside _ := hs
      clear hsr hs
      obtain ⟨q, hq⟩ : ∃ q, p s = q := ⟨_, rfl⟩
      rw [hq] at hcall
      have HQ := Lib.hid hq
      clear hq
      cases q with
      | true =>
        go_wp2_with (first
          | (refine wpList_load_mid rfl 110 (.tmp 14) rfl b (off + kk * 4) rfl [.int .i64 s.f, .int .i64 s.i, .int .i64 s.t, .slice s.A s.n s.c] _ hr Try.underlying110 rfl size_an ?_)
          | (go_at_fn g; refine hcall.mono ?_; rintro e w' ⟨rfl, hb'⟩))
        go_ret
        refine ⟨?_, BW.out.trans (hb'.mono BW.out.size)⟩
        exact ret_ia (idxA_hit HA.out HS1.out HQ.out).symm
      | false =>
        go_wp2_with (first
          | (refine wpList_load_mid rfl 110 (.tmp 14) rfl b (off + kk * 4) rfl [.int .i64 s.f, .int .i64 s.i, .int .i64 s.t, .slice s.A s.n s.c] _ hr Try.underlying110 rfl size_an ?_)
          | (go_at_fn g; refine hcall.mono ?_; rintro e w' ⟨rfl, hb'⟩))
        go_roundg (n - (kk + 1))
        case measure => omega
        case rel =>
          refine ⟨kk + 1, by omega, by omega, by go_num, BW.out.trans (hb'.mono BW.out.size), (show Aside _ from fun j t hj ht => ?_)⟩
          by_cases e : j = kk
          · subst e
            have e2 := HS1.out
            rw [ht] at e2
            obtain rfl := Option.some.inj e2
            exact HQ.out
          · exact HA.out j t (by omega) ht
    · have hltz : ¬ (kk : Int) < (n : Int) := by omega
      have : kk = n := by omega
      subst this
      go_wp2
      go_ret
      refine ⟨?_, BW.out⟩
      exact ret_ia (idxA_miss fun j t hj ht => HA.out j t (by have := HS.out.len; omega) ht).symm
theorem ca_row (w : World) (B : Nat) (hB : B ≤ w.heap.size) (e : TypeId) (size : Nat) : (w.alloc (.cells #[] e)).ownsRow B e size (.slice (some ⟨w.heap.size, 0, none⟩) 0 0) 0 [] :=
  World.ownsRow_made (base := B) (e := e) (size := size) w #[] 0 hB (Nat.zero_le _) (by simp)
set_option maxHeartbeats 400000 in
theorem caclone_f (A : Option Addr) (n c : Nat) (l : List UInt8) (w : World) (B : Nat) (hbs : Bs w B A n l) (hB : B ≤ w.heap.size) (hn : (n : Int) ≤ 140737488355328) :
    Calls Try.prog 31 #[.slice A n c] w (RetOwn 5 l w) := by
  obtain ⟨i0, hi0, hz0, hz1, hz2⟩ := info_parts info_u8
  have hnil : ∀ W, (binOp .eql 22 (.slice A n c) (.slice none 0 0)).run Try.prog W = .ok (.bool A.isNone) W := fun W => Lib.run_eql_slice_nil W _ _ A n c _ _ Try.underlying22
  have hlen := Lib.hid hbs.len
  cases A with
  | none =>
    have hn0 : n = 0 := by
      rcases Nat.eq_zero_or_pos n with h | h
      · exact h
      · obtain ⟨_, _, e, _⟩ := hbs.place h
        cases e
    have hl : l = [] := List.eq_nil_of_length_eq_zero (by rw [hlen.out, hn0])
    have HL := Lib.hid hl
    clear hl hn0
    go_enter Try.func31, Try.ntmps31
    go_wp2
    go_ret
    refine ⟨_, rfl, ?_, Below.refl _ _⟩
    rw [HL.out]
    exact World.ownsRow_nil _ _ _ _
  | some ad =>
    go_enter Try.func31, Try.ntmps31
    go_wp2_with (at_builtin; refine wpList_append_bs _ rfl (.tmp 5) (.tmp 6) 22 rfl w.heap.size 5 i0 Try.underlying22 hi0 hz0 hz1 hz2 _ 0 _ rfl (ca_row w _ (Nat.le_refl _) _ _) B (some ad) n c l rfl (hbs.alloc hB _) (by omega) (by rw [alloc_size]; omega) ?_; intro v' w1 hown1 hgrow)
    go_ret
    refine ⟨_, rfl, ?_, ((Below.refl w.heap.size w).alloc (Nat.le_refl _) _).grown hgrow (by rw [alloc_size]; omega) (own_ge (ca_row w _ (Nat.le_refl _) 5 1))⟩
    rw [hlen.out]
    simpa using hown1
/-- An answer's content: whose, which, when, its bytes. -/
structure Qa where
  f : Int
  i : Int
  t : Int
  l : List UInt8
structure Ka (w : World) (B : Nat) (s : An) (q : Qa) : Prop where
  f : s.f = q.f
  i : s.i = q.i
  t : s.t = q.t
  b : w.ownsRow B 5 1 (.slice s.A s.n s.c) s.n (U8 q.l)
  max : (s.n : Int) ≤ 1099511627776
theorem row_below4 {w w' : World} {base size n : Nat} {e : TypeId} {v : Value} {xs : List Value} (h : w.ownsRow base e size v n xs) (hb : Below w.heap.size w w') : w'.ownsRow base e size v n xs := by
  refine ⟨h.1, ?_⟩
  rcases h.2 with h2 | ⟨g, cap, cur, rfl, h3, h4, h5, h6, h7, h8⟩
  · exact .inl h2
  · exact .inr ⟨g, cap, cur, rfl, h3, (hb.block g (Array.getElem?_eq_some_iff.1 h4).1).trans h4, h5, h6, h7, h8⟩
theorem row_mono4 {w : World} {base base' size n : Nat} {e : TypeId} {v : Value} {xs : List Value} (h : w.ownsRow base e size v n xs) (hb : base' ≤ base) : w.ownsRow base' e size v n xs :=
  ⟨h.1, h.2.imp id fun ⟨g, cap, cur, h1, h2, h3⟩ => ⟨g, cap, cur, h1, by omega, h3⟩⟩
theorem Ka.bs {w : World} {B : Nat} {s : An} {q : Qa} (h : Ka w B s q) : Bs w w.heap.size s.A s.n q.l := by
  have hl := h.b.1
  rw [U8_length, Nat.mul_one] at hl
  have hb := h.b
  rw [← hl] at hb ⊢
  obtain ⟨A, c, e, _, hbs⟩ := Bs.of_own hb
  injection e with e _ _
  rw [e]; exact hbs
theorem Ka.below {w w' : World} {B : Nat} {s : An} {q : Qa} (h : Ka w B s q) (hb : Below w.heap.size w w') : Ka w' B s q := ⟨h.f, h.i, h.t, row_below4 h.b hb, h.max⟩
/-- The cache at its address. -/
structure CaAt (w : World) (cb : Nat) (v : Value) (vs : List An) (qs : List Qa) : Prop where
  blk : w.heap[cb]? = some (.cells #[v] 95)
  row : w.ownsRow (cb + 1) 110 4 v vs.length (ans vs)
  tok : ∀ s ∈ vs, 0 ≤ s.t ∧ s.t ≤ 1099511627776
  len : vs.length = qs.length
  few : vs.length ≤ 8
  each : ∀ (k : Nat) (s : An) (q : Qa), vs[k]? = some s → qs[k]? = some q → Ka w (cb + 1) s q
section
variable {w w' : World} {cb : Nat} {v : Value} {vs : List An} {qs : List Qa}
theorem CaAt.lt (h : CaAt w cb v vs qs) : cb < w.heap.size := (Array.getElem?_eq_some_iff.1 h.blk).1
theorem CaAt.below (h : CaAt w cb v vs qs) (hb : Below w.heap.size w w') : CaAt w' cb v vs qs :=
  ⟨(hb.block cb h.lt).trans h.blk, row_below4 h.row hb, h.tok, h.len, h.few, fun k s q hs hq => by
    exact (h.each k s q hs hq).below hb⟩
theorem CaAt.cell (h : CaAt w cb v vs qs) : w.cell? ⟨cb, 0, none⟩ = some v := by rw [cell_of_row _ _ _ _ _ _ h.blk]; rfl
theorem CaAt.open_ (h : CaAt w cb v vs qs) : ∃ A c, v = .slice A vs.length c ∧ vs.length ≤ c ∧ Ah w w.heap.size A vs.length vs := by
  obtain ⟨A, c, e, hc, hb⟩ := Ah.of_own h.row
  exact ⟨A, c, e, hc, hb⟩
end
theorem canew_f (w : World) : Calls Try.prog 17 #[] w fun e w' => e = .returned (.pointer (some ⟨w.heap.size, 0, none⟩)) ∧ CaAt w' w.heap.size (.slice none 0 0) [] [] ∧ Below w.heap.size w w' ∧ w'.heap.size = w.heap.size + 1 := by
  have hj : CaAt (w.alloc (.cells #[.slice none 0 0] 95)) w.heap.size (.slice none 0 0) [] [] :=
    ⟨heap_alloc_new w _, World.ownsRow_nil _ _ _ _, (fun s hs => by cases hs), rfl, Nat.zero_le _, (fun k s q hs _ => by simp at hs)⟩
  have HJ := Lib.hid hj
  clear hj
  go_enter Try.func17, Try.ntmps17
  go_wp2
  go_ret
  exact ⟨rfl, HJ.out, alloc_below _ _, alloc_size _ _⟩
/-- What is found. -/
def findQ (qs : List Qa) (fr id now : Int) : Option (List UInt8) := match qs.find? (fun q => q.f == fr && q.i == id) with | some q => if clampN now - q.t < 247 then some q.l else none | none => none
def FRet (r : Option (List UInt8)) (w : World) (e : Ending) (w' : World) : Prop :=
  ∃ A n c, e = .returned (.tuple #[.slice A n c, .bool r.isSome]) ∧ n ≤ c ∧ Hid (n = (r.getD []).length) ∧ Bs w' w'.heap.size A n (r.getD []) ∧ (∀ a, A = some a → w.heap.size ≤ a.block) ∧ Below w.heap.size w w'
def FRet2 (r : Option (List UInt8)) (w : World) (e : Ending) (w' : World) : Prop :=
  ∃ A n c, e = .returned (.tuple #[.slice A n c, .bool r.isSome]) ∧ n ≤ c ∧ Hid (n = (r.getD []).length) ∧ w'.ownsRow w.heap.size 5 1 (.slice A n c) n (U8 (r.getD [])) ∧ Below w.heap.size w w'
theorem FRet2.one {r : Option (List UInt8)} {w w' : World} {e : Ending} (h : FRet2 r w e w') : FRet r w e w' := by
  obtain ⟨A, n, c, h1, h2, h3, h4, h5⟩ := h
  refine ⟨A, n, c, h1, h2, h3, ?_, fun a ha => ?_, h5⟩
  · obtain ⟨A', c', e1, _, hb⟩ := Bs.of_own h4
    injection e1 with e1 _ _
    rw [e1]; exact hb
  · exact (h4.lt a.block (by rw [ha]; rfl)).1
theorem find_at {vs : List An} {qs : List Qa} {w : World} {B : Nat} (hl : vs.length = qs.length) (he : ∀ (k : Nat) (s : An) (q : Qa), vs[k]? = some s → qs[k]? = some q → Ka w B s q) (fr id : Int) :
    (idxA (fun s => s.f == fr && s.i == id) vs = -1 ∧ qs.find? (fun q => q.f == fr && q.i == id) = none) ∨ (∃ (k : Nat) (s : An) (q : Qa), idxA (fun s => s.f == fr && s.i == id) vs = (k : Int) ∧ vs[k]? = some s ∧ qs[k]? = some q ∧ qs.find? (fun q => q.f == fr && q.i == id) = some q) := by
  unfold idxA
  cases h : vs.findIdx? (fun s => s.f == fr && s.i == id) with
  | none =>
    left
    refine ⟨rfl, ?_⟩
    rw [List.findIdx?_eq_none_iff] at h
    rw [List.find?_eq_none]
    intro q hq
    obtain ⟨k, hk⟩ := List.mem_iff_getElem?.1 hq
    have hkl := (List.getElem?_eq_some_iff.1 hk).1
    have hs : vs[k]? = some (vs[k]'(by omega)) := List.getElem?_eq_getElem (by omega)
    have ka := he k _ q hs hk
    have := h _ (List.mem_of_getElem? hs)
    rw [ka.f, ka.i] at this
    simpa using this
  | some k =>
    right
    rw [List.findIdx?_eq_some_iff_getElem] at h
    obtain ⟨hk, hp, hmin⟩ := h
    have hs : vs[k]? = some vs[k] := List.getElem?_eq_getElem hk
    have hq : qs[k]? = some (qs[k]'(by omega)) := List.getElem?_eq_getElem (by omega)
    have ka := he k _ _ hs hq
    refine ⟨k, _, _, rfl, hs, hq, ?_⟩
    rw [List.find?_eq_some_iff_getElem]
    refine ⟨?_, k, by omega, rfl, fun j hj => ?_⟩
    · rw [← ka.f, ← ka.i]; exact hp
    · have hsj : vs[j]? = some (vs[j]'(by omega)) := List.getElem?_eq_getElem (by omega)
      have hqj : qs[j]? = some (qs[j]'(by omega)) := List.getElem?_eq_getElem (by omega)
      have kj := he j _ _ hsj hqj
      have := hmin j hj
      rw [kj.f, kj.i] at this
      show (!((qs[j]'(by omega)).f == fr && (qs[j]'(by omega)).i == id)) = true
      cases hb : ((qs[j]'(by omega)).f == fr && (qs[j]'(by omega)).i == id) with
      | true => exact absurd hb this
      | false => rfl
def CfR (cb : Nat) (A : Option Addr) (q c : Nat) (fr id ix : Int) (i : Nat) (w : World) (v : Value) : Prop :=
  match i with
  | 0 | 1 | 2 => v = .pointer (some ⟨cb, 0, none⟩)
  | 3 => v = .slice A q c
  | 4 => v = .int .i64 fr
  | 5 => v = .int .i64 id
  | 6 => ∃ b0, v = .func (.func 77) #[] #[.pointer (some ⟨b0, 0, none⟩), .pointer (some ⟨b0 + 1, 0, none⟩)] ∧ b0 + 2 ≤ w.heap.size ∧ w.cell? ⟨b0, 0, none⟩ = some (.int .i64 fr) ∧ w.cell? ⟨b0 + 1, 0, none⟩ = some (.int .i64 id)
  | _ => v = .int .i64 ix
theorem CfR.grow {cb : Nat} {A : Option Addr} {q c : Nat} {fr id ix : Int} (i : Nat) (w w' : World) (v : Value) (hT : Below w.heap.size w w') (h : CfR cb A q c fr id ix i w v) : CfR cb A q c fr id ix i w' v := by
  unfold CfR at h ⊢
  split at h
  all_goals first
    | exact h
    | (obtain ⟨b0, h1, h2, h3, h4⟩ := h; exact ⟨b0, h1, Nat.le_trans h2 hT.size, (hT.cell (p := ⟨b0, 0, none⟩) (by show b0 < _; omega)).trans h3, (hT.cell (p := ⟨b0 + 1, 0, none⟩) (by show b0 + 1 < _; omega)).trans h4⟩)
set_option maxHeartbeats 8000000 in
theorem cafind2_f (cb : Nat) (v : Value) (vs : List An) (qs : List Qa) (w : World) (h : CaAt w cb v vs qs) (fr id now : Int) :
    Calls Try.prog 24 #[.pointer (some ⟨cb, 0, none⟩), .int .i64 fr, .int .i64 id, .int .i64 now] w (FRet2 (findQ qs fr id now) w) := by
  obtain ⟨A, c, rfl, hlc, _⟩ := h.open_
  obtain ⟨R, hR⟩ : ∃ R, findQ qs fr id now = R := ⟨_, rfl⟩
  rw [hR]
  obtain ⟨q, hq⟩ : ∃ q, vs.length = q := ⟨_, rfl⟩
  have hfew := h.few
  have HH := Lib.hid (And.intro h (And.intro hR (And.intro hq hlc)))
  rw [hq] at hlc hfew
  have hq8 : (q : Int) ≤ 8 := by omega
  have hca : ∀ W, Below w.heap.size w W → W.cell? ⟨cb, 0, none⟩ = some (.slice A q c) := fun W hb => by rw [← hq]; exact (h.below hb).cell
  have HC := Lib.hid hca
  clear hR hq h hfew hca
  go_enter Try.func24, Try.ntmps24
  go_wp2_with fail
  refine (living_f now w).mono ?_
  rintro e w1 ⟨rfl, b1, s1, l1⟩
  have H1 := Lib.hid (And.intro b1 (And.intro s1 l1))
  clear b1 s1 l1
  try dsimp only
  go_wp2_with fail
  refine wp_region_rel (fun w' => Below w1.heap.size w1 w') (fun w w' => Below w.heap.size w w') (CfR cb A q c fr id (idxA (fun s => s.f == fr && s.i == id) vs)) [(0, .pointer (some ⟨cb, 0, none⟩)), (1, .int .i64 fr), (2, .int .i64 id)] (by kernel_rfl) (by kernel_rfl) (by kernel_rfl) ?base (Below.drew (Below.refl _ _)) (fun i w w' v hT h => CfR.grow i w w' v hT h) ?steps ?fin
  case base =>
    intro x hx
    simp only [List.mem_cons, List.not_mem_nil, or_false] at hx
    rcases hx with rfl | rfl | rfl <;> exact ⟨rfl, rfl⟩
  case steps =>
    refine steps_cons ?_ (steps_cons ?_ (steps_cons ?_ (steps_cons ?_ (steps_cons ?_ (steps_cons ?_ (steps_cons ?_ (steps_cons ?_ (steps_cons ?_ steps_nil))))))))
    · intro a wx K hS hB hR hK
      rw [if_pos (wanted_none rfl)]
      have h0 := tmp_is (hB.1)
      go_simp
      exact hK (.pointer (some ⟨cb, 0, none⟩)) wx hS (Below.refl _ wx) rfl
    · intro a wx K hS hB hR hK
      rw [if_pos (wanted_none rfl)]
      have h14 := tmp_is (hR.1)
      go_simp
      exact hK (.pointer (some ⟨cb, 0, none⟩)) wx hS (Below.refl _ wx) rfl
    · intro a wx K hS hB hR hK
      rw [if_pos (wanted_none rfl)]
      have h15 := tmp_is (hR.1)
      go_simp
      exact hK (.pointer (some ⟨cb, 0, none⟩)) wx hS (Below.refl _ wx) rfl
    · intro a wx K hS hB hR hK
      rw [if_pos (wanted_none rfl)]
      have h16 := tmp_is (hR.1)
      have hw := HC.out wx (H1.out.1.trans (hS.mono H1.out.1.size))
      go_simp
      exact hK (.slice A q c) wx hS (Below.refl _ wx) rfl
    · intro a wx K hS hB hR hK
      rw [if_pos (wanted_none rfl)]
      have h1 := tmp_is (hB.2.1)
      go_simp
      exact hK (.int .i64 fr) wx hS (Below.refl _ wx) rfl
    · intro a wx K hS hB hR hK
      rw [if_pos (wanted_none rfl)]
      have h2 := tmp_is (hB.2.2.1)
      go_simp
      exact hK (.int .i64 id) wx hS (Below.refl _ wx) rfl
    · intro a wx K hS hB hR hK
      rw [if_pos (wanted_none rfl)]
      have h18 := tmp_is (hR.1)
      have h19 := tmp_is (hR.2.1)
      go_simp
      refine (to_f fr id wx).mono ?_
      rintro e w' ⟨rfl, hb, hs, h1, h2⟩
      exact hK _ _ (hS.trans (hb.mono hS.size)) hb ⟨wx.heap.size, rfl, hs, h1, h2⟩
    · intro a wx K hS hB hR hK
      rw [if_pos (wanted_none rfl)]
      have h17 := tmp_is (hR.1)
      obtain ⟨b0, hv, hs, h1, h2⟩ := hR.2.1
      have h20 := tmp_is hv
      go_simp
      have hca := HH.out.1.below (H1.out.1.trans (hS.mono H1.out.1.size))
      obtain ⟨A0, c0, hv0, _, hah⟩ := hca.open_
      obtain rfl : A0 = A := by injection hv0 with e1 _ _; exact e1.symm
      rw [HH.out.2.2.1] at hah
      refine (indexA_f _ _ _ fn_to A0 q c vs wx _ hah (Nat.le_refl _) (by omega) (pred_to b0 (b0 + 1) fr id wx (by omega) (by omega) h1 h2) HH.out.1.tok).mono ?_
      rintro e w' ⟨rfl, hb⟩
      exact hK _ _ (hS.trans (hb.mono hS.size)) hb rfl
    · intro a wx K hS hB hR hK
      rw [if_pos (wanted_none rfl)]
      have h21 := tmp_is (hR.1)
      go_simp
      exact hK (.int .i64 (idxA (fun s => s.f == fr && s.i == id) vs)) wx hS (Below.refl _ wx) rfl
  case fin =>
    intro a w9 hS9 ha hR
    have h11 : a.eval (.tmp 11) = .int .i64 (idxA (fun s => s.f == fr && s.i == id) vs) := deps_mem _ hR 8 (by decide)
    have H9 := Lib.hid (And.intro hS9 (H1.out.1.trans (hS9.mono H1.out.1.size)))
    clear hR hS9
    simp only [pin] at ha
    rw [ha]
    simp only [List.setIfInBounds_toArray, List.set_cons_zero, List.set_cons_succ, h11]
    clear ha h11
    have hfa := find_at HH.out.1.len HH.out.1.each fr id
    rcases hfa with ⟨hix, hfq⟩ | ⟨k, s, qa, hix, hs, hqs, hfq⟩
    · rw [hix]
      have hRn : R = none := by rw [← HH.out.2.1]; unfold findQ; rw [hfq]
      subst hRn
      clear hix hfq
      go_wp2
      go_ret2
      exact ⟨none, 0, 0, rfl, Nat.le_refl _, rfl, World.ownsRow_nil _ _ _ _, H9.out.2⟩
    · rw [hix]
      have hkq : k < q := by rw [← HH.out.2.2.1]; exact (List.getElem?_eq_some_iff.1 hs).1
      have hca := HH.out.1.below H9.out.2
      have hRq : R = if clampN now - qa.t < 247 then some qa.l else none := by rw [← HH.out.2.1]; unfold findQ; rw [hfq]
      obtain ⟨A0, c0, hv0, _, hah⟩ := hca.open_
      obtain rfl : A0 = A := by injection hv0 with e1 _ _; exact e1.symm
      rw [HH.out.2.2.1] at hah
      have hka := hca.each k s qa hs hqs
      obtain ⟨b, off, rfl, hbb, _⟩ := hah.place (by omega)
      have hrg := hah.range hs
      have hcall := living1_f w.heap.size (clampN now) s w9 (Nat.lt_of_lt_of_le H1.out.2.1 H9.out.1.size) ((H9.out.1.cell (p := ⟨w.heap.size, 0, none⟩) H1.out.2.1).trans H1.out.2.2) (clampN_in now) (HH.out.1.tok s (List.mem_of_getElem? hs))
      have hkat := hka.t
      have hcl := fun W (hb : Below w9.heap.size w9 W) => caclone_f s.A s.n s.c qa.l W _ ((hka.bs.below hb)) hb.size (by have := hka.max; omega)
      have hcc := HC.out w9 H9.out.2
      rw [← hkat] at hRq
      have d0 := hrg 0 _ rfl
      have d1 := hrg 1 _ rfl
      have d2 := hrg 2 _ rfl
      have d3 := hrg 3 _ rfl
      rw [Nat.add_zero] at d0
      have hkI : (k : Int) < q := by omega
      have hkc : (k : Int) < c := by omega
      have hD := Lib.hid fun W (hb : Below w9.heap.size w9 W) => (hb.cell (p := ⟨b, off + k * 4 + 3, none⟩) (by show b < _; omega)).trans d3
      by_cases hlv : clampN now - s.t < 247
      · rw [if_pos hlv] at hRq
        subst hRq
        rw [decide_eq_true hlv] at hcall
        have HX := Lib.hid (And.intro hcall hcl)
        clear hcall hcl hlv hix hfq hka hah hrg hca hs hqs hkat hv0 hkq
        go_wp2_with fail
        refine HX.out.1.mono ?_
        rintro e w10 ⟨rfl, b10⟩
        have hcc2 := HC.out w10 (H9.out.2.trans (b10.mono H9.out.2.size))
        have e3 := hD.out w10 b10
        have H10 := Lib.hid b10
        clear b10 hcc d0 d1 d2 d3
        go_wp2_with (go_at_call 31; refine (HX.out.2 w10 H10.out).mono ?_; rintro e w11 ⟨v11, rfl, ho, b11⟩; have hge := own_ge ho; obtain ⟨A11, c11, rfl, hc11, hb11⟩ := Bs.of_own ho; have H11 := Lib.hid (And.intro hc11 (And.intro ho b11)); clear ho hge hc11 hb11 b11)
        go_ret2
        exact ⟨A11, _, c11, rfl, H11.out.1, rfl, row_mono4 H11.out.2.1 (Nat.le_trans H9.out.2.size H10.out.size), (H9.out.2.trans (H10.out.mono H9.out.2.size)).trans (H11.out.2.2.mono (Nat.le_trans H9.out.2.size H10.out.size))⟩
      · rw [if_neg hlv] at hRq
        subst hRq
        rw [decide_eq_false hlv] at hcall
        have HX := Lib.hid hcall
        clear hcall hcl hlv hix hfq hka hah hrg hca hs hqs hkat hv0 hkq
        go_wp2_with fail
        refine HX.out.mono ?_
        rintro e w10 ⟨rfl, b10⟩
        have H10 := Lib.hid b10
        clear b10
        go_wp2
        go_ret2
        exact ⟨none, 0, 0, rfl, Nat.le_refl _, rfl, World.ownsRow_nil _ _ _ _, H9.out.2.trans (H10.out.mono H9.out.2.size)⟩
theorem cafind_f (cb : Nat) (v : Value) (vs : List An) (qs : List Qa) (w : World) (h : CaAt w cb v vs qs) (fr id now : Int) :
    Calls Try.prog 24 #[.pointer (some ⟨cb, 0, none⟩), .int .i64 fr, .int .i64 id, .int .i64 now] w (FRet (findQ qs fr id now) w) :=
  (cafind2_f cb v vs qs w h fr id now).mono fun _ _ h => h.one
def cntA (now : Int) (vs : List An) : Nat := (vs.filter (fun s => decide (clampN now - s.t < 247))).length
def cntQ (now : Int) (qs : List Qa) : Nat := (qs.filter (fun q => decide (clampN now - q.t < 247))).length
theorem cntA_next {now : Int} {vs : List An} {k : Nat} {s : An} (h : vs[k]? = some s) : cntA now (vs.take (k + 1)) = cntA now (vs.take k) + (if clampN now - s.t < 247 then 1 else 0) := by
  unfold cntA
  rw [List.take_add_one, h, List.filter_append, List.length_append]
  congr 1
  show ([s].filter _).length = _
  by_cases e : clampN now - s.t < 247
  · rw [List.filter_cons_of_pos (by simpa using e), if_pos e]; rfl
  · rw [List.filter_cons_of_neg (by simpa using e), if_neg e]; rfl
theorem cntA_le (now : Int) (vs : List An) : cntA now vs ≤ vs.length := List.length_filter_le _ _
theorem cnt_same (now : Int) : ∀ (vs : List An) (qs : List Qa), vs.length = qs.length → (∀ (k : Nat) (s : An) (q : Qa), vs[k]? = some s → qs[k]? = some q → s.t = q.t) → cntA now vs = cntQ now qs
  | [], [], _, _ => rfl
  | [], _ :: _, h, _ => by simp at h
  | _ :: _, [], h, _ => by simp at h
  | s :: vs, q :: qs, h, he => by
    have ih := cnt_same now vs qs (by simpa using h) (fun k a b ha hb => he (k + 1) a b (by simpa using ha) (by simpa using hb))
    have h0 := he 0 s q rfl rfl
    unfold cntA cntQ at ih ⊢
    by_cases e : clampN now - s.t < 247
    · rw [List.filter_cons_of_pos (by simpa using e), List.filter_cons_of_pos (by rw [← h0]; simpa using e), List.length_cons, List.length_cons, ih]
    · rw [List.filter_cons_of_neg (by simpa using e), List.filter_cons_of_neg (by rw [← h0]; simpa using e), ih]
theorem one4a (a b d : Int) (A : Option Addr) (n c : Nat) : ∀ v ∈ ([.int .i64 a, .int .i64 b, .int .i64 d, .slice A n c] : List Value), v.oneCell' = true := by
  intro v hv
  simp only [List.mem_cons, List.not_mem_nil, or_false] at hv
  rcases hv with rfl | rfl | rfl | rfl <;> rfl
theorem range_boxA (w : World) (cs : Array Value) (t : TypeId) {vs : List Value} (h : cs.toList = vs) : (w.alloc (.cells cs t)).rangeAt w.heap.size 0 vs := by
  intro j v hv
  rw [Nat.zero_add, cell_of_row _ _ _ _ _ _ (heap_alloc_new w _), ← hv, ← h, Array.getElem?_toList]
set_option maxHeartbeats 8000000 in
theorem calen_f (cb : Nat) (v : Value) (vs : List An) (qs : List Qa) (w : World) (h : CaAt w cb v vs qs) (now : Int) :
    Calls Try.prog 29 #[.pointer (some ⟨cb, 0, none⟩), .int .i64 now] w fun e w' => e = .returned (.int .i64 (cntQ now qs : Int)) ∧ Below w.heap.size w w' := by
  obtain ⟨A, c, rfl, hlc, _⟩ := h.open_
  have hcs := cnt_same now vs qs h.len (fun k s q hs hq => (h.each k s q hs hq).t)
  obtain ⟨q, hq⟩ : ∃ q, vs.length = q := ⟨_, rfl⟩
  have hfew := h.few
  have HH := Lib.hid (And.intro h (And.intro hq (And.intro hlc hcs)))
  rw [hq] at hlc hfew
  have hq8 : (q : Int) ≤ 8 := by omega
  have hca : ∀ W, Below w.heap.size w W → W.cell? ⟨cb, 0, none⟩ = some (.slice A q c) := fun W hb => by rw [← hq]; exact (h.below hb).cell
  have HC := Lib.hid hca
  clear hq h hfew hca hcs
  go_enter Try.func29, Try.ntmps29
  go_wp2_with fail
  refine (living_f now w).mono ?_
  rintro e w1 ⟨rfl, b1, s1, l1⟩
  have H1 := Lib.hid (And.intro b1 (And.intro s1 l1))
  have hcc := HC.out w1 b1
  clear b1 s1 l1
  try dsimp only
  go_wp2
  go_loopw [6, 16] (fun mv iv wr => ∃ k m : Nat, k ≤ q ∧ m ≤ k ∧ iv = .int .i64 (k : Int) ∧ mv = .int .i64 (m : Int) ∧ Aside (m = cntA now (vs.take k) ∧ Below w1.heap.size w1 wr)) (fun _ iv _ => q - (intOf iv).toNat)
  case atStart => exact ⟨0, 0, Nat.zero_le _, Nat.le_refl _, rfl, rfl, rfl, Below.refl _ _⟩
  case round =>
    obtain ⟨k, m, hk, hm, rfl, rfl, hrel⟩ := hrel
    by_cases hlt : k < q
    · have hkI : (k : Int) < q := by omega
      have hkI8 : (m : Int) ≤ 8 := by omega
      have hbel := H1.out.1.trans (hrel.out.2.mono H1.out.1.size)
      have hca := HH.out.1.below hbel
      obtain ⟨A0, c0, hv0, _, hah⟩ := hca.open_
      obtain rfl : A0 = A := by injection hv0 with e1 _ _; exact e1.symm
      rw [HH.out.2.1] at hah
      obtain ⟨s, hs⟩ := an_get hah hlt
      obtain ⟨b, off, rfl, hbb, _⟩ := hah.place (by omega)
      have hrg := hah.range hs
      have hnx := cntA_next (now := now) hs
      have hr1 := range_boxA wr #[.int .i64 s.f, .int .i64 s.i, .int .i64 s.t, .slice s.A s.n s.c] 110 rfl
      have hcall := fun W (hb : Below wr.heap.size wr W) => living1_f w.heap.size (clampN now) s W (Nat.lt_of_lt_of_le H1.out.2.1 (Nat.le_trans hrel.out.2.size hb.size)) (((hrel.out.2.trans (hb.mono hrel.out.2.size)).cell (p := ⟨w.heap.size, 0, none⟩) H1.out.2.1).trans H1.out.2.2) (clampN_in now) (HH.out.1.tok s (List.mem_of_getElem? hs))
      simp only [An.vals] at hrg
      by_cases hlv : clampN now - s.t < 247
      · rw [decide_eq_true hlv] at hcall
        rw [if_pos hlv] at hnx
        have HX := Lib.hid (And.intro hcall (And.intro hnx hrel.out))
        clear hcall hnx hrel hbel hca hah hv0 hlv hs
        go_wp2_with (first
          | (refine wpList_load_mid rfl 110 (.tmp 18) rfl b (off + k * 4) rfl [.int .i64 s.f, .int .i64 s.i, .int .i64 s.t, .slice s.A s.n s.c] _ hrg Try.underlying110 rfl size_an ?_)
          | (refine wpList_load_mid rfl 110 (.tmp 8) rfl wr.heap.size 0 rfl [.int .i64 s.f, .int .i64 s.i, .int .i64 s.t, .slice s.A s.n s.c] _ hr1 Try.underlying110 rfl size_an ?_))
        refine (HX.out.1 _ (alloc_below wr _)).mono ?_
        rintro e w5 ⟨rfl, b5⟩
        have H5 := Lib.hid b5
        clear b5 hr1 hrg
        go_wp2
        go_roundw
        case rel =>
          refine ⟨k + 1, m + 1, by omega, by omega, by first | rfl | go_num, by first | rfl | go_num, by rw [HX.out.2.1, HX.out.2.2.1], HX.out.2.2.2.trans (((alloc_below wr _).trans (H5.out.mono (by rw [alloc_size]; omega))).mono HX.out.2.2.2.size)⟩
        case measure => simp [intOf]; omega
      · rw [decide_eq_false hlv] at hcall
        rw [if_neg hlv] at hnx
        have HX := Lib.hid (And.intro hcall (And.intro hnx hrel.out))
        clear hcall hnx hrel hbel hca hah hv0 hlv hs
        go_wp2_with (first
          | (refine wpList_load_mid rfl 110 (.tmp 18) rfl b (off + k * 4) rfl [.int .i64 s.f, .int .i64 s.i, .int .i64 s.t, .slice s.A s.n s.c] _ hrg Try.underlying110 rfl size_an ?_)
          | (refine wpList_load_mid rfl 110 (.tmp 8) rfl wr.heap.size 0 rfl [.int .i64 s.f, .int .i64 s.i, .int .i64 s.t, .slice s.A s.n s.c] _ hr1 Try.underlying110 rfl size_an ?_))
        refine (HX.out.1 _ (alloc_below wr _)).mono ?_
        rintro e w5 ⟨rfl, b5⟩
        have H5 := Lib.hid b5
        clear b5 hr1 hrg
        go_wp2
        go_roundw
        case rel =>
          refine ⟨k + 1, m, by omega, by omega, by first | rfl | go_num, rfl, by rw [HX.out.2.1, Nat.add_zero, HX.out.2.2.1], HX.out.2.2.2.trans (((alloc_below wr _).trans (H5.out.mono (by rw [alloc_size]; omega))).mono HX.out.2.2.2.size)⟩
        case measure => simp [intOf]; omega
    · obtain rfl : k = q := by omega
      have hkI : ¬ (k : Int) < k := by omega
      have hfin : m = cntQ now qs := by
        rw [hrel.out.1, ← HH.out.2.2.2, List.take_of_length_le (by rw [HH.out.2.1]; exact Nat.le_refl _)]
      have HF := Lib.hid (And.intro hfin hrel.out.2)
      clear hfin hrel
      go_wp2
      go_ret
      exact ⟨by rw [← HF.out.1]; rfl, H1.out.1.trans (HF.out.2.mono H1.out.1.size)⟩
end Go.Proofs.Ytfbddldcbjhmiaa
