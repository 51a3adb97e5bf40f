/-
  Answers that are kept: a slice of three numbers with bytes.
-/
import Derived.Test.YtdlgemlpbpbhcaaCrcWalks
import Derived.Test.YtdlgemlpbpbhcaaMem
import Derived.BigQuiet
import Derived.Deep.LoopGhost
namespace Go.Proofs.Ytdlgemlpbpbhcaa
open Go.RowKit
set_option maxRecDepth 100000
set_option linter.unusedVariables false
/-- An answer as it lies: whose it is, which message's, when it was kept, where its bytes are. -/
structure An where
  f : Int
  i : Int
  t : Int
  A : Option Addr
  n : Nat
  c : Nat
def An.vals (s : An) : List Value := [.int .i64 s.f, .int .i64 s.i, .int .i64 s.t, .slice s.A s.n s.c]
def ans (vs : List An) : List Value := vs.flatMap An.vals
theorem ans_nil : ans [] = [] := rfl
theorem ans_cons (s : An) (vs : List An) : ans (s :: vs) = .int .i64 s.f :: .int .i64 s.i :: .int .i64 s.t :: .slice s.A s.n s.c :: ans vs := rfl
theorem ans_append (a b : List An) : ans (a ++ b) = ans a ++ ans b := List.flatMap_append
theorem ans_length (vs : List An) : (ans vs).length = vs.length * 4 := by
  induction vs with
  | nil => rfl
  | cons s vs ih => rw [ans_cons, List.length_cons, List.length_cons, List.length_cons, List.length_cons, List.length_cons, ih]; omega
theorem ans_get : ∀ (vs : List An) (i : Nat) (s : An) (j : Nat) (u : Value), vs[i]? = some s → s.vals[j]? = some u → (ans vs)[i * 4 + j]? = some u
  | [], i, s, j, u, h, _ => by simp at h
  | a :: vs, 0, s, j, u, h, hj => by
    obtain rfl := Option.some.inj h
    match j, hj with
    | 0, hj => exact hj
    | 1, hj => exact hj
    | 2, hj => exact hj
    | 3, hj => exact hj
    | j + 4, hj => simp [An.vals] at hj
  | a :: vs, i + 1, s, j, u, h, hj => by
    rw [List.getElem?_cons_succ] at h
    rw [ans_cons, show (i + 1) * 4 + j = i * 4 + j + 1 + 1 + 1 + 1 by omega]
    exact ans_get vs i s j u h hj
theorem ans_at : ∀ (vs : List An) (k : Nat) (u : Value), (ans vs)[k]? = some u → ∃ i j s, vs[i]? = some s ∧ s.vals[j]? = some u ∧ k = i * 4 + j
  | [], k, u, h => by simp [ans] at h
  | a :: vs, 0, u, h => ⟨0, 0, a, rfl, h, rfl⟩
  | a :: vs, 1, u, h => ⟨0, 1, a, rfl, h, rfl⟩
  | a :: vs, 2, u, h => ⟨0, 2, a, rfl, h, rfl⟩
  | a :: vs, 3, u, h => ⟨0, 3, a, rfl, h, rfl⟩
  | a :: vs, k + 4, u, h => by
    obtain ⟨i, j, s, h1, h2, h3⟩ := ans_at vs k u h
    exact ⟨i + 1, j, s, h1, h2, by omega⟩
theorem ans_one (vs : List An) : ∀ u ∈ ans vs, u.oneCell' = true := by
  intro u hu
  obtain ⟨k, hk⟩ := List.mem_iff_getElem?.1 hu
  obtain ⟨i, j, s, _, h2, _⟩ := ans_at vs k u hk
  match j, h2 with
  | 0, h2 => obtain rfl := Option.some.inj h2; rfl
  | 1, h2 => obtain rfl := Option.some.inj h2; rfl
  | 2, h2 => obtain rfl := Option.some.inj h2; rfl
  | 3, h2 => obtain rfl := Option.some.inj h2; rfl
  | j + 4, h2 => simp [An.vals] at h2
/-- A slice of answers as they lie. -/
structure Ah (w : World) (B : Nat) (A : Option Addr) (n : Nat) (vs : List An) : Prop where
  len : vs.length = n
  place : 0 < n → ∃ b off, A = some ⟨b, off, none⟩ ∧ b < B ∧ ∀ (i : Nat) (s : An), vs[i]? = some s → w.rangeAt b (off + i * 4) s.vals
section
variable {w w' : World} {B B' n : Nat} {A : Option Addr} {vs : List An}
theorem an_get (h : Ah w B A n vs) {k : Nat} (hk : k < n) : ∃ s, vs[k]? = some s := ⟨_, List.getElem?_eq_getElem (by have := h.len; omega)⟩
theorem Ah.nil_ (w : World) (B : Nat) (A : Option Addr) : Ah w B A 0 [] := ⟨rfl, fun h => absurd h (by omega)⟩
theorem Ah.keep (h : Ah w B A n vs) (hk : ∀ p : Addr, p.block < B → w'.cell? p = w.cell? p) : Ah w' B A n vs :=
  ⟨h.len, fun hn => by
    obtain ⟨b, off, e, hb, hc⟩ := h.place hn
    exact ⟨b, off, e, hb, fun i s hs j v hj => (hk ⟨b, off + i * 4 + j, none⟩ hb).trans (hc i s hs j v hj)⟩⟩
theorem Ah.below (h : Ah w B A n vs) (hb : Below B w w') : Ah w' B A n vs := h.keep fun _ hp => hb.cell hp
theorem Ah.below' (h : Ah w B A n vs) (hb : Below B' w w') (hB : B ≤ B') : Ah w' B A n vs := h.keep fun _ hp => hb.cell (by omega)
theorem Ah.more (h : Ah w B A n vs) (hB : B ≤ B') : Ah w B' A n vs :=
  ⟨h.len, fun hn => by
    obtain ⟨b, off, e, hb, hc⟩ := h.place hn
    exact ⟨b, off, e, by omega, hc⟩⟩
theorem Ah.range {b off : Nat} (h : Ah w B (some ⟨b, off, none⟩) n vs) {k : Nat} {s : An} (hs : vs[k]? = some s) : w.rangeAt b (off + k * 4) s.vals := by
  obtain ⟨b', off', e, _, hc⟩ := h.place (by have := (List.getElem?_eq_some_iff.1 hs).1; have := h.len; omega)
  injection e with e
  injection e with e1 e2
  subst e1 e2
  exact hc k s hs
theorem Ah.of_own {base : Nat} {e : TypeId} {v : Value} (h : w.ownsRow base e 4 v n (ans vs)) : ∃ A c, v = .slice A n c ∧ n ≤ c ∧ Ah w w.heap.size A n vs := by
  have hlen : vs.length = n := by have := h.1; rw [ans_length] at this; omega
  have h' := h
  rcases h.2 with ⟨rfl, hn⟩ | ⟨g, cap, cur, rfl, hbg, hg, hnc, _, hcs, htake⟩
  · subst hn
    have : vs = [] := List.eq_nil_of_length_eq_zero hlen
    subst this
    exact ⟨Option.none, 0, rfl, Nat.le_refl _, Ah.nil_ _ _ _⟩
  · refine ⟨_, cap, rfl, hnc, hlen, fun hn => ⟨g, 0, rfl, (Array.getElem?_eq_some_iff.1 hg).1, fun i s hs j u hj => ?_⟩⟩
    have hil := (List.getElem?_eq_some_iff.1 hs).1
    have hj4 : j < 4 := by have := (List.getElem?_eq_some_iff.1 hj).1; exact this
    rw [Nat.zero_add, h'.cellAt (i * 4 + j) (by omega)]
    exact ans_get vs i s j u hs hj
theorem Ah.cut (h : Ah w B A n vs) {lo hi c : Nat} (hlo : lo ≤ hi) (hhi : hi ≤ n) (hc : n ≤ c) {A' : Option Addr} (hA : A' = if c = lo then A else A.map (·.add (lo * 4))) : Ah w B A' (hi - lo) ((vs.take hi).drop lo) := by
  refine ⟨by rw [List.length_drop, List.length_take, h.len]; omega, fun hn => ?_⟩
  obtain ⟨b, off, rfl, hb, hcell⟩ := h.place (by omega)
  rw [if_neg (by omega)] at hA
  refine ⟨b, off + lo * 4, by rw [hA]; simp [Addr.add], hb, fun i s hs => ?_⟩
  rw [List.getElem?_drop] at hs
  have hl : lo + i < hi := by have := (List.getElem?_eq_some_iff.1 hs).1; rw [List.length_take] at this; omega
  rw [List.getElem?_take_of_lt hl] at hs
  have := hcell _ s hs
  rw [show off + lo * 4 + i * 4 = off + (lo + i) * 4 by omega]
  exact this
end
theorem size_an : (Try.prog.info? 48).map (·.size) = some 4 := by kernel_rfl
def An.agg (s : An) : Value := .agg #[.int .i64 s.f, .int .i64 s.i, .int .i64 s.t, .slice s.A s.n s.c]
/-- A predicate that is handed in. -/
def PredA (g : Nat) (lb : Array Value) (p : An → Bool) (w : World) : Prop :=
  ∀ (W : World) (s : An), Below w.heap.size w W → 0 ≤ s.t ∧ s.t ≤ 1099511627776 → Calls Try.prog g (#[.agg #[.int .i64 s.f, .int .i64 s.i, .int .i64 s.t, .slice s.A s.n s.c]] ++ lb) W fun e w' => e = .returned (.bool (p s)) ∧ Below W.heap.size W w'
theorem PredA.later {g : Nat} {lb : Array Value} {p : An → Bool} {w W : World} (h : PredA g lb p w) (hb : Below w.heap.size w W) : PredA g lb p W :=
  fun W' s hb' ht => h W' s (hb.trans (hb'.mono hb.size)) ht
def FnA (g : Nat) : Prop := ∀ args w, (callFunc g args).run Try.prog w = .ok (.enter g args) w
theorem fn_to : FnA 28 := enters_of Try.func28 (by kernel_rfl) rfl
theorem fn_living : FnA 31 := enters_of Try.func31 (by kernel_rfl) rfl
theorem fn_keep : FnA 22 := enters_of Try.func22 (by kernel_rfl) rfl
end Go.Proofs.Ytdlgemlpbpbhcaa
