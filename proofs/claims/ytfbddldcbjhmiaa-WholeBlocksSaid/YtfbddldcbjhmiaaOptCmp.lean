/-
  Options in order: compared, sorted by insertion.
-/
import Derived.Test.YtfbddldcbjhmiaaOptDel
import Derived.StillTailTactics
import Derived.RegionTactic
namespace Go.Proofs.Ytfbddldcbjhmiaa
open Go.RowKit
set_option maxRecDepth 100000
set_option linter.unusedVariables false
def cmpI (a b : Int) : Int := if a < b then -1 else if b < a then 1 else 0
theorem nan_f (x : Int) (w : World) : Calls Try.prog 87 #[.int .i64 x] w fun e w' => e = .returned (.bool false) ∧ w' = w := by
  have hx : (x != x) = false := bne_self_eq_false _
  go_enter Try.func87, Try.ntmps87
  go_wp2
  go_ret
  exact ⟨rfl, rfl⟩
theorem compare_f (a b : Int) (w : World) : Calls Try.prog 72 #[.int .i64 a, .int .i64 b] w fun e w' => e = .returned (.int .i64 (cmpI a b)) ∧ w' = w := by
  have ret : ∀ {x y : Int}, x = y → Ending.returned (.int .i64 x) = .returned (.int .i64 y) := fun h => by rw [h]
  by_cases h1 : a < b
  · have hr : cmpI a b = -1 := by unfold cmpI; rw [if_pos h1]
    have HR := Lib.hid hr
    clear hr
    go_enter Try.func72, Try.ntmps72
    go_wp2_with (first | (go_at_call 87; refine (nan_f _ _).mono ?_; rintro e w' ⟨rfl, hw⟩; obtain rfl := hw.symm))
    go_ret
    exact ⟨ret HR.out.symm, rfl⟩
  · by_cases h2 : b < a
    · have hr : cmpI a b = 1 := by unfold cmpI; rw [if_neg h1, if_pos h2]
      have HR := Lib.hid hr
      clear hr
      go_enter Try.func72, Try.ntmps72
      go_wp2_with (first | (go_at_call 87; refine (nan_f _ _).mono ?_; rintro e w' ⟨rfl, hw⟩; obtain rfl := hw.symm))
      go_ret
      exact ⟨ret HR.out.symm, rfl⟩
    · have hr : cmpI a b = 0 := by unfold cmpI; rw [if_neg h1, if_neg h2]
      have HR := Lib.hid hr
      clear hr
      go_enter Try.func72, Try.ntmps72
      go_wp2_with (first | (go_at_call 87; refine (nan_f _ _).mono ?_; rintro e w' ⟨rfl, hw⟩; obtain rfl := hw.symm))
      go_ret
      exact ⟨ret HR.out.symm, rfl⟩
theorem cmpI_lt (a b : Int) : decide (cmpI a b < 0) = decide (a < b) := by
  unfold cmpI
  by_cases h1 : a < b
  · rw [if_pos h1, decide_eq_true h1]; rfl
  · rw [if_neg h1, decide_eq_false h1]
    by_cases h2 : b < a
    · rw [if_pos h2]; rfl
    · rw [if_neg h2]; rfl
theorem cmp_f (s t : Sv) (w : World) : Calls Try.prog 71 #[.agg #[.int .i64 s.k, .slice s.A s.n s.c], .agg #[.int .i64 t.k, .slice t.A t.n t.c]] w fun e w' => e = .returned (.int .i64 (cmpI s.k t.k)) ∧ Below w.heap.size w w' := by
  go_enter Try.func71, Try.ntmps71
  go_wp2_with (go_at_call 72; refine (compare_f _ _ _).mono ?_; rintro e w' ⟨rfl, hw⟩; obtain rfl := hw.symm)
  go_ret
  exact ⟨rfl, ((Below.refl _ _).alloc (Nat.le_refl _) _).alloc (by rw [alloc_size]; omega) _⟩
/-- One option put in, behind those that are no greater. -/
def insS (s : Sv) : List Sv → List Sv
  | [] => [s]
  | x :: r => if s.k < x.k then s :: x :: r else x :: insS s r
def sortS (vs : List Sv) : List Sv := vs.foldl (fun acc s => insS s acc) []
def Up (vs : List Sv) : Prop := vs.Pairwise fun a b => a.k ≤ b.k
theorem insS_mem (s : Sv) (P : List Sv) : ∀ x, x ∈ insS s P ↔ x = s ∨ x ∈ P := by
  induction P with
  | nil => intro x; simp [insS]
  | cons y r ih =>
    intro x
    rw [insS]
    split
    · simp
    · rw [List.mem_cons, ih, List.mem_cons]
      constructor
      · rintro (h | h | h)
        · exact .inr (.inl h)
        · exact .inl h
        · exact .inr (.inr h)
      · rintro (h | h | h)
        · exact .inr (.inl h)
        · exact .inl h
        · exact .inr (.inr h)
theorem insS_len (s : Sv) (P : List Sv) : (insS s P).length = P.length + 1 := by
  induction P with
  | nil => rfl
  | cons y r ih =>
    rw [insS]
    split
    · rfl
    · rw [List.length_cons, ih]; rfl
theorem insS_up {s : Sv} {P : List Sv} (h : Up P) : Up (insS s P) := by
  induction P with
  | nil => exact List.pairwise_singleton _ _
  | cons y r ih =>
    rw [insS]
    unfold Up at h
    rw [List.pairwise_cons] at h
    split
    · rename_i hlt
      refine List.pairwise_cons.2 ⟨fun x hx => ?_, List.pairwise_cons.2 h⟩
      rcases List.mem_cons.1 hx with rfl | hx
      · omega
      · have := h.1 x hx; omega
    · rename_i hlt
      refine List.pairwise_cons.2 ⟨fun x hx => ?_, ih h.2⟩
      rcases (insS_mem s r x).1 hx with rfl | hx
      · omega
      · exact h.1 x hx
theorem sortS_snoc (vs : List Sv) (s : Sv) : sortS (vs ++ [s]) = insS s (sortS vs) := by unfold sortS; rw [List.foldl_append]; rfl
theorem sortS_up (vs : List Sv) : Up (sortS vs) := by
  suffices h : ∀ r : List Sv, Up (sortS r.reverse) by have := h vs.reverse; rwa [List.reverse_reverse] at this
  intro r
  induction r with
  | nil => exact List.Pairwise.nil
  | cons s r ih => rw [List.reverse_cons, sortS_snoc]; exact insS_up ih
theorem sortS_len (vs : List Sv) : (sortS vs).length = vs.length := by
  suffices h : ∀ r : List Sv, (sortS r.reverse).length = r.length by have := h vs.reverse; rwa [List.reverse_reverse, List.length_reverse] at this
  intro r
  induction r with
  | nil => rfl
  | cons s r ih => rw [List.reverse_cons, sortS_snoc, insS_len, ih]; rfl
theorem sortS_mem (vs : List Sv) : ∀ x, x ∈ sortS vs ↔ x ∈ vs := by
  suffices h : ∀ (r : List Sv) (x : Sv), x ∈ sortS r.reverse ↔ x ∈ r by intro x; have := h vs.reverse x; rw [List.reverse_reverse] at this; rw [this, List.mem_reverse]
  intro r
  induction r with
  | nil => intro x; exact Iff.rfl
  | cons s r ih => intro x; rw [List.reverse_cons, sortS_snoc, insS_mem, ih, List.mem_cons]
theorem insS_at {s : Sv} : ∀ (P : List Sv) (q : Nat), q ≤ P.length → (∀ x ∈ P.take q, ¬ s.k < x.k) → (∀ x, P[q]? = some x → s.k < x.k) → insS s P = P.take q ++ [s] ++ P.drop q
  | [], q, hq, _, _ => by
    have : q = 0 := by simpa using hq
    subst this; rfl
  | x :: r, 0, _, _, h2 => by rw [insS, if_pos (h2 x rfl)]; rfl
  | x :: r, q + 1, hq, h1, h2 => by
    rw [insS, if_neg (h1 x (by simp)), insS_at r q (by simpa using hq) (fun y hy => h1 y (by simp [hy])) (fun y hy => h2 y hy)]
    rfl
/-- Where a sorted row takes an option. -/
theorem insS_here {s : Sv} {P : List Sv} {q : Nat} (hu : Up P) (hq : q ≤ P.length) (h1 : ∀ (x : Sv), 0 < q → P[q - 1]? = some x → ¬ s.k < x.k) (h2 : ∀ x, P[q]? = some x → s.k < x.k) : insS s P = P.take q ++ [s] ++ P.drop q := by
  refine insS_at P q hq (fun x hx => ?_) h2
  obtain ⟨j, hj⟩ := List.mem_iff_getElem?.1 hx
  have hjq : j < q := by have := (List.getElem?_eq_some_iff.1 hj).1; rw [List.length_take] at this; omega
  rw [List.getElem?_take_of_lt hjq] at hj
  obtain ⟨y, hy⟩ : ∃ y, P[q - 1]? = some y := ⟨_, List.getElem?_eq_getElem (by omega)⟩
  have h3 := h1 y (by omega) hy
  by_cases e : j = q - 1
  · subst e
    rw [hy] at hj
    obtain rfl := Option.some.inj hj
    exact h3
  · have hle : x.k ≤ y.k := by
      obtain ⟨a1, a2⟩ := List.getElem?_eq_some_iff.1 hj
      obtain ⟨b1, b2⟩ := List.getElem?_eq_some_iff.1 hy
      have := List.pairwise_iff_getElem.1 hu j (q - 1) a1 b1 (by omega)
      rw [a2, b2] at this
      exact this
    omega
end Go.Proofs.Ytfbddldcbjhmiaa
