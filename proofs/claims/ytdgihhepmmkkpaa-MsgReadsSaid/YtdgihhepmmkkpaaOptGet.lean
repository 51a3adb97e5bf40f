/-
  Options looked up, left out, added.
-/
import Derived.Test.YtdgihhepmmkkpaaOptNum
import Derived.Test.YtdgihhepmmkkpaaJArgs
namespace Go.Proofs.Ytdgihhepmmkkpaa
open Go.RowKit
set_option maxRecDepth 100000
set_option linter.unusedVariables false
/-- Options returned. -/
def RetOs (ps : List (Int × List UInt8)) (w : World) (e : Ending) (w' : World) : Prop :=
  ∃ A n c us, e = .returned (.slice A n c) ∧ (n ≤ c ∧ c ≤ maxLen) ∧ Hid (n = ps.length) ∧ Os w' w'.heap.size A n us ps ∧ Below w.heap.size w w'
theorem RetOpts.ret {ps : List (Int × List UInt8)} {w w' : World} {e : Ending} (h : RetOpts ps w e w') : RetOs ps w e w' := h.slice_
theorem RetOs.trans {ps : List (Int × List UInt8)} {w w1 w' : World} {e : Ending} (h : RetOs ps w1 e w') (hb : Below w.heap.size w w1) : RetOs ps w e w' := by
  obtain ⟨A, n, c, us, h1, h2, h3, h4, h5⟩ := h
  exact ⟨A, n, c, us, h1, h2, h3, h4, hb.trans (h5.mono hb.size)⟩
theorem Os.mx {w : World} {B n : Nat} {A : Option Addr} {vs : List Sv} {ps : List (Int × List UInt8)} (h : Os w B A n vs ps) {m : Nat} (hm : ∀ x ∈ ps, x.2.length ≤ m) : ∀ s ∈ vs, s.n ≤ m := by
  intro s hs
  obtain ⟨i, hi⟩ := List.mem_iff_getElem?.1 hs
  obtain ⟨l, hl, hb⟩ := h.get hi
  have := hm _ (List.mem_of_getElem? hl)
  have e := hb.len
  simp only at this
  omega
/-- With one more, ahead of the first of a greater number. -/
def addO (num : Int) (l : List UInt8) : List (Int × List UInt8) → List (Int × List UInt8)
  | [] => [(num, l)]
  | x :: r => if num < x.1 then (num, l) :: x :: r else x :: addO num l r
theorem addO_at (num : Int) (l : List UInt8) : ∀ (ps : List (Int × List UInt8)) (k : Nat), k ≤ ps.length → (∀ (j : Nat) (x : Int × List UInt8), j < k → ps[j]? = some x → ¬ num < x.1) → (∀ x, ps[k]? = some x → num < x.1) → addO num l ps = ps.take k ++ [(num, l)] ++ ps.drop k
  | [], k, hk, _, _ => by
    have : k = 0 := by simpa using hk
    subst this; rfl
  | x :: r, 0, _, _, h2 => by
    rw [addO, if_pos (h2 x rfl)]; rfl
  | x :: r, k + 1, hk, h1, h2 => by
    rw [addO, if_neg (h1 0 x (by omega) rfl), addO_at num l r k (by simpa using hk) (fun j y hj hy => h1 (j + 1) y (by omega) hy) (fun y hy => h2 y hy)]
    rfl
theorem addO_len (num : Int) (l : List UInt8) (ps : List (Int × List UInt8)) : (addO num l ps).length = ps.length + 1 := by
  induction ps with
  | nil => rfl
  | cons x r ih =>
    rw [addO]
    split
    · rfl
    · rw [List.length_cons, ih]; rfl
theorem addO_mem (num : Int) (l : List UInt8) (ps : List (Int × List UInt8)) : ∀ x ∈ addO num l ps, x = (num, l) ∨ x ∈ ps := by
  induction ps with
  | nil => intro x hx; left; simpa [addO] using hx
  | cons y r ih =>
    intro x hx
    rw [addO] at hx
    split at hx
    · rcases List.mem_cons.1 hx with h | h
      · exact .inl h
      · exact .inr h
    · rcases List.mem_cons.1 hx with h | h
      · exact .inr (h ▸ List.mem_cons_self)
      · rcases ih x h with h | h
        · exact .inl h
        · exact .inr (List.mem_cons_of_mem _ h)
end Go.Proofs.Ytdgihhepmmkkpaa
