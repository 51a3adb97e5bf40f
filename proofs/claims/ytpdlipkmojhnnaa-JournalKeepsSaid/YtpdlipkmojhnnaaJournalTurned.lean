/-
  A journal's values but for one key's; with one more.
-/
import Derived.Test.YtpdlipkmojhnnaaJournalSizes
namespace Go.Proofs.Ytpdlipkmojhnnaa
open Go.RowKit Go.Maps Go.Shelf
set_option maxRecDepth 100000
/-- The values but for a key's. -/
def dropV (V : Int → Option (List UInt8)) (key : Int) : Int → Option (List UInt8) := fun k => if k = key then none else V k
/-- The values, a key's anew. -/
def putV (V : Int → Option (List UInt8)) (key : Int) (l : List UInt8) : Int → Option (List UInt8) := fun k => if k = key then some l else V k
theorem merge_nothing {w : World} {b n : Nat} {D : DataW Value} (h : w.ownsMap Try.prog 3 hdr b n D) : Lib.mergeD (.map []) D = D := by
  have hM : Merged D (.map []) D (fun _ => false) := ⟨fun k => by simp [Maps.has], fun k z => by
    cases hh : Maps.has D k with
    | true => simp
    | false => rw [atKey_of_not_has hh]; simp [DataW.atKey]⟩
  have cd : CanonK (KeysOf Try.prog 3) (.map [] : DataW Value) := ⟨[], rfl, List.Pairwise.nil, fun p hp => by cases hp⟩
  exact (merged_eq law3.one hM (fun _ => rfl) (h.canon law3) cd (h.canonK law3)).symm
theorem int_ne {a b : Int} (h : a ≠ b) : (Lit.int .i64 a) ≠ Lit.int .i64 b := fun e => h (by cases e; rfl)
theorem rest_has {w : World} {pv : Option Nat} {D : DataW Value} (h : SrcOf Try.prog 3 hdr w pv D) (key k : Int) : Maps.has (restOf D key) (.int .i64 k) = (!decide (k = key) && Maps.has D (.int .i64 k)) := by
  unfold restOf
  rcases h with ⟨_, rfl⟩ | ⟨b, n, _, ho⟩
  · show Maps.has ((DataW.map []).del _) _ = _
    by_cases e : k = key
    · subst e; rw [has_del_same]; simp
    · rw [has_del_other (int_ne e)]; simp [Maps.has]
  · rw [merge_nothing ho]
    by_cases e : k = key
    · subst e; rw [has_del_same]; simp
    · rw [has_del_other (int_ne e)]; simp [e]
theorem rest_at {w : World} {pv : Option Nat} {D : DataW Value} (h : SrcOf Try.prog 3 hdr w pv D) (key k : Int) (z : DataW Value) (e : k ≠ key) : (restOf D key).atKey (.int .i64 k) z = D.atKey (.int .i64 k) z := by
  unfold restOf
  rcases h with ⟨_, rfl⟩ | ⟨b, n, _, ho⟩
  · show ((DataW.map []).del _).atKey _ z = _
    rw [atKey_del_other (int_ne e)]; rfl
  · rw [merge_nothing ho, atKey_del_other (int_ne e)]
/-- What others leaves. -/
theorem Vals.rest {w w' : World} {lo : Nat} {pv : Option Nat} {D : DataW Value} {V : Int → Option (List UInt8)} (h : Vals w lo pv D V) (key : Int) {b n : Nat} (ho : w'.ownsMap Try.prog 3 hdr b n (restOf D key)) (hb : Below w.heap.size w w') (hlo : lo ≤ b) :
    Vals w' lo (some b) (restOf D key) (dropV V key) := by
  have hs := h.src
  have h' := h.below hb
  refine ⟨.inr ⟨b, n, rfl, ho⟩, fun k => ?_, fun k l hl => ?_, fun b' e => by cases e; exact hlo, fun k hk => ?_, fun k l hl => ?_⟩
  · rw [rest_has hs, h.has]; unfold dropV
    by_cases e : k = key <;> simp [e]
  · unfold dropV at hl
    by_cases e : k = key
    · rw [if_pos e] at hl; cases hl
    · rw [if_neg e] at hl
      rw [rest_at hs key k _ e]
      exact h'.at_ k l hl
  · unfold dropV at hk
    by_cases e : k = key
    · rw [if_pos e] at hk; cases hk
    · rw [if_neg e] at hk; exact h.keys k hk
  · unfold dropV at hl
    by_cases e : k = key
    · rw [if_pos e] at hl; cases hl
    · rw [if_neg e] at hl; exact h.short k l hl
/-- What a store leaves. -/
theorem Vals.put {w w' : World} {lo b n : Nat} {D : DataW Value} {V : Int → Option (List UInt8)} (h : Vals w lo (some b) D V) (key : Int) (A : Option Addr) (c : Nat) (l : List UInt8)
    (ho : w'.ownsMap Try.prog 3 hdr b n (D.put (.int .i64 key) (.held (.slice A l.length c)))) (hg : w.grownBy w' (some b)) (hb : Bs w w.heap.size A l.length l) (hoff : Off b A) (hc : l.length ≤ c) (hlo : ∀ a, A = some a → lo ≤ a.block)
    (hvoff : ∀ k l', V k = some l' → ∀ A' c', D.atKey (.int .i64 k) (.held (.slice none 0 0)) = .held (.slice A' l'.length c') → Off b A') (hk0 : 0 ≤ key) (hk1 : key < 32) (hl : l.length ≤ 250) :
    Vals w' lo (some b) (D.put (.int .i64 key) (.held (.slice A l.length c))) (putV V key l) := by
  have hkeep : ∀ p : Addr, p.block < w.heap.size → p.block ≠ b → w'.cell? p = w.cell? p := fun p h1 h2 => World.cell?_of_block (w := w) (hg.block p.block h1 (fun e => h2 (Option.some.inj e)))
  have hm : IsMap D := by
    rcases h.src with ⟨e, _⟩ | ⟨b', n', _, ho'⟩
    · cases e
    · exact ho'.isMap
  have hkey : WideAt.IsKeyLit (.int .i64 key) := trivial
  refine ⟨.inr ⟨b, n, rfl, ho⟩, fun k => ?_, fun k l' hl' => ?_, h.low, fun k hk => ?_, fun k l' hl' => ?_⟩
  · unfold putV
    by_cases e : k = key
    · subst e; rw [has_put_same hm hkey, if_pos rfl]; rfl
    · rw [has_put_other (int_ne e), if_neg e, h.has]
  · unfold putV at hl'
    by_cases e : k = key
    · subst e
      rw [if_pos rfl] at hl'
      cases hl'
      rw [atKey_put_same hm hkey]
      exact ⟨A, c, rfl, (hb.keepOff hoff hkeep).more hg.size, hc, hlo⟩
    · rw [if_neg e] at hl'
      rw [atKey_put_other (int_ne e)]
      obtain ⟨A', c', h1, h2, h3, h4⟩ := h.at_ k l' hl'
      exact ⟨A', c', h1, (h2.keepOff (hvoff k l' hl' A' c' h1) hkeep).more hg.size, h3, h4⟩
  · unfold putV at hk
    by_cases e : k = key
    · subst e; exact ⟨hk0, hk1⟩
    · rw [if_neg e] at hk; exact h.keys k hk
  · unfold putV at hl'
    by_cases e : k = key
    · rw [if_pos e] at hl'; cases hl'; exact hl
    · rw [if_neg e] at hl'; exact h.short k l' hl'
end Go.Proofs.Ytpdlipkmojhnnaa
