/-
  The document's sorting of options.
-/
import Derived.Test.YtfbddldcbjhmiaaOptRAdd
namespace Go.Proofs.Ytfbddldcbjhmiaa
open Go.RowKit
set_option maxRecDepth 100000
set_option linter.unusedVariables false
theorem Os.keep_ {w w' : World} {B n : Nat} {A : Option Addr} {vs : List Sv} {ps : List (Int × List UInt8)} (h : Os w B A n vs ps) (hk : ∀ p : Addr, p.block < B → w'.cell? p = w.cell? p) : Os w' B A n vs ps := ⟨h.sh.keep hk, h.dp.keep hk, (h.dp.rd_keep hk).trans h.eq⟩
theorem sortP_snoc (ps : List (Int × List UInt8)) (x : Int × List UInt8) : sortP (ps ++ [x]) = addO x.1 x.2 (sortP ps) := by unfold sortP; rw [List.foldl_append]; rfl
theorem sortP_len (ps : List (Int × List UInt8)) : (sortP ps).length = ps.length := by
  suffices h : ∀ r : List (Int × List UInt8), (sortP r.reverse).length = r.length by have := h ps.reverse; rwa [List.reverse_reverse, List.length_reverse] at this
  intro r
  induction r with
  | nil => rfl
  | cons s r ih => rw [List.reverse_cons, sortP_snoc, addO_len, ih]; rfl
theorem sortP_mem (ps : List (Int × List UInt8)) : ∀ x, x ∈ sortP ps → x ∈ ps := by
  suffices h : ∀ (r : List (Int × List UInt8)) (x : Int × List UInt8), x ∈ sortP r.reverse → x ∈ r by intro x hx; have := h ps.reverse x (by rwa [List.reverse_reverse]); exact List.mem_reverse.1 this
  intro r
  induction r with
  | nil => intro x hx; exact hx
  | cons s r ih =>
    intro x hx
    rw [List.reverse_cons, sortP_snoc] at hx
    rcases addO_mem _ _ _ x hx with h | h
    · rw [h]; exact List.mem_cons_self
    · exact List.mem_cons_of_mem _ (ih x h)
def Upp (ps : List (Int × List UInt8)) : Prop := ps.Pairwise fun a b => a.1 ≤ b.1
theorem addO_up {num : Int} {l : List UInt8} {P : List (Int × List UInt8)} (h : Upp P) : Upp (addO num l P) := by
  induction P with
  | nil => exact List.pairwise_singleton _ _
  | cons y r ih =>
    rw [addO]
    unfold Upp at h
    rw [List.pairwise_cons] at h
    split
    · rename_i hlt
      refine List.pairwise_cons.2 ⟨fun x hx => ?_, List.pairwise_cons.2 h⟩
      rcases List.mem_cons.1 hx with rfl | hx
      · show num ≤ x.1; omega
      · have := h.1 x hx; show num ≤ x.1; omega
    · rename_i hlt
      refine List.pairwise_cons.2 ⟨fun x hx => ?_, ih h.2⟩
      rcases addO_mem _ _ _ x hx with rfl | hx
      · show y.1 ≤ num; omega
      · exact h.1 x hx
theorem sortP_up (ps : List (Int × List UInt8)) : Upp (sortP ps) := by
  suffices h : ∀ r : List (Int × List UInt8), Upp (sortP r.reverse) by have := h ps.reverse; rwa [List.reverse_reverse] at this
  intro r
  induction r with
  | nil => exact List.Pairwise.nil
  | cons s r ih => rw [List.reverse_cons, sortP_snoc]; exact addO_up ih
theorem sortP_id {P : List (Int × List UInt8)} (h : Upp P) : sortP P = P := by
  suffices hh : ∀ r : List (Int × List UInt8), Upp r.reverse → sortP r.reverse = r.reverse by have := hh P.reverse (by rwa [List.reverse_reverse]); rwa [List.reverse_reverse] at this
  intro r
  induction r with
  | nil => intro _; rfl
  | cons s r ih =>
    intro hu
    rw [List.reverse_cons] at hu ⊢
    unfold Upp at hu
    rw [List.pairwise_append] at hu
    rw [sortP_snoc, ih hu.1]
    exact addO_none fun x hx => by have := hu.2.2 x hx s (by simp); omega
end Go.Proofs.Ytfbddldcbjhmiaa
