/-
  Bytes in parts, joined.
-/
import Derived.Test.YtfbddldcbjhmiaaCrcWalks
namespace Go.Proofs.Ytfbddldcbjhmiaa
open Go.RowKit
set_option maxRecDepth 100000
/-- A slice of slices of bytes, all of it below block B. -/
structure Ps (w : World) (B : Nat) (A : Option Addr) (n : Nat) (ls : List (List UInt8)) : Prop where
  len : ls.length = n
  place : 0 < n → ∃ b off, A = some ⟨b, off, none⟩ ∧ b < B ∧ ∀ k l, ls[k]? = some l → ∃ A' n' c', w.cell? ⟨b, off + k, none⟩ = some (.slice A' n' c') ∧ Bs w B A' n' l
theorem Ps.keep {w w' : World} {B n : Nat} {A : Option Addr} {ls : List (List UInt8)} (h : Ps w B A n ls) (hk : ∀ p : Addr, p.block < B → w'.cell? p = w.cell? p) : Ps w' B A n ls :=
  ⟨h.len, fun hn => by
    obtain ⟨b, off, e, hb, hc⟩ := h.place hn
    refine ⟨b, off, e, hb, fun k l hl => ?_⟩
    obtain ⟨A', n', c', h1, h2⟩ := hc k l hl
    exact ⟨A', n', c', (hk _ hb).trans h1, h2.keep hk⟩⟩
theorem Ps.below' {w w' : World} {B B' n : Nat} {A : Option Addr} {ls : List (List UInt8)} (h : Ps w B A n ls) (hb : Below B' w w') (hB : B ≤ B') : Ps w' B A n ls := h.keep fun _ hp => hb.cell (by omega)
theorem part_get {ls : List (List UInt8)} {k : Nat} (h : k < ls.length) : ∃ l, ls[k]? = some l := ⟨_, List.getElem?_eq_getElem h⟩
theorem take_flat {ls : List (List UInt8)} {k : Nat} {l : List UInt8} (h : ls[k]? = some l) : (ls.take (k + 1)).flatten = (ls.take k).flatten ++ l := by
  rw [List.take_add_one, h]; simp
theorem flat_le {ls : List (List UInt8)} {k : Nat} {l : List UInt8} (h : ls[k]? = some l) : (ls.take k).flatten.length + l.length ≤ ls.flatten.length := by
  have h1 := take_flat h
  have h2 : ls.flatten = (ls.take (k + 1)).flatten ++ (ls.drop (k + 1)).flatten := by rw [← List.flatten_append, List.take_append_drop]
  rw [h2, h1]; simp
end Go.Proofs.Ytfbddldcbjhmiaa
