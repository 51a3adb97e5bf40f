/-
  Slices of slices of bytes; arguments opened: of that kind.
-/
import Derived.Test.YtfbddldcbjhmiaaArgs
import Derived.Test.YtfbddldcbjhmiaaMem
import Derived.Deep.Slices
import Derived.Test.YtfbddldcbjhmiaaOps
namespace Go.Proofs.Ytfbddldcbjhmiaa
open Go.ChangeShapes Go.WideShapes Go.ChangeAt Go.RowKit Go.Deep
set_option maxRecDepth 100000
set_option linter.unusedVariables false
/-- A slice of slices of bytes, all of it below block B. -/
structure Pc (w : World) (B : Nat) (A : Option Addr) (n : Nat) (ls : List (List UInt8)) : Prop where
  len : ls.length = n
  place : 0 < n → ∃ b off, A = some ⟨b, off, none⟩ ∧ b < B ∧ ∀ k l, ls[k]? = some l → ∃ A' n' c', w.cell? ⟨b, off + k, none⟩ = some (.slice A' n' c') ∧ n' ≤ c' ∧ Bs w B A' n' l
theorem Pc.keep {w w' : World} {B n : Nat} {A : Option Addr} {ls : List (List UInt8)} (h : Pc w B A n ls) (hk : ∀ p : Addr, p.block < B → w'.cell? p = w.cell? p) : Pc w' B A n ls :=
  ⟨h.len, fun hn => by
    obtain ⟨b, off, e, hb, hc⟩ := h.place hn
    refine ⟨b, off, e, hb, fun k l hl => ?_⟩
    obtain ⟨A', n', c', h1, hcap, h2⟩ := hc k l hl
    exact ⟨A', n', c', (hk _ hb).trans h1, hcap, h2.keep hk⟩⟩
theorem Pc.below' {w w' : World} {B B' n : Nat} {A : Option Addr} {ls : List (List UInt8)} (h : Pc w B A n ls) (hb : Below B' w w') (hB : B ≤ B') : Pc w' B A n ls := h.keep fun _ hp => hb.cell (by omega)
theorem Pc.none (w : World) (B : Nat) (A : Option Addr) : Pc w B A 0 [] := ⟨rfl, fun h => absurd h (by omega)⟩
section
variable {H : Type} {enc : TypeId × Value → H} {W : World} {base : Nat}
end
end Go.Proofs.Ytfbddldcbjhmiaa
