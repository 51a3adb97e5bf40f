/-
  The value of a struct: Of.
-/
import Derived.Test.YtbclgalocipmfaaDoorVaFlat
import Derived.Test.YtbclgalocipmfaaDoorVaClone
namespace Go.Proofs.YtbclgalocipmfaaDoor
open Go.RowKit
set_option maxRecDepth 100000
set_option maxRecDepth 100000
set_option linter.unusedVariables false
theorem RetOwn.fresh_ {e5 : TypeId} {l : List UInt8} {w w' : World} {e : Ending} (h : RetOwn e5 l w e w') :
    ∃ A c, e = .returned (.slice A l.length c) ∧ l.length ≤ c ∧ (∀ ad, A = some ad → w.heap.size ≤ ad.block) ∧ Bs w' w'.heap.size A l.length l ∧ Below w.heap.size w w' := by
  obtain ⟨v, rfl, h1, h2⟩ := h
  have hge := own_ge h1
  obtain ⟨A, c, rfl, hc, hb⟩ := Bs.of_own h1
  exact ⟨A, c, rfl, hc, fun ad e => hge _ (by subst e; rfl), hb, h2⟩
theorem sclone_f (s : ByteArray) (w : World) (hs : s.size ≤ 1000000) : Calls Tryd.prog 61 #[.string s] w fun e w' => e = .returned (.string s) ∧ Below w.heap.size w w' := by
  have c := Any.stringslite_Clone Tryd.laysM316 s w (by omega)
  go_enter Tryd.func61, Tryd.ntmps61
  go_wp2_with (go_at_call 86; refine c.mono ?_; rintro e w1 ⟨rfl, hb⟩)
  go_ret
  exact ⟨rfl, hb⟩
def ofE (k n : Int) (sl ok bl : Nat) (o i : Int) : Int := if k < 1 ∨ 6 < k then 70 else if rightB k n sl ok bl o i then 0 else 1
theorem bs_none {w : World} {B : Nat} {A : Option Addr} {bl : Nat} {l : List UInt8} (h : Bs w B A bl l) (h0 : bl = 0) (w2 : World) (B2 : Nat) (A2 : Option Addr) : Bs w2 B2 A2 0 l := by
  obtain rfl : l = [] := List.eq_nil_of_length_eq_zero (by rw [h.len, h0])
  exact Bs.empty _ _ _
end Go.Proofs.YtbclgalocipmfaaDoor
