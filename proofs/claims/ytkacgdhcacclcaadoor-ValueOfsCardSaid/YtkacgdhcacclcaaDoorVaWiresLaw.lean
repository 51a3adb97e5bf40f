/-
  The law ValueWires.
-/
import Derived.Test.YtkacgdhcacclcaaDoorVaAlive
import Derived.Test.YtkacgdhcacclcaaDoorVaRUnw
import Derived.Test.YtkacgdhcacclcaaDoorVaSame13
import Derived.Test.YtkacgdhcacclcaaDoorVaUnw2
import Derived.Test.YtkacgdhcacclcaaDoorRel
namespace Go.Proofs.YtkacgdhcacclcaaDoor
open Go.RowKit
set_option maxRecDepth 100000
set_option maxRecDepth 100000
set_option linter.unusedVariables false
theorem RUnwRet.fails {k : Int} {A : Option Addr} {m c : Nat} {l : List UInt8} {w w' : World} {e : Ending} (h : RUnwRet k A m c l w e w') (he : unwE k l ≠ 0) : e = .returned (.tuple #[.agg #[.int .i64 0, .int .i64 0, .string ⟨#[]⟩, .slice none 0 0, .int .i64 0, .int .i64 0], .int .i64 (unwE k l)]) ∧ Below w.heap.size w w' := by
  have h2 := h.2
  rw [if_neg he] at h2
  exact ⟨h2, h.1⟩
theorem RUnwRet.val {k : Int} {A : Option Addr} {m c : Nat} {l : List UInt8} {w w' : World} {e : Ending} (h : RUnwRet k A m c l w e w') (he : unwE k l = 0) : e = .returned (.tuple #[.agg #[.int .i64 k, .int .i64 (unwN k l), .string (unwS k l), .slice (if k = 4 then A else none) (if k = 4 then m else 0) (if k = 4 then c else 0), .int .i64 (unwO k l), .int .i64 (unwI k l)], .int .i64 0]) ∧ Below w.heap.size w w' := by
  have h2 := h.2
  rw [if_pos he] at h2
  exact ⟨h2, h.1⟩
theorem not_wanted {ops : Array Oper} {o : Oper} {a : Act} {g : Nat} (h : o.guard = some (g, true)) (hg : left ops a g = .bool false) : ¬ Region.wanted o (yielded ops a.tmps) = true := by
  unfold Region.wanted
  rw [h]
  unfold left at hg
  unfold yielded
  cases hx : (ops[g]?).bind (·.dst) with
  | none => rw [hx] at hg; cases hg
  | some t =>
    rw [hx] at hg
    simp only [Act.eval] at hg
    cases ht : a.tmps[t]? with
    | none => simp [ht, undef] at hg
    | some v =>
      simp [ht] at hg
      subst hg
      simp [hx, ht]
/-- What each operation of the round's line leaves. -/
def VwR (vx : Value) (k n : Int) (s : ByteArray) (o i : Int) (A2 : Option Addr) (n2 c2 n1 : Nat) (L : List UInt8) (j : Nat) (w : World) (v : Value) : Prop :=
  match j with
  | 0 | 1 | 4 | 12 => v = .int .i64 0
  | 7 | 8 => True
  | 13 | 14 | 21 => v = .bool true
  | 15 | 18 => v = vx
  | 19 => ∃ A c, v = .agg #[.int .i64 k, .int .i64 n, .string s, .slice A n1 c, .int .i64 o, .int .i64 i] ∧ Bs w w.heap.size A n1 L
  | 20 => v = .agg #[.int .i64 k, .int .i64 n, .string s, .slice A2 n2 c2, .int .i64 o, .int .i64 i]
  | _ => v = .bool false
theorem VwR.grow {vx : Value} {k n : Int} {s : ByteArray} {o i : Int} {A2 : Option Addr} {n2 c2 n1 : Nat} {L : List UInt8} (j : Nat) (w w' : World) (v : Value) (hb : Below w.heap.size w w') (h : VwR vx k n s o i A2 n2 c2 n1 L j w v) : VwR vx k n s o i A2 n2 c2 n1 L j w' v := by
  unfold VwR at h ⊢
  split at h
  all_goals first | exact h | (obtain ⟨A, c, h1, h2⟩ := h; exact ⟨A, c, h1, (h2.below hb).more hb.size⟩)
end Go.Proofs.YtkacgdhcacclcaaDoor
