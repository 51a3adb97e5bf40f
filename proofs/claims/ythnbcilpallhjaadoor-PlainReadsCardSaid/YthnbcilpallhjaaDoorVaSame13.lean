/-
  The document's Same, of structs that are the same.
-/
import Derived.Test.YthnbcilpallhjaaDoorVaRSame
import Derived.Test.YthnbcilpallhjaaDoorPlRight
namespace Go.Proofs.YthnbcilpallhjaaDoor
open Go.RowKit
set_option maxRecDepth 100000
set_option maxRecDepth 100000
set_option linter.unusedVariables false
set_option maxHeartbeats 4000000 in
theorem rsame13_yes (k n : Int) (s : ByteArray) (o i : Int) (l : List UInt8) (A1 A2 : Option Addr) (n1 c1 n2 c2 : Nat) (w : World) (B1 B2 : Nat) (h1 : Bs w B1 A1 n1 l) (h2 : Bs w B2 A2 n2 l) (hB1 : B1 ≤ w.heap.size) (hB2 : B2 ≤ w.heap.size) (hn : n1 ≤ 1000000) :
    Calls Tryd.prog 11 #[.agg #[.int .i64 k, .int .i64 n, .string s, .slice A1 n1 c1, .int .i64 o, .int .i64 i], .agg #[.int .i64 k, .int .i64 n, .string s, .slice A2 n2 c2, .int .i64 o, .int .i64 i]] w fun e w' => e = .returned (.bool true) ∧ Below w.heap.size w w' := by
  have e1 : (k == k) = true := beq_self_eq_true k
  have e2 : (n == n) = true := beq_self_eq_true n
  have e3 : (s.toList == s.toList) = true := beq_self_eq_true _
  have e4 : (o == o) = true := beq_self_eq_true o
  have e5 : (i == i) = true := beq_self_eq_true i
  have hl1 := h1.len
  have hl2 := h2.len
  have cS := fun W (hb : Below w.heap.size w W) => same_any A1 A2 n1 c1 n2 c2 l l W B1 B2 (h1.below' hb hB1) (h2.below' hb hB2) (by omega) (by omega)
  rw [show decide (l = l) = true from decide_eq_true rfl] at cS
  clear h1 h2 hl1 hl2
  go_enter Tryd.func11, Tryd.ntmps11
  go_wp2_with fail
  have b2 : Below w.heap.size w ((w.alloc (.cells #[.int .i64 k, .int .i64 n, .string s, .slice A1 n1 c1, .int .i64 o, .int .i64 i] 26)).alloc (.cells #[.int .i64 k, .int .i64 n, .string s, .slice A2 n2 c2, .int .i64 o, .int .i64 i] 26)) := ((Below.refl _ _).alloc (Nat.le_refl _) _).alloc (by rw [alloc_size]; omega) _
  refine (cS _ b2).mono ?_
  rintro e w1 ⟨rfl, q, hw⟩
  have b3 : Below w.heap.size w w1 := by rw [hw]; exact b2.trans (drewN_below _ _ _)
  have p4 : w1.cell? ⟨w.heap.size, 4, none⟩ = some (.int .i64 o) := by rw [hw]; simp [go_sem]
  have p5 : w1.cell? ⟨w.heap.size, 5, none⟩ = some (.int .i64 i) := by rw [hw]; simp [go_sem]
  have r4 : w1.cell? ⟨w.heap.size + 1, 4, none⟩ = some (.int .i64 o) := by rw [hw]; simp [go_sem]
  have r5 : w1.cell? ⟨w.heap.size + 1, 5, none⟩ = some (.int .i64 i) := by rw [hw]; simp [go_sem]
  clear hw b2 cS
  go_wp2
  go_ret
  exact ⟨rfl, b3⟩
end Go.Proofs.YthnbcilpallhjaaDoor
