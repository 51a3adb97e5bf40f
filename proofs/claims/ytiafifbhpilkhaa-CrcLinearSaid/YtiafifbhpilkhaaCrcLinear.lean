/-
  Bytes held against each other.
-/
import Derived.Test.YtiafifbhpilkhaaCrcLinLe
import Derived.Test.YtiafifbhpilkhaaCrcLinGt
namespace Go.Proofs.Ytiafifbhpilkhaa
open Go.RowKit
theorem linear_law (A1 A2 : Option Addr) (n1 n2 c1 c2 : Nat) (l1 l2 : List UInt8) (w : World) (hbs1 : Bs w w.heap.size A1 n1 l1) (hbs2 : Bs w w.heap.size A2 n2 l2) (hc1 : n1 ≤ c1) (hc2 : n2 ≤ c2) (hm1 : c1 ≤ maxLen) (hm2 : c2 ≤ maxLen) :
    Calls Try.prog 7 #[.slice A1 n1 c1, .slice A2 n2 c2] w fun e w' => e = .returned (.bool true) ∧ Below w.heap.size w w' := by
  by_cases h : n1 ≤ n2
  · exact linear_le A1 A2 n1 n2 c1 c2 l1 l2 w hbs1 hbs2 hc1 hc2 hm1 hm2 h
  · exact linear_gt A1 A2 n1 n2 c1 c2 l1 l2 w hbs1 hbs2 hc1 hc2 hm1 hm2 h
end Go.Proofs.Ytiafifbhpilkhaa
