/-
  A value, and the struct that says the same: flat, asBytes.
-/
import Derived.Test.YtbclgalocipmfaaDoorPlRight
import Derived.Recover
namespace Go.Proofs.YtbclgalocipmfaaDoor
open Go.RowKit
set_option maxRecDepth 100000
set_option maxRecDepth 100000
set_option linter.unusedVariables false
theorem range_newB (w : World) (cs : Array Value) (t : TypeId) {vs : List Value} (h : cs.toList = vs) : (w.alloc (.cells cs t)).rangeAt w.heap.size 0 vs := by
  intro j v hv
  rw [Nat.zero_add, cell_of_row _ _ _ _ _ _ (heap_alloc_new w _), ← hv, ← h, Array.getElem?_toList]
theorem size_val : (Tryd.prog.info? 26).map (·.size) = some 6 := by kernel_rfl
theorem valInfo : ∃ d, Tryd.prog.underlying 26 = some d ∧ d.isRow = true := ⟨_, Tryd.underlying26, rfl⟩
/-- A value, as what it holds. -/
inductive Vl where
  | nil | num (n : Int) | bool (b : Bool) | text (s : ByteArray) | bytes (A : Option Addr) (n c : Nat) | time (n : Int) | link (o i : Int)
def Vl.k : Vl → Int | .nil => 0 | .num _ => 1 | .bool _ => 2 | .text _ => 3 | .bytes .. => 4 | .time _ => 5 | .link .. => 6
def Vl.n : Vl → Int | .num n => n | .time n => n | .bool b => if b then 1 else 0 | _ => 0
def Vl.s : Vl → ByteArray | .text s => s | _ => ⟨#[]⟩
def Vl.a : Vl → Option Addr | .bytes A _ _ => A | _ => none
def Vl.l : Vl → Nat | .bytes _ n _ => n | _ => 0
def Vl.c : Vl → Nat | .bytes _ _ c => c | _ => 0
def Vl.o : Vl → Int | .link o _ => o | _ => 0
def Vl.i : Vl → Int | .link _ i => i | _ => 0
/-- The struct of a value. -/
def FlatRet (v : Vl) (w : World) (e : Ending) (w' : World) : Prop := e = .returned (.agg #[.int .i64 v.k, .int .i64 v.n, .string v.s, .slice v.a v.l v.c, .int .i64 v.o, .int .i64 v.i]) ∧ Below w.heap.size w w'

def Vl.isB : Vl → Bool | .bytes .. => true | _ => false
end Go.Proofs.YtbclgalocipmfaaDoor
