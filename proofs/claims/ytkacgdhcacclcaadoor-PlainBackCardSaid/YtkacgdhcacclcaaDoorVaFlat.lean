/-
  A value, and the struct that says the same: flat, asBytes.
-/
import Derived.Test.YtkacgdhcacclcaaDoorPlRight
import Derived.Recover
namespace Go.Proofs.YtkacgdhcacclcaaDoor
open Go.RowKit
set_option maxRecDepth 100000
set_option maxRecDepth 100000
set_option linter.unusedVariables false
theorem range_newB (w : World) (cs : Array Value) (t : TypeId) {vs : List Value} (h : cs.toList = vs) : (w.alloc (.cells cs t)).rangeAt w.heap.size 0 vs := by
  intro j v hv
  rw [Nat.zero_add, cell_of_row _ _ _ _ _ _ (heap_alloc_new w _), ← hv, ← h, Array.getElem?_toList]
theorem size_val : (Tryd.prog.info? 24).map (·.size) = some 6 := by kernel_rfl
theorem valInfo : ∃ d, Tryd.prog.underlying 24 = some d ∧ d.isRow = true := ⟨_, Tryd.underlying24, rfl⟩
/-- A value, as what it holds. -/
inductive Vl where
  | nil | num (n : Int) | bool (b : Bool) | text (s : ByteArray) | bytes (A : Option Addr) (n c : Nat) | time (n : Int) | link (o i : Int)
def Vl.val : Vl → Value
  | .nil => .nilIface
  | .num n => .iface 80 (.int .i64 n)
  | .bool b => .iface 81 (.bool b)
  | .text s => .iface 82 (.string s)
  | .bytes A n c => .iface 83 (.slice A n c)
  | .time n => .iface 85 (.int .i64 n)
  | .link o i => .iface 87 (.agg #[.int .i64 o, .int .i64 i])
def Vl.k : Vl → Int | .nil => 0 | .num _ => 1 | .bool _ => 2 | .text _ => 3 | .bytes .. => 4 | .time _ => 5 | .link .. => 6
def Vl.n : Vl → Int | .num n => n | .time n => n | .bool b => if b then 1 else 0 | _ => 0
def Vl.s : Vl → ByteArray | .text s => s | _ => ⟨#[]⟩
def Vl.a : Vl → Option Addr | .bytes A _ _ => A | _ => none
def Vl.l : Vl → Nat | .bytes _ n _ => n | _ => 0
def Vl.c : Vl → Nat | .bytes _ _ c => c | _ => 0
def Vl.o : Vl → Int | .link o _ => o | _ => 0
def Vl.i : Vl → Int | .link _ i => i | _ => 0
/-- The struct of a value. -/
def FlatRet (v : Vl) (w : World) (e : Ending) (w' : World) : Prop := e = .returned (.agg #[.int .i64 v.k, .int .i64 v.n, .string v.s, .slice v.a v.l v.c, .int .i64 v.o, .int .i64 v.i]) ∧ Below w.heap.size w w'

theorem as0_yes (x : Value) (w : World) : (Instr.typeAssert (.iface 80 x) 47 80 true).run Tryd.prog w = .ok (.tuple #[x, .bool true]) w := by kernel_rfl
theorem as0_nil (w : World) : (Instr.typeAssert .nilIface 47 80 true).run Tryd.prog w = .ok (.tuple #[.int .i64 0, .bool false]) w := by kernel_rfl
theorem as0_no1 (x : Value) (w : World) : (Instr.typeAssert (.iface 81 x) 47 80 true).run Tryd.prog w = .ok (.tuple #[.int .i64 0, .bool false]) w := by kernel_rfl
theorem as0_no2 (x : Value) (w : World) : (Instr.typeAssert (.iface 82 x) 47 80 true).run Tryd.prog w = .ok (.tuple #[.int .i64 0, .bool false]) w := by kernel_rfl
theorem as0_no3 (x : Value) (w : World) : (Instr.typeAssert (.iface 83 x) 47 80 true).run Tryd.prog w = .ok (.tuple #[.int .i64 0, .bool false]) w := by kernel_rfl
theorem as0_no4 (x : Value) (w : World) : (Instr.typeAssert (.iface 85 x) 47 80 true).run Tryd.prog w = .ok (.tuple #[.int .i64 0, .bool false]) w := by kernel_rfl
theorem as0_no5 (x : Value) (w : World) : (Instr.typeAssert (.iface 87 x) 47 80 true).run Tryd.prog w = .ok (.tuple #[.int .i64 0, .bool false]) w := by kernel_rfl
theorem as1_yes (x : Value) (w : World) : (Instr.typeAssert (.iface 81 x) 47 81 true).run Tryd.prog w = .ok (.tuple #[x, .bool true]) w := by kernel_rfl
theorem as1_nil (w : World) : (Instr.typeAssert .nilIface 47 81 true).run Tryd.prog w = .ok (.tuple #[.bool false, .bool false]) w := by kernel_rfl
theorem as1_no0 (x : Value) (w : World) : (Instr.typeAssert (.iface 80 x) 47 81 true).run Tryd.prog w = .ok (.tuple #[.bool false, .bool false]) w := by kernel_rfl
theorem as1_no2 (x : Value) (w : World) : (Instr.typeAssert (.iface 82 x) 47 81 true).run Tryd.prog w = .ok (.tuple #[.bool false, .bool false]) w := by kernel_rfl
theorem as1_no3 (x : Value) (w : World) : (Instr.typeAssert (.iface 83 x) 47 81 true).run Tryd.prog w = .ok (.tuple #[.bool false, .bool false]) w := by kernel_rfl
theorem as1_no4 (x : Value) (w : World) : (Instr.typeAssert (.iface 85 x) 47 81 true).run Tryd.prog w = .ok (.tuple #[.bool false, .bool false]) w := by kernel_rfl
theorem as1_no5 (x : Value) (w : World) : (Instr.typeAssert (.iface 87 x) 47 81 true).run Tryd.prog w = .ok (.tuple #[.bool false, .bool false]) w := by kernel_rfl
theorem as2_yes (x : Value) (w : World) : (Instr.typeAssert (.iface 82 x) 47 82 true).run Tryd.prog w = .ok (.tuple #[x, .bool true]) w := by kernel_rfl
theorem as2_nil (w : World) : (Instr.typeAssert .nilIface 47 82 true).run Tryd.prog w = .ok (.tuple #[.string ⟨#[]⟩, .bool false]) w := by kernel_rfl
theorem as2_no0 (x : Value) (w : World) : (Instr.typeAssert (.iface 80 x) 47 82 true).run Tryd.prog w = .ok (.tuple #[.string ⟨#[]⟩, .bool false]) w := by kernel_rfl
theorem as2_no1 (x : Value) (w : World) : (Instr.typeAssert (.iface 81 x) 47 82 true).run Tryd.prog w = .ok (.tuple #[.string ⟨#[]⟩, .bool false]) w := by kernel_rfl
theorem as2_no3 (x : Value) (w : World) : (Instr.typeAssert (.iface 83 x) 47 82 true).run Tryd.prog w = .ok (.tuple #[.string ⟨#[]⟩, .bool false]) w := by kernel_rfl
theorem as2_no4 (x : Value) (w : World) : (Instr.typeAssert (.iface 85 x) 47 82 true).run Tryd.prog w = .ok (.tuple #[.string ⟨#[]⟩, .bool false]) w := by kernel_rfl
theorem as2_no5 (x : Value) (w : World) : (Instr.typeAssert (.iface 87 x) 47 82 true).run Tryd.prog w = .ok (.tuple #[.string ⟨#[]⟩, .bool false]) w := by kernel_rfl
theorem as3_yes (x : Value) (w : World) : (Instr.typeAssert (.iface 83 x) 47 83 true).run Tryd.prog w = .ok (.tuple #[x, .bool true]) w := by kernel_rfl
theorem as3_nil (w : World) : (Instr.typeAssert .nilIface 47 83 true).run Tryd.prog w = .ok (.tuple #[.slice none 0 0, .bool false]) w := by kernel_rfl
theorem as3_no0 (x : Value) (w : World) : (Instr.typeAssert (.iface 80 x) 47 83 true).run Tryd.prog w = .ok (.tuple #[.slice none 0 0, .bool false]) w := by kernel_rfl
theorem as3_no1 (x : Value) (w : World) : (Instr.typeAssert (.iface 81 x) 47 83 true).run Tryd.prog w = .ok (.tuple #[.slice none 0 0, .bool false]) w := by kernel_rfl
theorem as3_no2 (x : Value) (w : World) : (Instr.typeAssert (.iface 82 x) 47 83 true).run Tryd.prog w = .ok (.tuple #[.slice none 0 0, .bool false]) w := by kernel_rfl
theorem as3_no4 (x : Value) (w : World) : (Instr.typeAssert (.iface 85 x) 47 83 true).run Tryd.prog w = .ok (.tuple #[.slice none 0 0, .bool false]) w := by kernel_rfl
theorem as3_no5 (x : Value) (w : World) : (Instr.typeAssert (.iface 87 x) 47 83 true).run Tryd.prog w = .ok (.tuple #[.slice none 0 0, .bool false]) w := by kernel_rfl
theorem as4_yes (x : Value) (w : World) : (Instr.typeAssert (.iface 85 x) 47 85 true).run Tryd.prog w = .ok (.tuple #[x, .bool true]) w := by kernel_rfl
theorem as4_nil (w : World) : (Instr.typeAssert .nilIface 47 85 true).run Tryd.prog w = .ok (.tuple #[.int .i64 0, .bool false]) w := by kernel_rfl
theorem as4_no0 (x : Value) (w : World) : (Instr.typeAssert (.iface 80 x) 47 85 true).run Tryd.prog w = .ok (.tuple #[.int .i64 0, .bool false]) w := by kernel_rfl
theorem as4_no1 (x : Value) (w : World) : (Instr.typeAssert (.iface 81 x) 47 85 true).run Tryd.prog w = .ok (.tuple #[.int .i64 0, .bool false]) w := by kernel_rfl
theorem as4_no2 (x : Value) (w : World) : (Instr.typeAssert (.iface 82 x) 47 85 true).run Tryd.prog w = .ok (.tuple #[.int .i64 0, .bool false]) w := by kernel_rfl
theorem as4_no3 (x : Value) (w : World) : (Instr.typeAssert (.iface 83 x) 47 85 true).run Tryd.prog w = .ok (.tuple #[.int .i64 0, .bool false]) w := by kernel_rfl
theorem as4_no5 (x : Value) (w : World) : (Instr.typeAssert (.iface 87 x) 47 85 true).run Tryd.prog w = .ok (.tuple #[.int .i64 0, .bool false]) w := by kernel_rfl
theorem as5_yes (x : Value) (w : World) : (Instr.typeAssert (.iface 87 x) 47 87 true).run Tryd.prog w = .ok (.tuple #[x, .bool true]) w := by kernel_rfl
theorem as5_nil (w : World) : (Instr.typeAssert .nilIface 47 87 true).run Tryd.prog w = .ok (.tuple #[.agg #[.int .i64 0, .int .i64 0], .bool false]) w := by kernel_rfl
theorem as5_no0 (x : Value) (w : World) : (Instr.typeAssert (.iface 80 x) 47 87 true).run Tryd.prog w = .ok (.tuple #[.agg #[.int .i64 0, .int .i64 0], .bool false]) w := by kernel_rfl
theorem as5_no1 (x : Value) (w : World) : (Instr.typeAssert (.iface 81 x) 47 87 true).run Tryd.prog w = .ok (.tuple #[.agg #[.int .i64 0, .int .i64 0], .bool false]) w := by kernel_rfl
theorem as5_no2 (x : Value) (w : World) : (Instr.typeAssert (.iface 82 x) 47 87 true).run Tryd.prog w = .ok (.tuple #[.agg #[.int .i64 0, .int .i64 0], .bool false]) w := by kernel_rfl
theorem as5_no3 (x : Value) (w : World) : (Instr.typeAssert (.iface 83 x) 47 87 true).run Tryd.prog w = .ok (.tuple #[.agg #[.int .i64 0, .int .i64 0], .bool false]) w := by kernel_rfl
theorem as5_no4 (x : Value) (w : World) : (Instr.typeAssert (.iface 85 x) 47 87 true).run Tryd.prog w = .ok (.tuple #[.agg #[.int .i64 0, .int .i64 0], .bool false]) w := by kernel_rfl
set_option maxHeartbeats 1000000 in
theorem flat_num (n : Int) (w : World) : Calls Tryd.prog 50 #[(Vl.num n).val] w (FlatRet (.num n) w) := by
  unfold Vl.val
  have h0 := as0_yes (.int .i64 n)
  go_enter Tryd.func50, Tryd.ntmps50
  go_wp2
  obtain ⟨d, hd, hr⟩ := valInfo
  refine bodyPost_ret (results_cell_mid rfl _ _ w.heap.size 0 [.int .i64 1, .int .i64 n, .string ⟨#[]⟩, .slice none 0 0, .int .i64 0, .int .i64 0] d rfl (range_newB w _ 24 rfl) hd hr size_val) rfl ?_
  exact ⟨rfl, alloc_below w _⟩
set_option maxHeartbeats 1000000 in
theorem flat_bool (b : Bool) (w : World) : Calls Tryd.prog 50 #[(Vl.bool b).val] w (FlatRet (.bool b) w) := by
  unfold Vl.val
  have h0 := as0_no1 (.bool b)
  have h1 := as1_yes (.bool b)
  cases b with
  | false =>
    go_enter Tryd.func50, Tryd.ntmps50
    go_wp2
    obtain ⟨d, hd, hr⟩ := valInfo
    refine bodyPost_ret (results_cell_mid rfl _ _ w.heap.size 0 [.int .i64 2, .int .i64 0, .string ⟨#[]⟩, .slice none 0 0, .int .i64 0, .int .i64 0] d rfl (range_newB w _ 24 rfl) hd hr size_val) rfl ?_
    exact ⟨rfl, alloc_below w _⟩
  | true =>
    go_enter Tryd.func50, Tryd.ntmps50
    go_wp2
    obtain ⟨d, hd, hr⟩ := valInfo
    refine bodyPost_ret (results_cell_mid rfl _ _ w.heap.size 0 [.int .i64 2, .int .i64 1, .string ⟨#[]⟩, .slice none 0 0, .int .i64 0, .int .i64 0] d rfl (range_newB w _ 24 rfl) hd hr size_val) rfl ?_
    exact ⟨rfl, alloc_below w _⟩
set_option maxHeartbeats 1000000 in
theorem flat_text (s : ByteArray) (w : World) : Calls Tryd.prog 50 #[(Vl.text s).val] w (FlatRet (.text s) w) := by
  unfold Vl.val
  have h0 := as0_no2 (.string s)
  have h1 := as1_no2 (.string s)
  have h2 := as2_yes (.string s)
  go_enter Tryd.func50, Tryd.ntmps50
  go_wp2
  obtain ⟨d, hd, hr⟩ := valInfo
  refine bodyPost_ret (results_cell_mid rfl _ _ w.heap.size 0 [.int .i64 3, .int .i64 0, .string s, .slice none 0 0, .int .i64 0, .int .i64 0] d rfl (range_newB w _ 24 rfl) hd hr size_val) rfl ?_
  exact ⟨rfl, alloc_below w _⟩
set_option maxHeartbeats 1000000 in
theorem flat_bytes (bA : Option Addr) (bn bc : Nat) (w : World) : Calls Tryd.prog 50 #[(Vl.bytes bA bn bc).val] w (FlatRet (.bytes bA bn bc) w) := by
  unfold Vl.val
  have h0 := as0_no3 (.slice bA bn bc)
  have h1 := as1_no3 (.slice bA bn bc)
  have h2 := as2_no3 (.slice bA bn bc)
  have h3 := as3_yes (.slice bA bn bc)
  go_enter Tryd.func50, Tryd.ntmps50
  go_wp2
  obtain ⟨d, hd, hr⟩ := valInfo
  refine bodyPost_ret (results_cell_mid rfl _ _ w.heap.size 0 [.int .i64 4, .int .i64 0, .string ⟨#[]⟩, .slice bA bn bc, .int .i64 0, .int .i64 0] d rfl (range_newB w _ 24 rfl) hd hr size_val) rfl ?_
  exact ⟨rfl, alloc_below w _⟩
set_option maxHeartbeats 1000000 in
theorem flat_time (n : Int) (w : World) : Calls Tryd.prog 50 #[(Vl.time n).val] w (FlatRet (.time n) w) := by
  unfold Vl.val
  have h0 := as0_no4 (.int .i64 n)
  have h1 := as1_no4 (.int .i64 n)
  have h2 := as2_no4 (.int .i64 n)
  have h3 := as3_no4 (.int .i64 n)
  have h4 := as4_yes (.int .i64 n)
  go_enter Tryd.func50, Tryd.ntmps50
  go_wp2
  obtain ⟨d, hd, hr⟩ := valInfo
  refine bodyPost_ret (results_cell_mid rfl _ _ w.heap.size 0 [.int .i64 5, .int .i64 n, .string ⟨#[]⟩, .slice none 0 0, .int .i64 0, .int .i64 0] d rfl (range_newB w _ 24 rfl) hd hr size_val) rfl ?_
  exact ⟨rfl, alloc_below w _⟩
set_option maxHeartbeats 1000000 in
theorem flat_link (o i : Int) (w : World) : Calls Tryd.prog 50 #[(Vl.link o i).val] w (FlatRet (.link o i) w) := by
  unfold Vl.val
  have h0 := as0_no5 (.agg #[.int .i64 o, .int .i64 i])
  have h1 := as1_no5 (.agg #[.int .i64 o, .int .i64 i])
  have h2 := as2_no5 (.agg #[.int .i64 o, .int .i64 i])
  have h3 := as3_no5 (.agg #[.int .i64 o, .int .i64 i])
  have h4 := as4_no5 (.agg #[.int .i64 o, .int .i64 i])
  have h5 := as5_yes (.agg #[.int .i64 o, .int .i64 i])
  go_enter Tryd.func50, Tryd.ntmps50
  go_wp2
  obtain ⟨d, hd, hr⟩ := valInfo
  refine bodyPost_ret (results_cell_mid rfl _ _ w.heap.size 0 [.int .i64 6, .int .i64 0, .string ⟨#[]⟩, .slice none 0 0, .int .i64 o, .int .i64 i] d rfl (range_below (range_newB w _ 24 rfl) (alloc_below _ _) (by rw [alloc_size]; exact Nat.lt_succ_self _)) hd hr size_val) rfl ?_
  exact ⟨rfl, ((Below.refl _ _).alloc (Nat.le_refl _) _).alloc (by rw [alloc_size]; omega) _⟩
set_option maxHeartbeats 1000000 in
theorem flat_nil (w : World) : Calls Tryd.prog 50 #[Vl.nil.val] w (FlatRet .nil w) := by
  unfold Vl.val
  have h0 := as0_nil
  have h1 := as1_nil
  have h2 := as2_nil
  have h3 := as3_nil
  have h4 := as4_nil
  have h5 := as5_nil
  go_enter Tryd.func50, Tryd.ntmps50
  go_wp2
  obtain ⟨d, hd, hr⟩ := valInfo
  refine bodyPost_ret (results_cell_mid rfl _ _ w.heap.size 0 [.int .i64 0, .int .i64 0, .string ⟨#[]⟩, .slice none 0 0, .int .i64 0, .int .i64 0] d rfl (range_newB w _ 24 rfl) hd hr size_val) rfl ?_
  exact ⟨rfl, alloc_below w _⟩
theorem flat_f (v : Vl) (w : World) : Calls Tryd.prog 50 #[v.val] w (FlatRet v w) :=
  match v with
  | .nil => flat_nil w
  | .num n => flat_num n w
  | .bool b => flat_bool b w
  | .text s => flat_text s w
  | .bytes A n c => flat_bytes A n c w
  | .time n => flat_time n w
  | .link o i => flat_link o i w
def Vl.isB : Vl → Bool | .bytes .. => true | _ => false
theorem asBytes_f (v : Vl) (w : World) : Calls Tryd.prog 74 #[v.val] w fun e w' => e = .returned (.tuple #[.slice v.a v.l v.c, .bool v.isB]) ∧ w' = w := by
  cases v
  case nil =>
    have h := as3_nil
    unfold Vl.val
    go_enter Tryd.func74, Tryd.ntmps74
    go_wp2
    go_ret2
    exact ⟨rfl, rfl⟩
  case num n =>
    have h := as3_no0 (.int .i64 n)
    unfold Vl.val
    go_enter Tryd.func74, Tryd.ntmps74
    go_wp2
    go_ret2
    exact ⟨rfl, rfl⟩
  case bool b =>
    have h := as3_no1 (.bool b)
    unfold Vl.val
    go_enter Tryd.func74, Tryd.ntmps74
    go_wp2
    go_ret2
    exact ⟨rfl, rfl⟩
  case text s =>
    have h := as3_no2 (.string s)
    unfold Vl.val
    go_enter Tryd.func74, Tryd.ntmps74
    go_wp2
    go_ret2
    exact ⟨rfl, rfl⟩
  case bytes A n c =>
    have h := as3_yes (.slice A n c)
    unfold Vl.val
    go_enter Tryd.func74, Tryd.ntmps74
    go_wp2
    go_ret2
    exact ⟨rfl, rfl⟩
  case time n =>
    have h := as3_no4 (.int .i64 n)
    unfold Vl.val
    go_enter Tryd.func74, Tryd.ntmps74
    go_wp2
    go_ret2
    exact ⟨rfl, rfl⟩
  case link o i =>
    have h := as3_no5 (.agg #[.int .i64 o, .int .i64 i])
    unfold Vl.val
    go_enter Tryd.func74, Tryd.ntmps74
    go_wp2
    go_ret2
    exact ⟨rfl, rfl⟩
end Go.Proofs.YtkacgdhcacclcaaDoor
