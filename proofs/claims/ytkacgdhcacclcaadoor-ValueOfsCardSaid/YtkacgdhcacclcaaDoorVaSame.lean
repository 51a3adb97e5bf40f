/-
  Are two values the same; a value's bytes, and a panic that is caught.
-/
import Derived.Test.YtkacgdhcacclcaaDoorVaGet
import Derived.Tactics
import Derived.Tactics2
import Derived.Defers
import Derived.Recover
import Derived.Lib.IfaceEq
import Derived.Laws.StructEq
namespace Go.Proofs.YtkacgdhcacclcaaDoor
open Go.RowKit
set_option maxRecDepth 100000
set_option maxRecDepth 100000
set_option linter.unusedVariables false
theorem str_list (l : List UInt8) : (⟨l.toArray⟩ : ByteArray).toList = l := by rw [ByteArray.toList_eq]
theorem str_beq (l1 l2 : List UInt8) : ((⟨l1.toArray⟩ : ByteArray).toList == (⟨l2.toArray⟩ : ByteArray).toList) = decide (l1 = l2) := by
  rw [str_list, str_list, Bool.eq_iff_iff, beq_iff_eq, decide_eq_true_eq]
theorem equal_any (A1 A2 : Option Addr) (n1 c1 n2 c2 : Nat) (l1 l2 : List UInt8) (w : World) (B1 B2 : Nat) (h1 : Bs w B1 A1 n1 l1) (h2 : Bs w B2 A2 n2 l2) :
    Calls Tryd.prog 75 #[.slice A1 n1 c1, .slice A2 n2 c2] w fun e w' => e = .returned (.bool (decide (l1 = l2))) ∧ w' = w := by
  have q1 := run_string_bs (P := Tryd.prog) h1 22 9 5 c1 Tryd.underlying22 Tryd.underlying5 Tryd.underlying9
  have q2 := run_string_bs (P := Tryd.prog) h2 22 9 5 c2 Tryd.underlying22 Tryd.underlying5 Tryd.underlying9
  rw [← str_beq]
  generalize (⟨l1.toArray⟩ : ByteArray) = s1 at *
  generalize (⟨l2.toArray⟩ : ByteArray) = s2 at *
  go_enter Tryd.func75, Tryd.ntmps75
  go_wp2
  go_ret
  exact ⟨rfl, rfl⟩
/-- Two values, not both bytes. -/
def Vl.eq2 : Vl → Vl → Bool
  | .nil, .nil => true
  | .num a, .num b => a == b
  | .bool a, .bool b => a == b
  | .text a, .text b => a.toList == b.toList
  | .time a, .time b => a == b
  | .link a b, .link c d => a == c && b == d
  | _, _ => false
theorem eql_nil_nil (w : World) : (binOp .eql 47 .nilIface .nilIface).run Tryd.prog w = .ok (.bool true) w := by kernel_rfl
theorem eql_nil_if (t : TypeId) (x : Value) (w : World) : (binOp .eql 47 .nilIface (.iface t x)).run Tryd.prog w = .ok (.bool false) w := by kernel_rfl
theorem eql_if_nil (t : TypeId) (x : Value) (w : World) : (binOp .eql 47 (.iface t x) .nilIface).run Tryd.prog w = .ok (.bool false) w := by kernel_rfl
theorem eql_unlike (t u : TypeId) (x y : Value) (w : World) (h : t ≠ u) : (binOp .eql 47 (.iface t x) (.iface u y)).run Tryd.prog w = .ok (.bool false) w := by
  have ht := Tryd.underlying47
  have k : ∀ d : Nat, (Op.equalIn (d + 2) 47 (.iface t x) (.iface u y)).run Tryd.prog w = .ok false w := fun d => by
    simp [Op.equalIn, run_underlying ht, h]
  simp only [binOp]
  simp [Op.equal, Op.maxDepth, k 9998]
theorem eql_num (a b : Int) (w : World) : (binOp .eql 47 (.iface 80 (.int .i64 a)) (.iface 80 (.int .i64 b))).run Tryd.prog w = .ok (.bool (a == b)) w :=
  Lib.run_eql_iface_int w a b Tryd.underlying47 (by kernel_rfl) Tryd.underlying80
theorem eql_time (a b : Int) (w : World) : (binOp .eql 47 (.iface 85 (.int .i64 a)) (.iface 85 (.int .i64 b))).run Tryd.prog w = .ok (.bool (a == b)) w :=
  Lib.run_eql_iface_int w a b Tryd.underlying47 (by kernel_rfl) Tryd.underlying85
theorem eql_of {tx : TypeId} {x y : Value} {r : Bool} (w : World) (hc : (Tryd.prog.info? tx).map (·.comparable) = some true) (h : ∀ d : Nat, (Op.equalIn (d + 3) tx x y).run Tryd.prog w = .ok r w) :
    (binOp .eql 47 (.iface tx x) (.iface tx y)).run Tryd.prog w = .ok (.bool r) w := by
  have ht := Tryd.underlying47
  cases hi : Tryd.prog.info? tx with
  | none => simp [hi] at hc
  | some i =>
    have hcc : i.comparable = true := by simpa [hi] using hc
    have k : ∀ d : Nat, (Op.equalIn (d + 4) 47 (.iface tx x) (.iface tx y)).run Tryd.prog w = .ok r w := fun d => by
      have hd := h d
      generalize hF : Op.equalIn (d + 3) = F at hd
      rw [show d + 4 = (d + 3) + 1 from rfl, Op.equalIn, hF]
      clear hF
      simp [run_underlying ht, typeInfo, hi, hcc, hd]
    simp only [binOp]
    simp [Op.equal, Op.maxDepth, k 9996]
theorem eql_bool (a b : Bool) (w : World) : (binOp .eql 47 (.iface 81 (.bool a)) (.iface 81 (.bool b))).run Tryd.prog w = .ok (.bool (a == b)) w :=
  eql_of w (by kernel_rfl) fun d => run_equalIn_bool' w (d + 2) _ a b Tryd.underlying81
theorem eql_text (a b : ByteArray) (w : World) : (binOp .eql 47 (.iface 82 (.string a)) (.iface 82 (.string b))).run Tryd.prog w = .ok (.bool (a.toList == b.toList)) w :=
  eql_of w (by kernel_rfl) fun d => run_equalIn_string w (d + 2) _ a b Tryd.underlying82
theorem eql_link (a b c d : Int) (w : World) : (binOp .eql 47 (.iface 87 (.agg #[.int .i64 a, .int .i64 b])) (.iface 87 (.agg #[.int .i64 c, .int .i64 d]))).run Tryd.prog w = .ok (.bool (a == c && b == d)) w :=
  eql_of w (by kernel_rfl) fun q => by
    have hS : Tryd.prog.underlying 87 = some (.struct (Tryd.prog.fieldsOf 87)) := by kernel_rfl
    have hp : Tryd.prog.stoodInHeld 87 = false := by kernel_rfl
    have u3 := Tryd.underlying3
    have a3 := Tryd.isAgg3
    have z3 := Tryd.sizeOf3
    rw [run_equalIn_agg w (q + 2) 87 _ _ hS hp]
    simp only [Program.fieldsOf, Tryd.underlying87]
    by_cases h1 : a = c
    · subst h1
      have e1 : (a == a) = true := beq_self_eq_true a
      go_simp
      by_cases h2 : b = d
      · subst h2; simp
      · have e2 : (b == d) = false := beq_eq_false_iff_ne.2 h2
        rw [if_neg h2, e2]
    · have e1 : (a == c) = false := beq_eq_false_iff_ne.2 h1
      go_simp
      try simp [e1]
theorem eql_vl (w : World) : ∀ (a b : Vl) (h : (a.isB && b.isB) = false), (binOp .eql 47 a.val b.val).run Tryd.prog w = .ok (.bool (a.eq2 b)) w
  | .nil, .nil, _ => eql_nil_nil w
  | .nil, .num _, _ => eql_nil_if _ _ w
  | .nil, .bool _, _ => eql_nil_if _ _ w
  | .nil, .text _, _ => eql_nil_if _ _ w
  | .nil, .bytes _ _ _, _ => eql_nil_if _ _ w
  | .nil, .time _, _ => eql_nil_if _ _ w
  | .nil, .link _ _, _ => eql_nil_if _ _ w
  | .num _, .nil, _ => eql_if_nil _ _ w
  | .num _, .num _, _ => eql_num _ _ w
  | .num _, .bool _, _ => eql_unlike _ _ _ _ w (by decide)
  | .num _, .text _, _ => eql_unlike _ _ _ _ w (by decide)
  | .num _, .bytes _ _ _, _ => eql_unlike _ _ _ _ w (by decide)
  | .num _, .time _, _ => eql_unlike _ _ _ _ w (by decide)
  | .num _, .link _ _, _ => eql_unlike _ _ _ _ w (by decide)
  | .bool _, .nil, _ => eql_if_nil _ _ w
  | .bool _, .num _, _ => eql_unlike _ _ _ _ w (by decide)
  | .bool _, .bool _, _ => eql_bool _ _ w
  | .bool _, .text _, _ => eql_unlike _ _ _ _ w (by decide)
  | .bool _, .bytes _ _ _, _ => eql_unlike _ _ _ _ w (by decide)
  | .bool _, .time _, _ => eql_unlike _ _ _ _ w (by decide)
  | .bool _, .link _ _, _ => eql_unlike _ _ _ _ w (by decide)
  | .text _, .nil, _ => eql_if_nil _ _ w
  | .text _, .num _, _ => eql_unlike _ _ _ _ w (by decide)
  | .text _, .bool _, _ => eql_unlike _ _ _ _ w (by decide)
  | .text _, .text _, _ => eql_text _ _ w
  | .text _, .bytes _ _ _, _ => eql_unlike _ _ _ _ w (by decide)
  | .text _, .time _, _ => eql_unlike _ _ _ _ w (by decide)
  | .text _, .link _ _, _ => eql_unlike _ _ _ _ w (by decide)
  | .bytes _ _ _, .nil, _ => eql_if_nil _ _ w
  | .bytes _ _ _, .num _, _ => eql_unlike _ _ _ _ w (by decide)
  | .bytes _ _ _, .bool _, _ => eql_unlike _ _ _ _ w (by decide)
  | .bytes _ _ _, .text _, _ => eql_unlike _ _ _ _ w (by decide)
  | .bytes _ _ _, .bytes _ _ _, h => nomatch h
  | .bytes _ _ _, .time _, _ => eql_unlike _ _ _ _ w (by decide)
  | .bytes _ _ _, .link _ _, _ => eql_unlike _ _ _ _ w (by decide)
  | .time _, .nil, _ => eql_if_nil _ _ w
  | .time _, .num _, _ => eql_unlike _ _ _ _ w (by decide)
  | .time _, .bool _, _ => eql_unlike _ _ _ _ w (by decide)
  | .time _, .text _, _ => eql_unlike _ _ _ _ w (by decide)
  | .time _, .bytes _ _ _, _ => eql_unlike _ _ _ _ w (by decide)
  | .time _, .time _, _ => eql_time _ _ w
  | .time _, .link _ _, _ => eql_unlike _ _ _ _ w (by decide)
  | .link _ _, .nil, _ => eql_if_nil _ _ w
  | .link _ _, .num _, _ => eql_unlike _ _ _ _ w (by decide)
  | .link _ _, .bool _, _ => eql_unlike _ _ _ _ w (by decide)
  | .link _ _, .text _, _ => eql_unlike _ _ _ _ w (by decide)
  | .link _ _, .bytes _ _ _, _ => eql_unlike _ _ _ _ w (by decide)
  | .link _ _, .time _, _ => eql_unlike _ _ _ _ w (by decide)
  | .link _ _, .link _ _, _ => eql_link _ _ _ _ w
theorem eqcatch_idle (p : Addr) (w : World) :
    CallsD Tryd.prog 99 #[.pointer (some p)] .returning w fun e u' w' => e = .returned (.tuple #[]) ∧ u' = .returning ∧ w' = w := by
  refine callsD_of_wpS Tryd.func99 rfl fun c₀ cs hu => ?_
  apply wpS_seq
  apply wpS_region
  simp [wpOpsS, go_sem, recoverD, hu, Tryd.ntmps99, Exit.thenS]
  refine wpS_cond (t := false) (by simp [Act.eval, Array.replicate]) ?_
  simp only [Bool.false_eq_true, if_false]
  refine wpS_of_wp (wp_skip ?_)
  cases c₀
  simp_all [bodyPostS, results, Tryd.results99]
theorem guard_vl (a b : Vl) (h : (a.k == 0 && b.k == 0) = false) (x y : Operand) (w : World) : (eqGuard .eql 47 x y a.val b.val).run Tryd.prog w = .ok () w := by
  cases a <;> cases b <;> first | rfl | (exact absurd h (by decide))
theorem equal_f (a b : Vl) (h : (a.isB && b.isB) = false) (h0 : (a.k == 0 && b.k == 0) = false) (w : World) :
    Calls Tryd.prog 76 #[a.val, b.val] w fun e w' => e = .returned (.bool (a.eq2 b)) ∧ Below w.heap.size w w' := by
  have hq := fun W => eql_vl W a b h
  have hg := guard_vl a b h0
  generalize a.eq2 b = r at *
  generalize a.val = av at *
  generalize b.val = bv at *
  clear h h0
  have hmf : ∀ (fn : Fn) (first cap : Array Value) (w : World), (Instr.makeFunc fn first cap).run Tryd.prog w = .ok (.func fn first cap) w := fun _ _ _ _ => rfl
  go_enter_defers Tryd.func76, Tryd.ntmps76
  go_wp2
  refine leaves_cons (f := 99) (args := #[.pointer (some ⟨w.heap.size, 0, none⟩)]) (by simp) (by simp [go_sem]) ?_
  refine (eqcatch_idle ⟨w.heap.size, 0, none⟩ _).mono ?_
  rintro e u' w'' ⟨rfl, rfl, rfl⟩
  simp [Leaves, settle, results, Tryd.results76, go_sem]
  exact alloc_below w _
/-- The same? Their bytes are told beside them. -/
def vlSame (a b : Vl) (la lb : List UInt8) : Bool := if (a.isB && b.isB) = true then decide (la = lb) else a.eq2 b
theorem same_f (a b : Vl) (la lb : List UInt8) (w : World) (B1 B2 : Nat) (h1 : Bs w B1 a.a a.l la) (h2 : Bs w B2 b.a b.l lb) (h0 : (a.k == 0 && b.k == 0) = false) :
    Calls Tryd.prog 47 #[a.val, b.val] w fun e w' => e = .returned (.bool (vlSame a b la lb)) ∧ Below w.heap.size w w' := by
  have c1 := fun W => asBytes_f a W
  have c2 := fun W => asBytes_f b W
  unfold vlSame
  by_cases hb : (a.isB && b.isB) = true
  · rw [if_pos hb]
    have hba : a.isB = true := (Bool.and_eq_true_iff.1 hb).1
    have hbb : b.isB = true := (Bool.and_eq_true_iff.1 hb).2
    rw [hba] at c1
    rw [hbb] at c2
    have cE := equal_any a.a b.a a.l a.c b.l b.c la lb w B1 B2 h1 h2
    generalize decide (la = lb) = r at *
    generalize a.val = av at *
    generalize b.val = bv at *
    generalize a.a = A1 at *
    generalize a.l = m1 at *
    generalize a.c = q1 at *
    generalize b.a = A2 at *
    generalize b.l = m2 at *
    generalize b.c = q2 at *
    clear h1 h2 h0 hb hba hbb
    go_enter Tryd.func47, Tryd.ntmps47
    go_wp2_with fail
    refine (c1 _).mono ?_
    rintro e w1 ⟨rfl, hw⟩
    obtain rfl := hw.symm
    go_wp2_with fail
    refine (c2 _).mono ?_
    rintro e w2 ⟨rfl, hw⟩
    obtain rfl := hw.symm
    go_wp2_with (go_at_call 75; refine cE.mono ?_; rintro e w3 ⟨rfl, hw⟩; obtain rfl := hw.symm)
    go_ret
    exact ⟨rfl, Below.refl _ _⟩
  · rw [if_neg hb]
    have hbf : (a.isB && b.isB) = false := by
      cases h : (a.isB && b.isB) with
      | true => exact absurd h hb
      | false => rfl
    have cE := fun W => equal_f a b hbf h0 W
    generalize a.eq2 b = r at *
    generalize a.val = av at *
    generalize b.val = bv at *
    generalize a.a = A1 at *
    generalize a.l = m1 at *
    generalize a.c = q1 at *
    generalize b.a = A2 at *
    generalize b.l = m2 at *
    generalize b.c = q2 at *
    cases ha : a.isB with
    | true =>
      have hbb : b.isB = false := by rw [ha] at hbf; exact hbf
      rw [ha] at c1
      rw [hbb] at c2
      clear h1 h2 h0 hb hbf ha hbb
      go_enter Tryd.func47, Tryd.ntmps47
      go_wp2_with fail
      refine (c1 _).mono ?_
      rintro e w1 ⟨rfl, hw⟩
      obtain rfl := hw.symm
      go_wp2_with fail
      refine (c2 _).mono ?_
      rintro e w2 ⟨rfl, hw⟩
      obtain rfl := hw.symm
      go_wp2_with (go_at_call 76; refine (cE _).mono ?_; rintro e w3 ⟨rfl, hb3⟩)
      go_ret
      exact ⟨rfl, hb3⟩
    | false =>
      rw [ha] at c1
      clear h1 h2 h0 hb hbf ha
      go_enter Tryd.func47, Tryd.ntmps47
      go_wp2_with fail
      refine (c1 _).mono ?_
      rintro e w1 ⟨rfl, hw⟩
      obtain rfl := hw.symm
      go_wp2_with fail
      refine (c2 _).mono ?_
      rintro e w2 ⟨rfl, hw⟩
      obtain rfl := hw.symm
      go_wp2_with (go_at_call 76; refine (cE _).mono ?_; rintro e w3 ⟨rfl, hb3⟩)
      go_ret
      exact ⟨rfl, hb3⟩
end Go.Proofs.YtkacgdhcacclcaaDoor
