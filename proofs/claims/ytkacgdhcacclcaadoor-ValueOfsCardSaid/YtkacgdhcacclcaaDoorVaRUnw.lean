/-
  The document's value of a kind's bytes.
-/
import Derived.Test.YtkacgdhcacclcaaDoorVaPure
import Derived.Laws.ResultCell
import Derived.StillTailTactics
namespace Go.Proofs.YtkacgdhcacclcaaDoor
open Go.RowKit
set_option maxRecDepth 100000
set_option maxRecDepth 100000
set_option linter.unusedVariables false
theorem results_cell_tmp_mid {P : Program} {fn : Func} {p u : Tmp} {ty : TypeId} (h : fn.results = #[.cell p ty, .tmp u]) (tmps : Array Value) (w : World) (b o : Nat) (cs : List Value) (d : TypeDesc)
    (hp : tmps.getD p undef = .pointer (some ⟨b, o, none⟩)) (hc : w.rangeAt b o cs) (hu : P.underlying ty = some d) (hd : d.isRow = true) (hi : (P.info? ty).map (·.size) = some cs.length) :
    (results fn tmps).run P w = .ok (.tuple #[.agg cs.toArray, tmps.getD u undef]) w := by
  rw [results_cell_tmp h, hp]
  simp only [asAddr, Sem.run_pure, Result.andThen_ok, run_loadVar_mid w b o ty cs d hc hu hd hi]
theorem one6v {k n : Int} {s : ByteArray} {A : Option Addr} {l c : Nat} {o i : Int} : ∀ v ∈ [Value.int .i64 k, .int .i64 n, .string s, .slice A l c, .int .i64 o, .int .i64 i], v.oneCell' = true := by
  intro v hv
  simp only [List.mem_cons, List.not_mem_nil, or_false] at hv
  rcases hv with rfl | rfl | rfl | rfl | rfl | rfl <;> rfl
/-- The document's answer: a struct, and the error's number. -/
def RUnwRet (k : Int) (A : Option Addr) (m c : Nat) (l : List UInt8) (w : World) (e : Ending) (w' : World) : Prop :=
  Below w.heap.size w w' ∧ (if unwE k l = 0 then e = .returned (.tuple #[.agg #[.int .i64 k, .int .i64 (unwN k l), .string (unwS k l), .slice (if k = 4 then A else none) (if k = 4 then m else 0) (if k = 4 then c else 0), .int .i64 (unwO k l), .int .i64 (unwI k l)], .int .i64 0])
    else e = .returned (.tuple #[.agg #[.int .i64 0, .int .i64 0, .string ⟨#[]⟩, .slice none 0 0, .int .i64 0, .int .i64 0], .int .i64 (unwE k l)]))
theorem RUnwRet.no {k : Int} {A : Option Addr} {m c : Nat} {l : List UInt8} {w w' : World} {r : Int} (hE : unwE k l = r) (hr : r ≠ 0) (hb : Below w.heap.size w w') : RUnwRet k A m c l w (.returned (.tuple #[.agg #[.int .i64 0, .int .i64 0, .string ⟨#[]⟩, .slice none 0 0, .int .i64 0, .int .i64 0], .int .i64 r])) w' := by
  refine ⟨hb, ?_⟩
  rw [hE, if_neg hr]
theorem range_new00 (w : World) (cs ds : Array Value) (t u : TypeId) {vs : List Value} (h : cs.toList = vs) : ((w.alloc (.cells cs t)).alloc (.cells ds u)).rangeAt w.heap.size 0 vs :=
  range_below (range_newB w cs t h) (alloc_below _ _) (by rw [alloc_size]; exact Nat.lt_succ_self _)
theorem cell2 {w : World} {p : Addr} {v : Value} (hb : p.block < w.heap.size) (h : w.cell? p = some v) (o1 o2 : Obj) : ((w.alloc o1).alloc o2).cell? p = some v :=
  (World.cell?_alloc_lt _ o2 p (by rw [alloc_size]; omega)).trans ((World.cell?_alloc_lt w o1 p hb).trans h)
theorem below_two (w : World) (a b : Obj) : Below w.heap.size w ((w.alloc a).alloc b) := ((Below.refl _ _).alloc (Nat.le_refl _) _).alloc (by rw [alloc_size]; omega) _
theorem wrap_small {x : Int} (h0 : 0 ≤ x) (h1 : x < 65536) : wrap64 x = x := by unfold wrap64; omega
theorem byte_wrap (u : UInt8) : wrap64 (u.toNat : Int) = (u.toNat : Int) := by have := byte_lt u; unfold wrap64; omega
theorem get_two (a b : UInt8) : getQ 0 [a, b] = (a.toNat : Int) * 256 + (b.toNat : Int) := by
  have h0 := byte_lt a
  have h1 := byte_lt b
  have e1 : wrap64 (0 * 256 + (a.toNat : Int)) = (a.toNat : Int) := by rw [wrap_small (by omega) (by omega)]; omega
  rw [getQ_cons, getQ_cons, e1, wrap_small (by omega) (by omega)]
  rfl
theorem u64_step (X y : Int) : IntKind.u64.wrap (IntKind.u64.wrap (X * 256) + y) = (X * 256 + y) % 18446744073709551616 := by
  rw [IntKind.wrap_u64, IntKind.wrap_u64]
  omega
theorem link_o {l : List UInt8} {u0 u1 u2 u3 : UInt8} (h : l = [u0, u1, u2, u3]) : getQ 0 (l.take 2) = (u0.toNat : Int) * 256 + (u1.toNat : Int) ∧ getQ 0 (l.drop 2) = (u2.toNat : Int) * 256 + (u3.toNat : Int) := by
  rw [h]
  exact ⟨get_two u0 u1, get_two u2 u3⟩
structure K6 (w W : World) (b off : Nat) (u0 u1 u2 u3 : UInt8) (o i : Int) : Prop where
  r1 : W.rangeAt (w.heap.size + 1) 0 [.int .i64 6, .int .i64 0, .string ⟨#[]⟩, .slice none 0 0, .int .i64 o, .int .i64 i]
  t1 : W.there (w.heap.size + 1) 0 6
  t0 : W.there w.heap.size 0 6
  hb : b < w.heap.size
  c0 : w.cell? ⟨b, off, none⟩ = some (.int .u8 (u0.toNat : Int))
  c1 : w.cell? ⟨b, off + 1, none⟩ = some (.int .u8 (u1.toNat : Int))
  c2 : w.cell? ⟨b, off + 2, none⟩ = some (.int .u8 (u2.toNat : Int))
  c3 : w.cell? ⟨b, off + 3, none⟩ = some (.int .u8 (u3.toNat : Int))
  bel : Below w.heap.size w W
theorem K6.drew {w W : World} {b off : Nat} {u0 u1 u2 u3 : UInt8} {o i : Int} (h : K6 w W b off u0 u1 u2 u3 o i) : K6 w W.drew b off u0 u1 u2 u3 o i := ⟨h.r1, h.t1, h.t0, h.hb, h.c0, h.c1, h.c2, h.c3, h.bel.drew⟩
theorem K6.set4 {w W : World} {b off : Nat} {u0 u1 u2 u3 : UInt8} {o i : Int} (h : K6 w W b off u0 u1 u2 u3 o i) (x : Int) : K6 w (W.setCell ⟨w.heap.size + 1, 4, none⟩ (.int .i64 x)) b off u0 u1 u2 u3 x i := by
  have r := range_set h.r1 h.t1 4 (show 4 < 6 by decide) (.int .i64 x)
  rw [Nat.zero_add] at r
  exact ⟨r, there_set h.t1 _ _, there_set h.t0 _ _, h.hb, h.c0, h.c1, h.c2, h.c3, h.bel.setCell (show w.heap.size ≤ w.heap.size + 1 by omega) _⟩
theorem K6.set5 {w W : World} {b off : Nat} {u0 u1 u2 u3 : UInt8} {o i : Int} (h : K6 w W b off u0 u1 u2 u3 o i) (x : Int) : K6 w (W.setCell ⟨w.heap.size + 1, 5, none⟩ (.int .i64 x)) b off u0 u1 u2 u3 o x := by
  have r := range_set h.r1 h.t1 5 (show 5 < 6 by decide) (.int .i64 x)
  rw [Nat.zero_add] at r
  exact ⟨r, there_set h.t1 _ _, there_set h.t0 _ _, h.hb, h.c0, h.c1, h.c2, h.c3, h.bel.setCell (show w.heap.size ≤ w.heap.size + 1 by omega) _⟩
end Go.Proofs.YtkacgdhcacclcaaDoor
