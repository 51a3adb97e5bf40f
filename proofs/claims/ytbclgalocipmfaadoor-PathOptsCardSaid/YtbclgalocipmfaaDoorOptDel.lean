/-
  Options copied into new memory; slices of options one behind the other.
-/
/-
  Options of a row struck out by a predicate.
-/
import Derived.Test.YtbclgalocipmfaaDoorOptRow
import Derived.Laws.OwnMore
import Derived.Lib.SliceRun
namespace Go.Proofs.YtbclgalocipmfaaDoor
open Go.RowKit
set_option maxRecDepth 100000
set_option linter.unusedVariables false
section
variable {P : Program} (w : World)
theorem step_append_svs {ops : Array Oper} {o : Oper} {a : Act} {K : Act → World → Prop} {Q : Exit → Act → World → Prop} {E : Prop} (hgd : o.guard = none) (s x : Operand) (t : TypeId)
    (ho : o.op = .call { callee := .builtin .append, args := #[s, x], argTypes := #[t, t] })
    (base : Nat) (e : TypeId) (i : TypeInfo) (z : Value) (ht : P.underlying t = some (.slice e)) (hi : P.info? e = some i) (hz : i.zero = some z)
    (hsize : i.size = 2) (hby : i.bytes = 32) (hzs : z.cells.size = 2) (v : Value) (n : Nat) (xs : List Sv) (hs : a.eval s = v) (hown : w.ownsRow base e 2 v n (svs xs))
    (B : Nat) (A : Option Addr) (m c : Nat) (l : List Sv) (hx : a.eval x = .slice A m c) (hb : Sh w B A m l) (hnm : n + m ≤ 1099511627776) (hbase : base ≤ w.heap.size)
    (h : ∀ v' w', w'.ownsRow base e 2 v' (n + m) (svs (xs ++ l)) → w.grownBy w' v.ownBlock → K (a.put o.dst v') w') :
    if Region.wanted o (yielded ops a.tmps) = true then Oper.wp P o a w K Q else E := by
  have hw : Region.wanted o (yielded ops a.tmps) = true := by simp [Region.wanted, hgd]
  rw [if_pos hw]
  exact wp_append_svs w s x t ho base e i z ht hi hz hsize hby hzs v n xs hs hown B A m c l hx hb hnm hbase h
end
theorem Sh.lit0 (w : World) (e : TypeId) (s : Sv) (fr : Nat × Nat) : Sh (w.alloc (.cells #[.int .i64 s.k, .slice s.A s.n s.c] e fr)) (w.heap.size + 1) (some ⟨w.heap.size, 0, none⟩) 1 [s] := Sh.lit_ w e _ fr s rfl
/-- A slice of slices of options. -/
structure Sq where
  A : Option Addr
  n : Nat
  c : Nat
  vs : List Sv
structure Ss (w : World) (B : Nat) (A : Option Addr) (m : Nat) (L : List Sq) : Prop where
  len : L.length = m
  place : 0 < m → ∃ b off, A = some ⟨b, off, none⟩ ∧ b < B ∧ ∀ (i : Nat) (q : Sq), L[i]? = some q → w.cell? ⟨b, off + i, none⟩ = some (.slice q.A q.n q.c) ∧ Sh w B q.A q.n q.vs
theorem Ss.below' {w w' : World} {B B' m : Nat} {A : Option Addr} {L : List Sq} (h : Ss w B A m L) (hb : Below B' w w') (hB : B ≤ B') : Ss w' B A m L :=
  ⟨h.len, fun hn => by
    obtain ⟨b, off, e, hbb, hc⟩ := h.place hn
    exact ⟨b, off, e, hbb, fun i s hs => ⟨(hb.cell (p := ⟨b, off + i, none⟩) (Nat.lt_of_lt_of_le hbb hB)).trans (hc i s hs).1, (hc i s hs).2.below' hb hB⟩⟩⟩
def cat (L : List Sq) : List Sv := L.flatMap (·.vs)
theorem cat_take {L : List Sq} {k : Nat} {q : Sq} (h : L[k]? = some q) : cat (L.take (k + 1)) = cat (L.take k) ++ q.vs := by
  unfold cat
  rw [List.take_add_one, h, List.flatMap_append]; simp
theorem cat_le {L : List Sq} {k : Nat} : (cat (L.take k)).length ≤ (cat L).length := by
  have h : cat L = cat (L.take k) ++ cat (L.drop k) := by unfold cat; rw [← List.flatMap_append, List.take_append_drop]
  rw [h, List.length_append]; omega
theorem svs_set (X : List Sv) (i : Nat) (s : Sv) : svs (X.set i s) = ((svs X).set (i * 2) (.int .i64 s.k)).set (i * 2 + 1) (.slice s.A s.n s.c) := by
  induction X generalizing i with
  | nil => simp [svs]
  | cons a X ih =>
    cases i with
    | zero => rfl
    | succ i =>
      rw [List.set_cons_succ, svs_cons, svs_cons, ih, show (i + 1) * 2 = i * 2 + 1 + 1 by omega, List.set_cons_succ, List.set_cons_succ, List.set_cons_succ, List.set_cons_succ]
section
variable {w : World} {base : Nat} {e : TypeId} {g n cap : Nat} {X : List Sv}
/-- One option of a row written over. -/
theorem row_put (h : w.ownsRow base e 2 (.slice (some ⟨g, 0, none⟩) n cap) n (svs X)) (i : Nat) (s : Sv) :
    (w.setCells g (i * 2) [.int .i64 s.k, .slice s.A s.n s.c]).ownsRow base e 2 (.slice (some ⟨g, 0, none⟩) n cap) n (svs (X.set i s)) ∧ w.grownBy (w.setCells g (i * 2) [.int .i64 s.k, .slice s.A s.n s.c]) (some g) := by
  obtain ⟨a1, b1⟩ := h.stored (i * 2) (.int .i64 s.k)
  obtain ⟨a2, b2⟩ := a1.stored (i * 2 + 1) (.slice s.A s.n s.c)
  rw [svs_set]
  exact ⟨a2, b2.os.trans b1.os, b2.tape.trans b1.tape, b2.output.trans b1.output, Nat.le_trans b1.size b2.size, fun k hk hne => (b2.block k (Nat.lt_of_lt_of_le hk b1.size) hne).trans (b1.block k hk hne)⟩
theorem row_len {v : Value} (h : w.ownsRow base e 2 v n (svs X)) : X.length = n := by have := h.1; rw [svs_length] at this; omega
theorem row_there (h : w.ownsRow base e 2 (.slice (some ⟨g, 0, none⟩) n cap) n (svs X)) (i k : Nat) (hi : i * 2 + k ≤ n * 2) : w.there g (i * 2) k := by
  intro j hj
  refine ⟨?_, h.frozenAt _⟩
  rw [h.cellAt (i * 2 + j) (by omega)]
  rw [List.getElem?_eq_getElem (by rw [h.1]; omega)]
  rfl
theorem row_cut (h : w.ownsRow base e 2 (.slice (some ⟨g, 0, none⟩) n cap) n (svs X)) (i : Nat) (hi : i ≤ n) : w.ownsRow base e 2 (.slice (some ⟨g, 0, none⟩) i cap) i (svs (X.take i)) := by
  have hl := row_len h
  rcases h.2 with ⟨h', _⟩ | ⟨g', cap', cur, h', hb, hg, hnc, hcm, hcs, htake⟩
  · simp at h'
  · simp only [Value.slice.injEq, Option.some.injEq, Addr.mk.injEq, and_true, true_and] at h'
    obtain ⟨rfl, rfl⟩ := h'
    refine ⟨by rw [svs_length, List.length_take]; omega, .inr ⟨g, cap, cur, rfl, hb, hg, by omega, hcm, hcs, ?_⟩⟩
    have : svs (X.take i) = (svs X).take (i * 2) := by
      have e1 : svs X = svs (X.take i) ++ svs (X.drop i) := by rw [← svs_append, List.take_append_drop]
      rw [e1, List.take_left' (by rw [svs_length, List.length_take]; omega)]
    rw [this, ← htake, List.take_take, Nat.min_eq_left (by omega)]
theorem row_sh (h : w.ownsRow base e 2 (.slice (some ⟨g, 0, none⟩) n cap) n (svs X)) : Sh w w.heap.size (some ⟨g, 0, none⟩) n X := by
  obtain ⟨A, c, e1, _, hs⟩ := Sh.of_own h
  injection e1 with e1 _ _
  rw [e1]; exact hs
end
theorem grownBy_trans {w w1 w2 : World} {row : Option Nat} (a : w.grownBy w1 row) (b : w1.grownBy w2 row) : w.grownBy w2 row :=
  ⟨b.os.trans a.os, b.tape.trans a.tape, b.output.trans a.output, Nat.le_trans a.size b.size, fun k hk hne => (b.block k (Nat.lt_of_lt_of_le hk a.size) hne).trans (a.block k hk hne)⟩
theorem grownBy_below {w w1 : World} (row : Option Nat) (a : Below w.heap.size w w1) : w.grownBy w1 row := ⟨a.os, a.tape, a.output, a.size, fun k hk _ => a.block k hk⟩
theorem row_grown {w w1 : World} {base : Nat} {e : TypeId} {v : Value} {n : Nat} {xs : List Value} (h : w.ownsRow base e 2 v n xs) (a : Below w.heap.size w w1) : w1.ownsRow base e 2 v n xs := row_below h a
theorem setCells_grown (w : World) (g : Nat) (vs : List Value) : ∀ o, w.grownBy (w.setCells g o vs) (some g) := by
  induction vs generalizing w with
  | nil => intro o; exact World.grownBy.refl w _
  | cons v vs ih =>
    intro o
    rw [World.setCells]
    have a : w.grownBy (w.setCell ⟨g, o, none⟩ v) (some g) := ⟨rfl, rfl, rfl, by simp [World.setCell], fun k _ hk => heap_setCell_other w ⟨g, o, none⟩ k v (fun e => hk (by simp [e]))⟩
    exact grownBy_trans a (ih _ _)
theorem row_setCells {w : World} {base : Nat} {e : TypeId} {g n cap : Nat} {xs : List Value} (h : w.ownsRow base e 2 (.slice (some ⟨g, 0, none⟩) n cap) n xs) (us : List Value) : ∀ o, n * 2 ≤ o → (w.setCells g o us).ownsRow base e 2 (.slice (some ⟨g, 0, none⟩) n cap) n xs := by
  induction us generalizing w with
  | nil => intro o _; exact h
  | cons u us ih =>
    intro o ho
    rw [World.setCells]
    refine ih ?_ (o + 1) (by omega)
    have := (h.stored o u).1
    rw [List.set_eq_of_length_le (by rw [h.1]; exact ho)] at this
    exact this
section
variable {P : Program} (w : World)
theorem run_clear_two (t e ty : TypeId) (x y : Value) (ht : P.underlying t = some (.slice e)) (hv : ∀ w, (zeroValue e).run P w = .ok (.agg #[x, y]) w) (hx : x.oneCell' = true) (hy : y.oneCell' = true) (b o n c : Nat) (hn : 0 < n)
    (hth : w.there b o (n * 2)) : ∃ us, (Builtin.clear_ #[t] ty #[.slice (some ⟨b, o, none⟩) n c]).run P w = .ok (.tuple #[]) (w.setCells b o us) := by
  have hcs : (Value.agg #[x, y]).cells = #[x, y] := rfl
  have hone : ∀ v ∈ (Builtin.zeroCells #[x, y] n).toList, v.oneCell' = true := by
    intro v hv'
    simp only [Builtin.zeroCells, Array.toList_map, List.mem_map] at hv'
    obtain ⟨i, _, rfl⟩ := hv'
    have : i % 2 = 0 ∨ i % 2 = 1 := by omega
    rcases this with h | h
    · simp [h, hx]
    · simp [h, hy]
  have hlen : (Builtin.zeroCells #[x, y] n).toList.length = n * 2 := by rw [Array.length_toList, size_zeroCells]; rfl
  have hst := run_storeCells_cells (P := P) b o (Builtin.zeroCells #[x, y] n).toList 0 w (fun j hj => by rw [hlen] at hj; exact (hth j hj).1) (fun j hj => by rw [hlen] at hj; exact (hth j hj).2) hone
  simp only [Nat.add_zero] at hst
  refine ⟨(Builtin.zeroCells #[x, y] n).toList, ?_⟩
  obtain ⟨m, rfl⟩ : ∃ m, n = m + 1 := ⟨n - 1, by omega⟩
  simp [Builtin.clear_, run_underlying ht, hv, hcs, hst]
theorem wpList_clear_run {ops : Array Oper} {rest : List Oper} {o : Oper} {a : Act} {Q : Exit → Act → World → Prop} (hgd : o.guard = none) (s : Operand) (t : TypeId)
    (ho : o.op = .call { callee := .builtin .clear, args := #[s], argTypes := #[t] }) (b o' n c : Nat) (hs : a.eval s = .slice (some ⟨b, o', none⟩) n c)
    (hr : ∀ ty, ∃ us, (Builtin.clear_ #[t] ty #[.slice (some ⟨b, o', none⟩) n c]).run P w = .ok (.tuple #[]) (w.setCells b o' us)) (h : ∀ us, wpList P ops Q rest (a.put o.dst (.tuple #[])) (w.setCells b o' us)) : wpList P ops Q (o :: rest) a w :=
  wpList_plain hgd fun _ hK => by
    obtain ⟨us, hr⟩ := hr o.type
    unfold Oper.wp execOp
    simp only [ho, resolve, invoke, builtin, Sem.run_bind, Sem.run_pure, Result.andThen_ok, List.map_toArray, List.map_cons, List.map_nil, hs, hr]
    exact hK _ _ (h us)
end
theorem zero_opt (w : World) : (zeroValue 99).run Tryd.prog w = .ok (.agg #[.int .i64 0, .slice none 0 0]) w := by kernel_rfl
theorem idxP_cases (p : Sv → Bool) (vs : List Sv) : (idxP p vs = -1 ∧ ∀ s ∈ vs, p s = false) ∨ ∃ (k : Nat) (s : Sv), idxP p vs = k ∧ vs[k]? = some s ∧ p s = true ∧ ∀ (j : Nat) (t : Sv), j < k → vs[j]? = some t → p t = false := by
  unfold idxP
  cases h : vs.findIdx? p with
  | none =>
    rw [List.findIdx?_eq_none_iff] at h
    exact .inl ⟨rfl, h⟩
  | some i =>
    rw [List.findIdx?_eq_some_iff_getElem] at h
    obtain ⟨hi, hp, hh⟩ := h
    refine .inr ⟨i, vs[i], rfl, List.getElem?_eq_getElem hi, hp, fun j t hj ht => ?_⟩
    obtain ⟨hjl, rfl⟩ := List.getElem?_eq_some_iff.1 ht
    have := hh j hj
    simpa using this
theorem filter_step {p : Sv → Bool} {vs : List Sv} {j : Nat} {s : Sv} (h : vs[j]? = some s) : (vs.take (j + 1)).filter (fun s => !p s) = (vs.take j).filter (fun s => !p s) ++ (if p s = true then [] else [s]) := by
  rw [List.take_add_one, h, List.filter_append]
  congr 1
  cases hp : p s <;> simp [List.filter, hp]
theorem two_one (k : Int) (A : Option Addr) (n c : Nat) : (#[Value.int .i64 k, .slice A n c].all fun x => x.oneCell') = true := by simp [Value.oneCell']
end Go.Proofs.YtbclgalocipmfaaDoor
