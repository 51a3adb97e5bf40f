/-
  Answers of a row struck out by a predicate.
-/
import Derived.Test.YtdlgemlpbpbhcaaCaGet
import Derived.Laws.OwnMore
import Derived.Lib.SliceRun
namespace Go.Proofs.Ytdlgemlpbpbhcaa
open Go.RowKit
set_option linter.unusedVariables false
theorem ans_set (X : List An) (i : Nat) (s : An) : ans (X.set i s) = ((((ans X).set (i * 4) (.int .i64 s.f)).set (i * 4 + 1) (.int .i64 s.i)).set (i * 4 + 2) (.int .i64 s.t)).set (i * 4 + 3) (.slice s.A s.n s.c) := by
  induction X generalizing i with
  | nil => simp [ans]
  | cons a X ih =>
    cases i with
    | zero => rfl
    | succ i =>
      rw [List.set_cons_succ, ans_cons, ans_cons, ih, show (i + 1) * 4 = i * 4 + 1 + 1 + 1 + 1 by omega]
      simp only [List.set_cons_succ]
section
variable {w : World} {base : Nat} {e : TypeId} {g n cap : Nat} {X : List An}
/-- One option of a row written over. -/
theorem ca_row_put (h : w.ownsRow base e 4 (.slice (some ⟨g, 0, none⟩) n cap) n (ans X)) (i : Nat) (s : An) :
    (w.setCells g (i * 4) [.int .i64 s.f, .int .i64 s.i, .int .i64 s.t, .slice s.A s.n s.c]).ownsRow base e 4 (.slice (some ⟨g, 0, none⟩) n cap) n (ans (X.set i s)) ∧ w.grownBy (w.setCells g (i * 4) [.int .i64 s.f, .int .i64 s.i, .int .i64 s.t, .slice s.A s.n s.c]) (some g) := by
  obtain ⟨a1, b1⟩ := h.stored (i * 4) (.int .i64 s.f)
  obtain ⟨a2, b2⟩ := a1.stored (i * 4 + 1) (.int .i64 s.i)
  obtain ⟨a3, b3⟩ := a2.stored (i * 4 + 2) (.int .i64 s.t)
  obtain ⟨a4, b4⟩ := a3.stored (i * 4 + 3) (.slice s.A s.n s.c)
  have tr : ∀ {w w1 w2 : World} {row : Option Nat}, w.grownBy w1 row → w1.grownBy w2 row → w.grownBy w2 row := fun a b =>
    ⟨b.os.trans a.os, b.tape.trans a.tape, b.output.trans a.output, Nat.le_trans a.size b.size, fun k hk hne => (b.block k (Nat.lt_of_lt_of_le hk a.size) hne).trans (a.block k hk hne)⟩
  rw [ans_set]
  exact ⟨a4, tr b1 (tr b2 (tr b3 b4))⟩
theorem ca_row_len {v : Value} (h : w.ownsRow base e 4 v n (ans X)) : X.length = n := by have := h.1; rw [ans_length] at this; omega
theorem ca_row_there (h : w.ownsRow base e 4 (.slice (some ⟨g, 0, none⟩) n cap) n (ans X)) (i k : Nat) (hi : i * 4 + k ≤ n * 4) : w.there g (i * 4) k := by
  intro j hj
  refine ⟨?_, h.frozenAt _⟩
  rw [h.cellAt (i * 4 + j) (by omega)]
  rw [List.getElem?_eq_getElem (by rw [h.1]; omega)]
  rfl
theorem ca_row_cut (h : w.ownsRow base e 4 (.slice (some ⟨g, 0, none⟩) n cap) n (ans X)) (i : Nat) (hi : i ≤ n) : w.ownsRow base e 4 (.slice (some ⟨g, 0, none⟩) i cap) i (ans (X.take i)) := by
  have hl := ca_row_len h
  rcases h.2 with ⟨h', _⟩ | ⟨g', cap', cur, h', hb, hg, hnc, hcm, hcs, htake⟩
  · simp at h'
  · simp only [Value.slice.injEq, Option.some.injEq, Addr.mk.injEq, and_true, true_and] at h'
    obtain ⟨rfl, rfl⟩ := h'
    refine ⟨by rw [ans_length, List.length_take]; omega, .inr ⟨g, cap, cur, rfl, hb, hg, by omega, hcm, hcs, ?_⟩⟩
    have : ans (X.take i) = (ans X).take (i * 4) := by
      have e1 : ans X = ans (X.take i) ++ ans (X.drop i) := by rw [← ans_append, List.take_append_drop]
      rw [e1, List.take_left' (by rw [ans_length, List.length_take]; omega)]
    rw [this, ← htake, List.take_take, Nat.min_eq_left (by omega)]
theorem ca_row_sh (h : w.ownsRow base e 4 (.slice (some ⟨g, 0, none⟩) n cap) n (ans X)) : Ah w w.heap.size (some ⟨g, 0, none⟩) n X := by
  obtain ⟨A, c, e1, _, hs⟩ := Ah.of_own h
  injection e1 with e1 _ _
  rw [e1]; exact hs
end
theorem ca_grownBy_trans {w w1 w2 : World} {row : Option Nat} (a : w.grownBy w1 row) (b : w1.grownBy w2 row) : w.grownBy w2 row :=
  ⟨b.os.trans a.os, b.tape.trans a.tape, b.output.trans a.output, Nat.le_trans a.size b.size, fun k hk hne => (b.block k (Nat.lt_of_lt_of_le hk a.size) hne).trans (a.block k hk hne)⟩
theorem ca_grownBy_below {w w1 : World} (row : Option Nat) (a : Below w.heap.size w w1) : w.grownBy w1 row := ⟨a.os, a.tape, a.output, a.size, fun k hk _ => a.block k hk⟩
theorem ca_row_grown {w w1 : World} {base : Nat} {e : TypeId} {v : Value} {n : Nat} {xs : List Value} (h : w.ownsRow base e 4 v n xs) (a : Below w.heap.size w w1) : w1.ownsRow base e 4 v n xs := row_below4 h a
theorem ca_setCells_grown (w : World) (g : Nat) (vs : List Value) : ∀ o, w.grownBy (w.setCells g o vs) (some g) := by
  induction vs generalizing w with
  | nil => intro o; exact World.grownBy.refl w _
  | cons v vs ih =>
    intro o
    rw [World.setCells]
    have a : w.grownBy (w.setCell ⟨g, o, none⟩ v) (some g) := ⟨rfl, rfl, rfl, by simp [World.setCell], fun k _ hk => heap_setCell_other w ⟨g, o, none⟩ k v (fun e => hk (by simp [e]))⟩
    exact ca_grownBy_trans a (ih _ _)
theorem ca_row_setCells {w : World} {base : Nat} {e : TypeId} {g n cap : Nat} {xs : List Value} (h : w.ownsRow base e 4 (.slice (some ⟨g, 0, none⟩) n cap) n xs) (us : List Value) : ∀ o, n * 4 ≤ o → (w.setCells g o us).ownsRow base e 4 (.slice (some ⟨g, 0, none⟩) n cap) n xs := by
  induction us generalizing w with
  | nil => intro o _; exact h
  | cons u us ih =>
    intro o ho
    rw [World.setCells]
    refine ih ?_ (o + 1) (by omega)
    have := (h.stored o u).1
    rw [List.set_eq_of_length_le (by rw [h.1]; exact ho)] at this
    exact this
section
variable {P : Program} (w : World)
theorem ca_run_clear_two (t e ty : TypeId) (x y z u : Value) (ht : P.underlying t = some (.slice e)) (hv : ∀ w, (zeroValue e).run P w = .ok (.agg #[x, y, z, u]) w) (hx : x.oneCell' = true) (hy : y.oneCell' = true) (hz : z.oneCell' = true) (hu : u.oneCell' = true) (b o n c : Nat) (hn : 0 < n)
    (hth : w.there b o (n * 4)) : ∃ us, (Builtin.clear_ #[t] ty #[.slice (some ⟨b, o, none⟩) n c]).run P w = .ok (.tuple #[]) (w.setCells b o us) := by
  have hcs : (Value.agg #[x, y, z, u]).cells = #[x, y, z, u] := rfl
  have hone : ∀ v ∈ (Builtin.zeroCells #[x, y, z, u] n).toList, v.oneCell' = true := by
    intro v hv'
    simp only [Builtin.zeroCells, Array.toList_map, List.mem_map] at hv'
    obtain ⟨i, _, rfl⟩ := hv'
    have : i % 4 = 0 ∨ i % 4 = 1 ∨ i % 4 = 2 ∨ i % 4 = 3 := by omega
    rcases this with h | h | h | h
    · simp [h, hx]
    · simp [h, hy]
    · simp [h, hz]
    · simp [h, hu]
  have hlen : (Builtin.zeroCells #[x, y, z, u] n).toList.length = n * 4 := by rw [Array.length_toList, size_zeroCells]; rfl
  have hst := run_storeCells_cells (P := P) b o (Builtin.zeroCells #[x, y, z, u] n).toList 0 w (fun j hj => by rw [hlen] at hj; exact (hth j hj).1) (fun j hj => by rw [hlen] at hj; exact (hth j hj).2) hone
  simp only [Nat.add_zero] at hst
  refine ⟨(Builtin.zeroCells #[x, y, z, u] n).toList, ?_⟩
  obtain ⟨m, rfl⟩ : ∃ m, n = m + 1 := ⟨n - 1, by omega⟩
  simp [Builtin.clear_, run_underlying ht, hv, hcs, hst]
theorem ca_wpList_clear_run {ops : Array Oper} {rest : List Oper} {o : Oper} {a : Act} {Q : Exit → Act → World → Prop} (hgd : o.guard = none) (s : Operand) (t : TypeId)
    (ho : o.op = .call { callee := .builtin .clear, args := #[s], argTypes := #[t] }) (b o' n c : Nat) (hs : a.eval s = .slice (some ⟨b, o', none⟩) n c)
    (hr : ∀ ty, ∃ us, (Builtin.clear_ #[t] ty #[.slice (some ⟨b, o', none⟩) n c]).run P w = .ok (.tuple #[]) (w.setCells b o' us)) (h : ∀ us, wpList P ops Q rest (a.put o.dst (.tuple #[])) (w.setCells b o' us)) : wpList P ops Q (o :: rest) a w :=
  wpList_plain hgd fun _ hK => by
    obtain ⟨us, hr⟩ := hr o.type
    unfold Oper.wp execOp
    simp only [ho, resolve, invoke, builtin, Sem.run_bind, Sem.run_pure, Result.andThen_ok, List.map_toArray, List.map_cons, List.map_nil, hs, hr]
    exact hK _ _ (h us)
end
theorem zero_an (w : World) : (zeroValue 48).run Try.prog w = .ok (.agg #[.int .i64 0, .int .i64 0, .int .i64 0, .slice none 0 0]) w := by kernel_rfl
theorem idxA_cases (p : An → Bool) (vs : List An) : (idxA p vs = -1 ∧ ∀ s ∈ vs, p s = false) ∨ ∃ (k : Nat) (s : An), idxA p vs = k ∧ vs[k]? = some s ∧ p s = true ∧ ∀ (j : Nat) (t : An), j < k → vs[j]? = some t → p t = false := by
  unfold idxA
  cases h : vs.findIdx? p with
  | none =>
    rw [List.findIdx?_eq_none_iff] at h
    exact .inl ⟨rfl, h⟩
  | some i =>
    rw [List.findIdx?_eq_some_iff_getElem] at h
    obtain ⟨hi, hp, hh⟩ := h
    refine .inr ⟨i, vs[i], rfl, List.getElem?_eq_getElem hi, hp, fun j t hj ht => ?_⟩
    obtain ⟨hjl, rfl⟩ := List.getElem?_eq_some_iff.1 ht
    have := hh j hj
    simpa using this
theorem ca_filter_step {p : An → Bool} {vs : List An} {j : Nat} {s : An} (h : vs[j]? = some s) : (vs.take (j + 1)).filter (fun s => !p s) = (vs.take j).filter (fun s => !p s) ++ (if p s = true then [] else [s]) := by
  rw [List.take_add_one, h, List.filter_append]
  congr 1
  cases hp : p s <;> simp [List.filter, hp]
theorem four_one (a b d : Int) (A : Option Addr) (n c : Nat) : (#[Value.int .i64 a, .int .i64 b, .int .i64 d, .slice A n c].all fun x => x.oneCell') = true := by simp [Value.oneCell']
set_option maxHeartbeats 8000000 in
theorem cadel_f (v : Value) (n : Nat) (vs : List An) (w : World) (base : Nat) (hrow : w.ownsRow base 48 4 v n (ans vs)) (gf : Nat) (lb : Array Value) (p : An → Bool) (eg : FnA gf) (hn : n ≤ 1048576)
    (htk : ∀ s ∈ vs, 0 ≤ s.t ∧ s.t ≤ 1099511627776) (hp : ∀ (W : World) (s : An), w.grownBy W v.ownBlock → 0 ≤ s.t ∧ s.t ≤ 1099511627776 → Calls Try.prog gf (#[.agg #[.int .i64 s.f, .int .i64 s.i, .int .i64 s.t, .slice s.A s.n s.c]] ++ lb) W fun e w' => e = .returned (.bool (p s)) ∧ Below W.heap.size W w') :
    Calls Try.prog 19 #[v, .func (.func gf) #[] lb] w fun e w' => ∃ v', e = .returned v' ∧ w'.ownsRow base 48 4 v' (vs.filter (fun s => !p s)).length (ans (vs.filter (fun s => !p s))) ∧ w.grownBy w' v.ownBlock := by
  obtain ⟨A, c, rfl, hc, hsh⟩ := Ah.of_own hrow
  have hnI : (n : Int) ≤ 1048576 := by omega
  have hidx := indexA_f gf lb p eg A n c vs w _ hsh (Nat.le_refl _) (by omega) (fun W s h ht => hp W s (ca_grownBy_below _ h) ht) htk
  rcases idxA_cases p vs with ⟨hm1, hall⟩ | ⟨k, s0, hk1, hk2, hk3, hk4⟩
  · rw [hm1] at hidx
    have hf : vs.filter (fun s => !p s) = vs := List.filter_eq_self.2 fun s hs => by rw [hall s hs]; rfl
    have HH : Aside _ := And.intro hrow (And.intro hf (ca_row_len hrow))
    clear hrow hp hsh hf hm1 hall
    go_enter Try.func19, Try.ntmps19
    go_wp2_with (go_at_call 21; refine hidx.mono ?_; rintro e w1 ⟨rfl, b1⟩)
    go_ret
    refine ⟨_, rfl, ?_, ca_grownBy_below _ b1⟩
    rw [HH.out.2.1, HH.out.2.2]
    exact row_below4 HH.out.1 b1
  · rw [hk1] at hidx
    have hkl : k < n := by have := (List.getElem?_eq_some_iff.1 hk2).1; have := ca_row_len hrow; omega
    obtain ⟨b, off, e1, hbl, _⟩ := hsh.place (by omega)
    have hoff : off = 0 := by
      rcases hrow.2 with ⟨h', _⟩ | ⟨g', cap', cur, h', _⟩
      · rw [e1] at h'; simp at h'
      · rw [e1] at h'
        simp only [Value.slice.injEq, Option.some.injEq, Addr.mk.injEq, and_true, true_and] at h'
        exact h'.1.2
    subst e1 hoff
    have hpre : (vs.take (k + 1)).filter (fun s => !p s) = vs.take k := by
      rw [ca_filter_step hk2, if_pos hk3, List.append_nil]
      exact List.filter_eq_self.2 fun s hs => by
        obtain ⟨j, hj⟩ := List.mem_iff_getElem?.1 hs
        have hjk : j < k := by have := (List.getElem?_eq_some_iff.1 hj).1; rw [List.length_take] at this; omega
        rw [List.getElem?_take_of_lt hjk] at hj
        rw [hk4 j s hjk hj]; rfl
    have hvl := ca_row_len hrow
    have hcI : (n : Int) ≤ c := by omega
    have hkI : (k : Int) < n := by omega
    have hkm : ((k : Int) == -1) = false := beq_eq_false_iff_ne.2 (by omega)
    have HH : Aside _ := And.intro hrow (And.intro hp (And.intro hpre hvl))
    clear hrow hp hsh hpre hk2 hk3 hk4 hk1 hvl
    have eg' := eg
    unfold FnA at eg'
    go_enter Try.func19, Try.ntmps19
    go_wp2_with (go_at_call 21; refine hidx.mono ?_; rintro e w1 ⟨rfl, b1⟩; have H1 : Aside _ := b1; clear b1)
    go_loopw [5, 6, 7] (fun i j _ wr => ∃ (iN jN : Nat) (X : List An), iN < jN ∧ jN ≤ n ∧ i = .int .i64 iN ∧ j = .int .i64 jN ∧ wr.ownsRow base 48 4 (.slice (some ⟨b, 0, none⟩) n c) n (ans X) ∧ Aside (X.take iN = (vs.take jN).filter (fun s => !p s)) ∧ Aside (X.drop jN = vs.drop jN) ∧ w.grownBy wr (some b)) (fun _ j _ _ => n - (intOf j).toNat)
    case atStart =>
      refine ⟨k, k + 1, vs, by omega, by omega, rfl, by go_num, row_below4 HH.out.1 H1.out, ?_, rfl, ca_grownBy_below _ H1.out⟩
      exact HH.out.2.2.1.symm
    case round =>
      obtain ⟨iN, jN, X, hij, hjn, rfl, rfl, hrow, hx1, hx2, hgr⟩ := hrel
      have hXl := ca_row_len hrow
      by_cases hlt : jN < n
      · obtain ⟨s, hs⟩ : ∃ s, X[jN]? = some s := ⟨_, List.getElem?_eq_getElem (by omega)⟩
        have hsv : vs[jN]? = some s := by
          have e1 : (X.drop jN)[0]? = (vs.drop jN)[0]? := by rw [hx2.out]
          rw [List.getElem?_drop, List.getElem?_drop, Nat.add_zero] at e1
          rw [← e1]; exact hs
        have hstep := ca_filter_step (p := p) hsv
        have hd : X.drop (jN + 1) = vs.drop (jN + 1) := by
          have e1 := congrArg (List.drop 1) hx2.out
          rwa [List.drop_drop, List.drop_drop] at e1
        have hrg := (ca_row_sh hrow).range hs
        rw [Nat.zero_add] at hrg
        have hltI : (jN : Int) < n := by omega
        have HX : Aside _ := And.intro hrow (And.intro hgr (And.intro hstep (And.intro hd (And.intro hXl (And.intro hs hx1)))))
        clear hrow hgr hstep hd hXl hs hx1 hx2
        obtain ⟨q, hq⟩ : ∃ q, p s = q := ⟨_, rfl⟩
        have HQ := Lib.hid hq
        have hts := htk s (List.mem_of_getElem? hsv)
        clear hsv
        obtain ⟨sf, si, st, sA, sn, sc⟩ := s
        simp only [An.vals] at hrg
        have hcall := HH.out.2.1 (wr.alloc (.cells #[.int .i64 sf, .int .i64 si, .int .i64 st, .slice sA sn sc] 48)) ⟨sf, si, st, sA, sn, sc⟩ (ca_grownBy_trans HX.out.2.1 (ca_grownBy_below _ (alloc_below wr _))) hts
        rw [hq] at hcall
        clear hq
        cases q with
        | true =>
          go_wp2_with (first
            | (refine wpList_load_mid rfl 48 (.tmp 24) rfl b (jN * 4) rfl [.int .i64 sf, .int .i64 si, .int .i64 st, .slice sA sn sc] _ hrg Try.underlying48 rfl size_an ?_)
            | (go_at_fn gf; refine hcall.mono ?_; rintro e w2 ⟨rfl, b2⟩; have H2 : Aside _ := b2; clear b2))
          go_roundw
          case rel =>
            obtain ⟨hrow, hgr, hstep, hd, hXl, hs, hx1⟩ := HX.out
            have ha := (alloc_below wr (.cells #[.int .i64 sf, .int .i64 si, .int .i64 st, .slice sA sn sc] 48)).trans (H2.out.mono (alloc_below wr _).size)
            exact ⟨iN, jN + 1, X, by omega, by omega, rfl, by go_num, row_below4 hrow ha, (show Aside _ from by rw [hstep, if_pos HQ.out, List.append_nil]; exact hx1.out), hd, ca_grownBy_trans hgr (ca_grownBy_below _ ha)⟩
          case measure => simp [intOf]; omega
        | false =>
          have hnb := (alloc_below wr (.cells #[.int .i64 sf, .int .i64 si, .int .i64 st, .slice sA sn sc] 48))
          have hrg2 : (wr.alloc (.cells #[.int .i64 sf, .int .i64 si, .int .i64 st, .slice sA sn sc] 48)).rangeAt wr.heap.size 0 [.int .i64 sf, .int .i64 si, .int .i64 st, .slice sA sn sc] := fun j u hj => by
            rw [cell_of_row _ _ _ _ _ _ (heap_alloc_new wr _)]; simpa using hj
          go_wp2_with (first
            | (refine wpList_load_mid rfl 48 (.tmp 24) rfl b (jN * 4) rfl [.int .i64 sf, .int .i64 si, .int .i64 st, .slice sA sn sc] _ hrg Try.underlying48 rfl size_an ?_)
            | (go_at_fn gf; refine hcall.mono ?_; rintro e w2 ⟨rfl, b2⟩; have h2c0 : w2.cell? ⟨wr.heap.size, 0, none⟩ = some (.int .i64 sf) := (b2.cell (p := ⟨wr.heap.size, 0, none⟩) (by rw [alloc_size]; show wr.heap.size < _; omega)).trans (hrg2 0 _ rfl); have h2c1 : w2.cell? ⟨wr.heap.size, 1, none⟩ = some (.int .i64 si) := (b2.cell (p := ⟨wr.heap.size, 1, none⟩) (by rw [alloc_size]; show wr.heap.size < _; omega)).trans (hrg2 1 _ rfl); have h2c2 : w2.cell? ⟨wr.heap.size, 2, none⟩ = some (.int .i64 st) := (b2.cell (p := ⟨wr.heap.size, 2, none⟩) (by rw [alloc_size]; show wr.heap.size < _; omega)).trans (hrg2 2 _ rfl); have h2c3 : w2.cell? ⟨wr.heap.size, 3, none⟩ = some (.slice sA sn sc) := (b2.cell (p := ⟨wr.heap.size, 3, none⟩) (by rw [alloc_size]; show wr.heap.size < _; omega)).trans (hrg2 3 _ rfl); have hth := ca_row_there (row_below4 (row_below4 HX.out.1 (alloc_below wr _)) b2) iN 4 (by omega); have H2 : Aside _ := b2; clear b2)
            | (refine wpList_store_mid rfl 48 (.tmp 33) (.tmp 32) rfl b (iN * 4) #[.int .i64 sf, .int .i64 si, .int .i64 st, .slice sA sn sc] rfl rfl hth size_an (four_one sf si st sA sn sc) ?_
               refine gen_world (F := fun W => wpList Try.prog _ _ _ _ W) (fun W => Aside (W.ownsRow base 48 4 (.slice (some ⟨b, 0, none⟩) n c) n (ans (X.set iN ⟨sf, si, st, sA, sn, sc⟩)) ∧ w.grownBy W (some b))) (by
                 have hr := ca_row_put (row_below4 (row_below4 HX.out.1 (alloc_below wr _)) H2.out) iN ⟨sf, si, st, sA, sn, sc⟩
                 exact ⟨hr.1, ca_grownBy_trans (ca_grownBy_trans HX.out.2.1 (ca_grownBy_below _ ((alloc_below wr _).trans (H2.out.mono (alloc_below wr _).size)))) hr.2⟩) ?_
               rintro w3 H3))
          go_roundw
          case rel =>
            obtain ⟨hrow, hgr, hstep, hd, hXl, hs, hx1⟩ := HX.out
            refine ⟨iN + 1, jN + 1, X.set iN ⟨sf, si, st, sA, sn, sc⟩, by omega, by omega, by go_num, by go_num, H3.out.1, (show Aside _ from ?_), (show Aside _ from ?_), H3.out.2⟩
            · rw [hstep, if_neg (by rw [HQ.out]; decide), ← hx1.out]
              rw [List.take_add_one, List.take_set, List.set_eq_of_length_le (by rw [List.length_take]; omega), List.getElem?_set_self (by omega)]; rfl
            · rw [List.drop_set_of_lt (by omega)]; exact hd
          case measure => simp [intOf]; omega
      · obtain rfl : jN = n := by omega
        have hth := ca_row_there hrow iN ((jN - iN) * 4) (by omega)
        have hfin : X.take iN = vs.filter (fun s => !p s) := by
          have := hx1.out
          rw [List.take_of_length_le (l := vs) (by have := HH.out.2.2.2; omega)] at this
          exact this
        have HX : Aside _ := And.intro hrow (And.intro hgr (And.intro hfin hXl))
        have hiI : (iN : Int) < jN := by omega
        clear hrow hgr hfin hXl hx1 hx2
        have hclr : ∀ ty, ∃ us, (Builtin.clear_ #[42] ty #[.slice (some ⟨b, iN * 4, none⟩) (jN - iN) (c - iN)]).run Try.prog wr = .ok (.tuple #[]) (wr.setCells b (iN * 4) us) := fun ty =>
          ca_run_clear_two (P := Try.prog) wr 42 48 ty _ _ _ _ Try.underlying42 zero_an rfl rfl rfl rfl b (iN * 4) (jN - iN) (c - iN) (by omega) hth
        have HC := Lib.hid hclr
        clear hclr hth
        have hne : ¬ c = iN := by omega
        go_wp2_with (refine ca_wpList_clear_run _ rfl (.tmp 38) 42 rfl b (iN * 4) (jN - iN) (c - iN) rfl HC.out ?_
                     intro us
                     refine gen_world (F := fun W => wpList Try.prog _ _ _ _ W) (fun W => Aside (W.ownsRow base 48 4 (.slice (some ⟨b, 0, none⟩) iN c) iN (ans (X.take iN)) ∧ w.grownBy W (some b))) (by
                       exact ⟨ca_row_setCells (ca_row_cut HX.out.1 iN (by omega)) us _ (Nat.le_refl _), ca_grownBy_trans HX.out.2.1 (ca_setCells_grown wr b us _)⟩) ?_
                     rintro w3 H3)
        go_ret
        refine ⟨_, rfl, ?_, H3.out.2⟩
        have h3 := H3.out.1
        have hl := ca_row_len h3
        rw [HX.out.2.2.1] at h3 hl
        rw [hl]
        exact h3
end Go.Proofs.Ytdlgemlpbpbhcaa
