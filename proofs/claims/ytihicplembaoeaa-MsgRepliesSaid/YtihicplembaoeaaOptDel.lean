/-
  Options of a row struck out by a predicate.
-/
import Derived.Test.YtihicplembaoeaaOptCat
import Derived.Laws.OwnMore
import Derived.Lib.SliceRun
namespace Go.Proofs.Ytihicplembaoeaa
open Go.RowKit
set_option maxRecDepth 100000
set_option linter.unusedVariables false
theorem svs_set (X : List Sv) (i : Nat) (s : Sv) : svs (X.set i s) = ((svs X).set (i * 2) (.int .i64 s.k)).set (i * 2 + 1) (.slice s.A s.n s.c) := by
  induction X generalizing i with
  | nil => simp [svs]
  | cons a X ih =>
    cases i with
    | zero => rfl
    | succ i =>
      rw [List.set_cons_succ, svs_cons, svs_cons, ih, show (i + 1) * 2 = i * 2 + 1 + 1 by omega, List.set_cons_succ, List.set_cons_succ, List.set_cons_succ, List.set_cons_succ]
section
variable {w : World} {base : Nat} {e : TypeId} {g n cap : Nat} {X : List Sv}
/-- One option of a row written over. -/
theorem row_put (h : w.ownsRow base e 2 (.slice (some ⟨g, 0, none⟩) n cap) n (svs X)) (i : Nat) (s : Sv) :
    (w.setCells g (i * 2) [.int .i64 s.k, .slice s.A s.n s.c]).ownsRow base e 2 (.slice (some ⟨g, 0, none⟩) n cap) n (svs (X.set i s)) ∧ w.grownBy (w.setCells g (i * 2) [.int .i64 s.k, .slice s.A s.n s.c]) (some g) := by
  obtain ⟨a1, b1⟩ := h.stored (i * 2) (.int .i64 s.k)
  obtain ⟨a2, b2⟩ := a1.stored (i * 2 + 1) (.slice s.A s.n s.c)
  rw [svs_set]
  exact ⟨a2, b2.os.trans b1.os, b2.tape.trans b1.tape, b2.output.trans b1.output, Nat.le_trans b1.size b2.size, fun k hk hne => (b2.block k (Nat.lt_of_lt_of_le hk b1.size) hne).trans (b1.block k hk hne)⟩
theorem row_len {v : Value} (h : w.ownsRow base e 2 v n (svs X)) : X.length = n := by have := h.1; rw [svs_length] at this; omega
theorem row_there (h : w.ownsRow base e 2 (.slice (some ⟨g, 0, none⟩) n cap) n (svs X)) (i k : Nat) (hi : i * 2 + k ≤ n * 2) : w.there g (i * 2) k := by
  intro j hj
  refine ⟨?_, h.frozenAt _⟩
  rw [h.cellAt (i * 2 + j) (by omega)]
  rw [List.getElem?_eq_getElem (by rw [h.1]; omega)]
  rfl
theorem row_cut (h : w.ownsRow base e 2 (.slice (some ⟨g, 0, none⟩) n cap) n (svs X)) (i : Nat) (hi : i ≤ n) : w.ownsRow base e 2 (.slice (some ⟨g, 0, none⟩) i cap) i (svs (X.take i)) := by
  have hl := row_len h
  rcases h.2 with ⟨h', _⟩ | ⟨g', cap', cur, h', hb, hg, hnc, hcm, hcs, htake⟩
  · simp at h'
  · simp only [Value.slice.injEq, Option.some.injEq, Addr.mk.injEq, and_true, true_and] at h'
    obtain ⟨rfl, rfl⟩ := h'
    refine ⟨by rw [svs_length, List.length_take]; omega, .inr ⟨g, cap, cur, rfl, hb, hg, by omega, hcm, hcs, ?_⟩⟩
    have : svs (X.take i) = (svs X).take (i * 2) := by
      have e1 : svs X = svs (X.take i) ++ svs (X.drop i) := by rw [← svs_append, List.take_append_drop]
      rw [e1, List.take_left' (by rw [svs_length, List.length_take]; omega)]
    rw [this, ← htake, List.take_take, Nat.min_eq_left (by omega)]
theorem row_sh (h : w.ownsRow base e 2 (.slice (some ⟨g, 0, none⟩) n cap) n (svs X)) : Sh w w.heap.size (some ⟨g, 0, none⟩) n X := by
  obtain ⟨A, c, e1, _, hs⟩ := Sh.of_own h
  injection e1 with e1 _ _
  rw [e1]; exact hs
end
theorem grownBy_trans {w w1 w2 : World} {row : Option Nat} (a : w.grownBy w1 row) (b : w1.grownBy w2 row) : w.grownBy w2 row :=
  ⟨b.os.trans a.os, b.tape.trans a.tape, b.output.trans a.output, Nat.le_trans a.size b.size, fun k hk hne => (b.block k (Nat.lt_of_lt_of_le hk a.size) hne).trans (a.block k hk hne)⟩
theorem grownBy_below {w w1 : World} (row : Option Nat) (a : Below w.heap.size w w1) : w.grownBy w1 row := ⟨a.os, a.tape, a.output, a.size, fun k hk _ => a.block k hk⟩
theorem row_grown {w w1 : World} {base : Nat} {e : TypeId} {v : Value} {n : Nat} {xs : List Value} (h : w.ownsRow base e 2 v n xs) (a : Below w.heap.size w w1) : w1.ownsRow base e 2 v n xs := row_below h a
theorem setCells_grown (w : World) (g : Nat) (vs : List Value) : ∀ o, w.grownBy (w.setCells g o vs) (some g) := by
  induction vs generalizing w with
  | nil => intro o; exact World.grownBy.refl w _
  | cons v vs ih =>
    intro o
    rw [World.setCells]
    have a : w.grownBy (w.setCell ⟨g, o, none⟩ v) (some g) := ⟨rfl, rfl, rfl, by simp [World.setCell], fun k _ hk => heap_setCell_other w ⟨g, o, none⟩ k v (fun e => hk (by simp [e]))⟩
    exact grownBy_trans a (ih _ _)
theorem row_setCells {w : World} {base : Nat} {e : TypeId} {g n cap : Nat} {xs : List Value} (h : w.ownsRow base e 2 (.slice (some ⟨g, 0, none⟩) n cap) n xs) (us : List Value) : ∀ o, n * 2 ≤ o → (w.setCells g o us).ownsRow base e 2 (.slice (some ⟨g, 0, none⟩) n cap) n xs := by
  induction us generalizing w with
  | nil => intro o _; exact h
  | cons u us ih =>
    intro o ho
    rw [World.setCells]
    refine ih ?_ (o + 1) (by omega)
    have := (h.stored o u).1
    rw [List.set_eq_of_length_le (by rw [h.1]; exact ho)] at this
    exact this
section
variable {P : Program} (w : World)
theorem run_clear_two (t e ty : TypeId) (x y : Value) (ht : P.underlying t = some (.slice e)) (hv : ∀ w, (zeroValue e).run P w = .ok (.agg #[x, y]) w) (hx : x.oneCell' = true) (hy : y.oneCell' = true) (b o n c : Nat) (hn : 0 < n)
    (hth : w.there b o (n * 2)) : ∃ us, (Builtin.clear_ #[t] ty #[.slice (some ⟨b, o, none⟩) n c]).run P w = .ok (.tuple #[]) (w.setCells b o us) := by
  have hcs : (Value.agg #[x, y]).cells = #[x, y] := rfl
  have hone : ∀ v ∈ (Builtin.zeroCells #[x, y] n).toList, v.oneCell' = true := by
    intro v hv'
    simp only [Builtin.zeroCells, Array.toList_map, List.mem_map] at hv'
    obtain ⟨i, _, rfl⟩ := hv'
    have : i % 2 = 0 ∨ i % 2 = 1 := by omega
    rcases this with h | h
    · simp [h, hx]
    · simp [h, hy]
  have hlen : (Builtin.zeroCells #[x, y] n).toList.length = n * 2 := by rw [Array.length_toList, size_zeroCells]; rfl
  have hst := run_storeCells_cells (P := P) b o (Builtin.zeroCells #[x, y] n).toList 0 w (fun j hj => by rw [hlen] at hj; exact (hth j hj).1) (fun j hj => by rw [hlen] at hj; exact (hth j hj).2) hone
  simp only [Nat.add_zero] at hst
  refine ⟨(Builtin.zeroCells #[x, y] n).toList, ?_⟩
  obtain ⟨m, rfl⟩ : ∃ m, n = m + 1 := ⟨n - 1, by omega⟩
  simp [Builtin.clear_, run_underlying ht, hv, hcs, hst]
theorem wpList_clear_run {ops : Array Oper} {rest : List Oper} {o : Oper} {a : Act} {Q : Exit → Act → World → Prop} (hgd : o.guard = none) (s : Operand) (t : TypeId)
    (ho : o.op = .call { callee := .builtin .clear, args := #[s], argTypes := #[t] }) (b o' n c : Nat) (hs : a.eval s = .slice (some ⟨b, o', none⟩) n c)
    (hr : ∀ ty, ∃ us, (Builtin.clear_ #[t] ty #[.slice (some ⟨b, o', none⟩) n c]).run P w = .ok (.tuple #[]) (w.setCells b o' us)) (h : ∀ us, wpList P ops Q rest (a.put o.dst (.tuple #[])) (w.setCells b o' us)) : wpList P ops Q (o :: rest) a w :=
  wpList_plain hgd fun _ hK => by
    obtain ⟨us, hr⟩ := hr o.type
    unfold Oper.wp execOp
    simp only [ho, resolve, invoke, builtin, Sem.run_bind, Sem.run_pure, Result.andThen_ok, List.map_toArray, List.map_cons, List.map_nil, hs, hr]
    exact hK _ _ (h us)
end
theorem zero_opt (w : World) : (zeroValue 69).run Try.prog w = .ok (.agg #[.int .i64 0, .slice none 0 0]) w := by kernel_rfl
theorem idxP_cases (p : Sv → Bool) (vs : List Sv) : (idxP p vs = -1 ∧ ∀ s ∈ vs, p s = false) ∨ ∃ (k : Nat) (s : Sv), idxP p vs = k ∧ vs[k]? = some s ∧ p s = true ∧ ∀ (j : Nat) (t : Sv), j < k → vs[j]? = some t → p t = false := by
  unfold idxP
  cases h : vs.findIdx? p with
  | none =>
    rw [List.findIdx?_eq_none_iff] at h
    exact .inl ⟨rfl, h⟩
  | some i =>
    rw [List.findIdx?_eq_some_iff_getElem] at h
    obtain ⟨hi, hp, hh⟩ := h
    refine .inr ⟨i, vs[i], rfl, List.getElem?_eq_getElem hi, hp, fun j t hj ht => ?_⟩
    obtain ⟨hjl, rfl⟩ := List.getElem?_eq_some_iff.1 ht
    have := hh j hj
    simpa using this
theorem filter_step {p : Sv → Bool} {vs : List Sv} {j : Nat} {s : Sv} (h : vs[j]? = some s) : (vs.take (j + 1)).filter (fun s => !p s) = (vs.take j).filter (fun s => !p s) ++ (if p s = true then [] else [s]) := by
  rw [List.take_add_one, h, List.filter_append]
  congr 1
  cases hp : p s <;> simp [List.filter, hp]
theorem two_one (k : Int) (A : Option Addr) (n c : Nat) : (#[Value.int .i64 k, .slice A n c].all fun x => x.oneCell') = true := by simp [Value.oneCell']
set_option maxHeartbeats 8000000 in
theorem delfunc_f (v : Value) (n : Nat) (vs : List Sv) (w : World) (base : Nat) (hrow : w.ownsRow base 69 2 v n (svs vs)) (gf : Nat) (lb : Array Value) (p : Sv → Bool) (eg : Fn gf) (hn : n ≤ 1048576)
    (hp : ∀ (W : World) (s : Sv), w.grownBy W v.ownBlock → Calls Try.prog gf (#[.agg #[.int .i64 s.k, .slice s.A s.n s.c]] ++ lb) W fun e w' => e = .returned (.bool (p s)) ∧ Below W.heap.size W w') :
    Calls Try.prog 66 #[v, .func (.func gf) #[] lb] w fun e w' => ∃ v', e = .returned v' ∧ w'.ownsRow base 69 2 v' (vs.filter (fun s => !p s)).length (svs (vs.filter (fun s => !p s))) ∧ w.grownBy w' v.ownBlock := by
  obtain ⟨A, c, rfl, hc, hsh⟩ := Sh.of_own hrow
  have hnI : (n : Int) ≤ 1048576 := by omega
  have hidx := index_f gf lb p eg A n c vs w _ hsh (Nat.le_refl _) (by omega) (fun W s h => hp W s (grownBy_below _ h))
  rcases idxP_cases p vs with ⟨hm1, hall⟩ | ⟨k, s0, hk1, hk2, hk3, hk4⟩
  · rw [hm1] at hidx
    have hf : vs.filter (fun s => !p s) = vs := List.filter_eq_self.2 fun s hs => by rw [hall s hs]; rfl
    have HH : Aside _ := And.intro hrow (And.intro hf (row_len hrow))
    clear hrow hp hsh hf hm1 hall
    go_enter Try.func66, Try.ntmps66
    go_wp2_with (go_at_call 61; refine hidx.mono ?_; rintro e w1 ⟨rfl, b1⟩)
    go_ret
    refine ⟨_, rfl, ?_, grownBy_below _ b1⟩
    rw [HH.out.2.1, HH.out.2.2]
    exact row_below HH.out.1 b1
  · rw [hk1] at hidx
    have hkl : k < n := by have := (List.getElem?_eq_some_iff.1 hk2).1; have := row_len hrow; omega
    obtain ⟨b, off, e1, hbl, _⟩ := hsh.place (by omega)
    have hoff : off = 0 := by
      rcases hrow.2 with ⟨h', _⟩ | ⟨g', cap', cur, h', _⟩
      · rw [e1] at h'; simp at h'
      · rw [e1] at h'
        simp only [Value.slice.injEq, Option.some.injEq, Addr.mk.injEq, and_true, true_and] at h'
        exact h'.1.2
    subst e1 hoff
    have hpre : (vs.take (k + 1)).filter (fun s => !p s) = vs.take k := by
      rw [filter_step hk2, if_pos hk3, List.append_nil]
      exact List.filter_eq_self.2 fun s hs => by
        obtain ⟨j, hj⟩ := List.mem_iff_getElem?.1 hs
        have hjk : j < k := by have := (List.getElem?_eq_some_iff.1 hj).1; rw [List.length_take] at this; omega
        rw [List.getElem?_take_of_lt hjk] at hj
        rw [hk4 j s hjk hj]; rfl
    have hvl := row_len hrow
    have hcI : (n : Int) ≤ c := by omega
    have hkI : (k : Int) < n := by omega
    have hkm : ((k : Int) == -1) = false := beq_eq_false_iff_ne.2 (by omega)
    have HH : Aside _ := And.intro hrow (And.intro hp (And.intro hpre hvl))
    clear hrow hp hsh hpre hk2 hk3 hk4 hk1 hvl
    have eg' := eg
    unfold Fn at eg'
    go_enter Try.func66, Try.ntmps66
    go_wp2_with (go_at_call 61; refine hidx.mono ?_; rintro e w1 ⟨rfl, b1⟩; have H1 : Aside _ := b1; clear b1)
    go_loopw [5, 6, 7] (fun i j _ wr => ∃ (iN jN : Nat) (X : List Sv), iN < jN ∧ jN ≤ n ∧ i = .int .i64 iN ∧ j = .int .i64 jN ∧ wr.ownsRow base 69 2 (.slice (some ⟨b, 0, none⟩) n c) n (svs X) ∧ Aside (X.take iN = (vs.take jN).filter (fun s => !p s)) ∧ Aside (X.drop jN = vs.drop jN) ∧ w.grownBy wr (some b)) (fun _ j _ _ => n - (intOf j).toNat)
    case atStart =>
      refine ⟨k, k + 1, vs, by omega, by omega, rfl, by go_num, row_below HH.out.1 H1.out, ?_, rfl, grownBy_below _ H1.out⟩
      exact HH.out.2.2.1.symm
    case round =>
      obtain ⟨iN, jN, X, hij, hjn, rfl, rfl, hrow, hx1, hx2, hgr⟩ := hrel
      have hXl := row_len hrow
      by_cases hlt : jN < n
      · obtain ⟨s, hs⟩ : ∃ s, X[jN]? = some s := ⟨_, List.getElem?_eq_getElem (by omega)⟩
        have hsv : vs[jN]? = some s := by
          have e1 : (X.drop jN)[0]? = (vs.drop jN)[0]? := by rw [hx2.out]
          rw [List.getElem?_drop, List.getElem?_drop, Nat.add_zero] at e1
          rw [← e1]; exact hs
        have hstep := filter_step (p := p) hsv
        have hd : X.drop (jN + 1) = vs.drop (jN + 1) := by
          have e1 := congrArg (List.drop 1) hx2.out
          rwa [List.drop_drop, List.drop_drop] at e1
        have hrg := (row_sh hrow).range hs
        rw [Nat.zero_add] at hrg
        have hltI : (jN : Int) < n := by omega
        have HX : Aside _ := And.intro hrow (And.intro hgr (And.intro hstep (And.intro hd (And.intro hXl (And.intro hs hx1)))))
        clear hrow hgr hstep hd hXl hs hsv hx1 hx2
        obtain ⟨q, hq⟩ : ∃ q, p s = q := ⟨_, rfl⟩
        have HQ := Lib.hid hq
        obtain ⟨sk, sA, sn, sc⟩ := s
        dsimp only at hrg
        have hcall := HH.out.2.1 (wr.alloc (.cells #[.int .i64 sk, .slice sA sn sc] 69)) ⟨sk, sA, sn, sc⟩ (grownBy_trans HX.out.2.1 (grownBy_below _ (alloc_below wr _)))
        rw [hq] at hcall
        clear hq
        cases q with
        | true =>
          go_wp2_with (first
            | (refine wpList_load_mid rfl 69 (.tmp 24) rfl b (jN * 2) rfl [.int .i64 sk, .slice sA sn sc] _ hrg Try.underlying69 rfl size_opt1 ?_)
            | (go_at_fn gf; refine hcall.mono ?_; rintro e w2 ⟨rfl, b2⟩; have H2 : Aside _ := b2; clear b2))
          go_roundw
          case rel =>
            obtain ⟨hrow, hgr, hstep, hd, hXl, hs, hx1⟩ := HX.out
            have ha := (alloc_below wr (.cells #[.int .i64 sk, .slice sA sn sc] 69)).trans (H2.out.mono (alloc_below wr _).size)
            exact ⟨iN, jN + 1, X, by omega, by omega, rfl, by go_num, row_below hrow ha, (show Aside _ from by rw [hstep, if_pos HQ.out, List.append_nil]; exact hx1.out), hd, grownBy_trans hgr (grownBy_below _ ha)⟩
          case measure => simp [intOf]; omega
        | false =>
          have hnb := (alloc_below wr (.cells #[.int .i64 sk, .slice sA sn sc] 69))
          have hrg2 : (wr.alloc (.cells #[.int .i64 sk, .slice sA sn sc] 69)).rangeAt wr.heap.size 0 [.int .i64 sk, .slice sA sn sc] := fun j u hj => by
            rw [cell_of_row _ _ _ _ _ _ (heap_alloc_new wr _)]; simpa using hj
          go_wp2_with (first
            | (refine wpList_load_mid rfl 69 (.tmp 24) rfl b (jN * 2) rfl [.int .i64 sk, .slice sA sn sc] _ hrg Try.underlying69 rfl size_opt1 ?_)
            | (go_at_fn gf; refine hcall.mono ?_; rintro e w2 ⟨rfl, b2⟩; have h2c0 : w2.cell? ⟨wr.heap.size, 0, none⟩ = some (.int .i64 sk) := (b2.cell (p := ⟨wr.heap.size, 0, none⟩) (by rw [alloc_size]; show wr.heap.size < _; omega)).trans (hrg2 0 _ rfl); have h2c1 : w2.cell? ⟨wr.heap.size, 1, none⟩ = some (.slice sA sn sc) := (b2.cell (p := ⟨wr.heap.size, 1, none⟩) (by rw [alloc_size]; show wr.heap.size < _; omega)).trans (hrg2 1 _ rfl); have hth := row_there (row_below (row_below HX.out.1 (alloc_below wr _)) b2) iN 2 (by omega); have H2 : Aside _ := b2; clear b2)
            | (refine wpList_store_mid rfl 69 (.tmp 33) (.tmp 32) rfl b (iN * 2) #[.int .i64 sk, .slice sA sn sc] rfl rfl hth size_opt1 (two_one sk sA sn sc) ?_
               refine gen_world (F := fun W => wpList Try.prog _ _ _ _ W) (fun W => Aside (W.ownsRow base 69 2 (.slice (some ⟨b, 0, none⟩) n c) n (svs (X.set iN ⟨sk, sA, sn, sc⟩)) ∧ w.grownBy W (some b))) (by
                 have hr := row_put (row_below (row_below HX.out.1 (alloc_below wr _)) H2.out) iN ⟨sk, sA, sn, sc⟩
                 exact ⟨hr.1, grownBy_trans (grownBy_trans HX.out.2.1 (grownBy_below _ ((alloc_below wr _).trans (H2.out.mono (alloc_below wr _).size)))) hr.2⟩) ?_
               rintro w3 H3))
          go_roundw
          case rel =>
            obtain ⟨hrow, hgr, hstep, hd, hXl, hs, hx1⟩ := HX.out
            refine ⟨iN + 1, jN + 1, X.set iN ⟨sk, sA, sn, sc⟩, by omega, by omega, by go_num, by go_num, H3.out.1, (show Aside _ from ?_), (show Aside _ from ?_), H3.out.2⟩
            · rw [hstep, if_neg (by rw [HQ.out]; decide), ← hx1.out]
              rw [List.take_add_one, List.take_set, List.set_eq_of_length_le (by rw [List.length_take]; omega), List.getElem?_set_self (by omega)]; rfl
            · rw [List.drop_set_of_lt (by omega)]; exact hd
          case measure => simp [intOf]; omega
      · obtain rfl : jN = n := by omega
        have hth := row_there hrow iN ((jN - iN) * 2) (by omega)
        have hclr := run_clear_two (P := Try.prog) wr 22 69
        have hfin : X.take iN = vs.filter (fun s => !p s) := by
          have := hx1.out
          rw [List.take_of_length_le (l := vs) (by have := HH.out.2.2.2; omega)] at this
          exact this
        have HX : Aside _ := And.intro hrow (And.intro hgr (And.intro hfin hXl))
        have hiI : (iN : Int) < jN := by omega
        clear hclr hrow hgr hfin hXl hx1 hx2
        have hclr : ∀ ty, ∃ us, (Builtin.clear_ #[22] ty #[.slice (some ⟨b, iN * 2, none⟩) (jN - iN) (c - iN)]).run Try.prog wr = .ok (.tuple #[]) (wr.setCells b (iN * 2) us) := fun ty =>
          run_clear_two (P := Try.prog) wr 22 69 ty _ _ Try.underlying22 zero_opt rfl rfl b (iN * 2) (jN - iN) (c - iN) (by omega) hth
        have HC := Lib.hid hclr
        clear hclr hth
        have hne : ¬ c = iN := by omega
        go_wp2_with (refine wpList_clear_run _ rfl (.tmp 38) 22 rfl b (iN * 2) (jN - iN) (c - iN) rfl HC.out ?_
                     intro us
                     refine gen_world (F := fun W => wpList Try.prog _ _ _ _ W) (fun W => Aside (W.ownsRow base 69 2 (.slice (some ⟨b, 0, none⟩) iN c) iN (svs (X.take iN)) ∧ w.grownBy W (some b))) (by
                       exact ⟨row_setCells (row_cut HX.out.1 iN (by omega)) us _ (Nat.le_refl _), grownBy_trans HX.out.2.1 (setCells_grown wr b us _)⟩) ?_
                     rintro w3 H3)
        go_ret
        refine ⟨_, rfl, ?_, H3.out.2⟩
        have h3 := H3.out.1
        have hl := row_len h3
        rw [HX.out.2.2.1] at h3 hl
        rw [hl]
        exact h3
end Go.Proofs.Ytihicplembaoeaa
