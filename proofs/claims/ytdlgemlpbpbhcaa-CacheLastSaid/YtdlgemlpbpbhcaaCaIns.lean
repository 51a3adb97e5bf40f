/-
  Answers of a row: one put between the others, the first one taken away.
-/
import Derived.Test.YtdlgemlpbpbhcaaCaDel
import Derived.Laws.Externs
import Derived.Laws.IdiomCopy
import Derived.Lib.Overlaps
import Derived.Lib.AppendZerosOnto
import Derived.Deep.RegionLaw
namespace Go.Proofs.Ytdlgemlpbpbhcaa
open Go.RowKit
set_option linter.unusedVariables false
theorem own_puts {base : Nat} {e : TypeId} {sz g N cap : Nat} : ∀ (ys : List Value) (w : World) (xs : List Value) (o : Nat), w.ownsRow base e sz (.slice (some ⟨g, 0, none⟩) N cap) N xs → o + ys.length ≤ xs.length →
    (w.setCells g o ys).ownsRow base e sz (.slice (some ⟨g, 0, none⟩) N cap) N (xs.take o ++ ys ++ xs.drop (o + ys.length)) ∧ w.grownBy (w.setCells g o ys) (some g)
  | [], w, xs, o, h, _ => by
    refine ⟨?_, World.grownBy.refl w _⟩
    rw [World.setCells, List.append_nil, List.length_nil, Nat.add_zero, List.take_append_drop]; exact h
  | y :: ys, w, xs, o, h, ho => by
    rw [List.length_cons] at ho
    obtain ⟨a, b⟩ := h.stored o y
    obtain ⟨c, d⟩ := own_puts ys _ (xs.set o y) (o + 1) a (by rw [List.length_set]; omega)
    rw [World.setCells]
    refine ⟨?_, ca_grownBy_trans b d⟩
    have e1 : (xs.set o y).take (o + 1) = xs.take o ++ [y] := by
      rw [List.take_add_one, List.take_set, List.set_eq_of_length_le (by rw [List.length_take]; omega), List.getElem?_set_self (by omega)]; rfl
    rw [e1, List.drop_set_of_lt (by omega)] at c
    rw [List.length_cons, show o + (ys.length + 1) = o + 1 + ys.length by omega]
    simpa using c
theorem own_wide {w : World} {base : Nat} {e : TypeId} {sz g n cap : Nat} {xs : List Value} (h : w.ownsRow base e sz (.slice (some ⟨g, 0, none⟩) n cap) n xs) {N : Nat} (hn : n ≤ N) (hN : N ≤ cap) :
    ∃ zs : List Value, zs.length = (N - n) * sz ∧ w.ownsRow base e sz (.slice (some ⟨g, 0, none⟩) N cap) N (xs ++ zs) := by
  have hl := h.1
  rcases h.2 with ⟨h', _⟩ | ⟨g', cap', cur, h', hb, hg, hnc, hcm, hcs, htake⟩
  · simp at h'
  · simp only [Value.slice.injEq, Option.some.injEq, Addr.mk.injEq, and_true, true_and] at h'
    obtain ⟨rfl, rfl⟩ := h'
    have h1 : n * sz ≤ N * sz := Nat.mul_le_mul_right _ hn
    have h2 : N * sz ≤ cap * sz := Nat.mul_le_mul_right _ hN
    have h3 : (N - n) * sz = N * sz - n * sz := Nat.sub_mul _ _ _
    have e1 : cur.toList.take (N * sz) = xs ++ (cur.toList.take (N * sz)).drop (n * sz) := by
      rw [← htake]
      have : cur.toList.take (n * sz) = (cur.toList.take (N * sz)).take (n * sz) := by rw [List.take_take, Nat.min_eq_left h1]
      rw [this, List.take_append_drop]
    have hz : ((cur.toList.take (N * sz)).drop (n * sz)).length = (N - n) * sz := by rw [List.length_drop, List.length_take, Array.length_toList, hcs]; omega
    exact ⟨_, hz, by rw [List.length_append, hl, hz]; omega, .inr ⟨g, cap, cur, rfl, hb, hg, hN, hcm, hcs, e1⟩⟩
section
variable {P : Program}
theorem run_copy_sz (w : World) (dT sT ty elem : TypeId) (sz : Nat) (b o dLen dCap : Nat) (a : Addr) (sLen sCap : Nat) (cs : List Value) (q : Nat)
    (hu : P.underlying dT = some (.slice elem)) (hs : (P.info? elem).map (·.size) = some sz) (hq : q = Nat.min sLen dLen) (hn : cs.length = q * sz)
    (hsrc : ∀ j v, cs[j]? = some v → w.cell? (a.add j) = some v) (hc : ∀ j, j < cs.length → (w.cell? ⟨b, o + j, none⟩).isSome = true) (hf : ∀ j, j < cs.length → w.frozen? ⟨b, o + j, none⟩ = false) (h1 : ∀ v ∈ cs, v.oneCell' = true) :
    (Builtin.copy_ #[dT, sT] ty #[.slice (some ⟨b, o, none⟩) dLen dCap, .slice (some a) sLen sCap]).run P w = .ok (goInt q) (w.setCells b o cs) := by
  have hl := run_firstCells_some (P := P) w sz q a sLen sCap cs hn hsrc
  have hst := run_storeCells_cells (P := P) b o cs 0 w (by simpa using hc) (by simpa using hf) h1
  cases hi : P.info? elem with
  | none => simp [hi] at hs
  | some i =>
    have hi2 : i.size = sz := by simpa [hi] using hs
    simp [Builtin.copy_, run_underlying hu, Builtin.lenOf, sizeOf, typeInfo, hi, hi2, ← hq, hl, hst]
theorem wpList_copy_at (w : World) {ops : Array Oper} {rest : List Oper} {o : Oper} {a : Act} {Q : Exit → Act → World → Prop} (hgd : o.guard = none) (d s : Operand) (t t' : TypeId)
    (ho : o.op = .call { callee := .builtin .copy, args := #[d, s], argTypes := #[t, t'] }) (v u : Value) (hd : a.eval d = v) (hs : a.eval s = u) {v' : Value} {w' : World}
    (hr : (Builtin.copy_ #[t, t'] o.type #[v, u]).run P w = .ok v' w') (h : wpList P ops Q rest (a.put o.dst v') w') : wpList P ops Q (o :: rest) a w :=
  wpList_plain hgd fun _ hK => by
    unfold Oper.wp execOp
    simp only [ho, resolve, invoke, builtin, Sem.run_bind, Sem.run_pure, Result.andThen_ok, List.map_toArray, List.map_cons, List.map_nil, hd, hs, hr]
    exact hK _ _ h
theorem step_copy_at {ops : Array Oper} {o : Oper} {a : Act} {w : World} {K : Act → World → Prop} {Q : Exit → Act → World → Prop} {E : Prop}
    (hg : o.guard = none) (d x : Operand) (dT sT : TypeId) (hop : o.op = Op.call { callee := Callee.builtin Builtin.copy, args := #[d, x], argTypes := #[dT, sT] })
    (v u : Value) (hd : a.eval d = v) (hx : a.eval x = u) {v' : Value} {w' : World} (hr : (Builtin.copy_ #[dT, sT] o.type #[v, u]).run P w = .ok v' w') (hK : K (a.put o.dst v') w') :
    if Region.wanted o (yielded ops a.tmps) = true then Oper.wp P o a w K Q else E := by
  have hw : Region.wanted o (yielded ops a.tmps) = true := by simp [Region.wanted, hg]
  rw [if_pos hw]
  unfold Oper.wp
  simp [execOp, hop, resolve, invoke, builtin, hd, hx, hr, Result.andThen]
  exact hK
end
theorem infoA : (Try.prog.info? 48).map (fun i => (i.zero, i.size, i.bytes)) = some (some (.agg #[.int .i64 0, .int .i64 0, .int .i64 0, .slice none 0 0]), 4, 48) := by kernel_rfl
theorem add_lit' (b o j : Nat) : (⟨b, o, none⟩ : Addr).add j = ⟨b, o + j, none⟩ := by unfold Addr.add; split <;> simp_all
theorem ins_in (A Z V : List Value) (o : Nat) (ho : o ≤ A.length) (hZ : Z.length = 4) (hV : V.length = 4) (X : List Value) (hX : X = (A ++ Z).take (o + 4) ++ A.drop o ++ (A ++ Z).drop (o + 4 + (A.drop o).length)) :
    X.take o ++ V ++ X.drop (o + V.length) = A.take o ++ V ++ A.drop o := by
  have h1 : (A ++ Z).drop (o + 4 + (A.drop o).length) = [] := List.drop_eq_nil_of_le (by simp; omega)
  have h2 : ((A ++ Z).take (o + 4)).length = o + 4 := by rw [List.length_take, List.length_append]; omega
  rw [h1, List.append_nil] at hX
  have h3 : X.take o = A.take o := by
    rw [hX, List.take_append_of_le_length (by omega), List.take_take, Nat.min_eq_left (by omega), List.take_append_of_le_length ho]
  have h4 : X.drop (o + V.length) = A.drop o := by rw [hX, hV, List.drop_left' h2]
  rw [h3, h4]
theorem ins_new (A Z V : List Value) (o : Nat) (ho : o ≤ A.length) (hZ : Z.length = A.length + 4 - o) (hV : V.length = 4) (X : List Value) (hX : X = (A.take o ++ Z).take o ++ V ++ (A.take o ++ Z).drop (o + V.length)) :
    X.take (o + 4) ++ A.drop o ++ X.drop (o + 4 + (A.drop o).length) = A.take o ++ V ++ A.drop o := by
  have h0 : (A.take o).length = o := by rw [List.length_take]; omega
  have h1 : (A.take o ++ Z).take o = A.take o := List.take_left' h0
  have h2 : X.length = A.length + 4 := by rw [hX]; simp; omega
  rw [h1] at hX
  have h3 : X.drop (o + 4 + (A.drop o).length) = [] := List.drop_eq_nil_of_le (by rw [List.length_drop]; omega)
  have h4 : X.take (o + 4) = A.take o ++ V := by rw [hX]; exact List.take_left' (by rw [List.length_append]; omega)
  rw [h3, h4, List.append_nil]
theorem ans_take (vs : List An) (i : Nat) (hi : i ≤ vs.length) : ans (vs.take i) = (ans vs).take (i * 4) ∧ ans (vs.drop i) = (ans vs).drop (i * 4) := by
  have e1 : ans vs = ans (vs.take i) ++ ans (vs.drop i) := by rw [← ans_append, List.take_append_drop]
  have hl : (ans (vs.take i)).length = i * 4 := by rw [ans_length, List.length_take]; omega
  exact ⟨by rw [e1, List.take_left' hl], by rw [e1, List.drop_left' hl]⟩
theorem ans_put (vs : List An) (s : An) (i : Nat) (hi : i ≤ vs.length) : (ans vs).take (i * 4) ++ s.vals ++ (ans vs).drop (i * 4) = ans (vs.take i ++ s :: vs.drop i) := by
  rw [ans_append, (ans_take vs i hi).1, ← (ans_take vs i hi).2, List.append_assoc]; rfl
section
variable {vs : List An} {w : World} {base n : Nat}
set_option maxHeartbeats 4000000 in
theorem caout_f (g c : Nat) (hrow : w.ownsRow base 48 4 (.slice (some ⟨g, 0, none⟩) n c) n (ans vs)) (h2 : 2 ≤ n) (hn : n ≤ 9) :
    Calls Try.prog 25 #[.slice (some ⟨g, 0, none⟩) n c, .int .i64 0, .int .i64 1] w fun e w' => e = .returned (.slice (some ⟨g, 0, none⟩) (n - 1) c) ∧ w'.ownsRow base 48 4 (.slice (some ⟨g, 0, none⟩) (n - 1) c) (n - 1) (ans (vs.drop 1)) ∧ w.grownBy w' (some g) := by
  obtain ⟨i0, hi0, hz0, hz1, hz2⟩ := info_parts infoA
  have hl := ca_row_len hrow
  have hnc : n ≤ c := by
    obtain ⟨A', c', e1, h, _⟩ := Ah.of_own hrow
    injection e1 with _ _ e3
    omega
  have h1n : (1 : Int) ≤ n := by omega
  have hc1 : ¬ c = 1 := by omega
  have hcm : c ≤ 9223372036854775807 := by
    rcases hrow.2 with ⟨h', _⟩ | ⟨g', cap', cur, h', _, _, _, hcm, _⟩
    · simp at h'
    · simp only [Value.slice.injEq, Option.some.injEq, Addr.mk.injEq, and_true, true_and] at h'
      obtain ⟨rfl, rfl⟩ := h'
      unfold maxLen at hcm; omega
  have hd := (ans_take vs 1 (by omega)).2
  have hal := ans_length vs
  have hdl : ((ans vs).drop 4).length = (n - 1) * 4 := by rw [List.length_drop, hal]; omega
  have s1 := Lib.hid hdl
  have s2 : Hid (∀ t u, ((ans vs).drop 4)[t]? = some u → w.drew.cell? ((⟨g, 4, none⟩ : Addr).add t) = some u) := fun t u hu => by
    have htl := (List.getElem?_eq_some_iff.1 hu).1
    rw [hdl] at htl
    rw [add_lit']
    rw [List.getElem?_drop] at hu
    exact (hrow.cellAt (4 + t) (by omega)).trans hu
  have s3 : Hid (∀ u ∈ (ans vs).drop 4, u.oneCell' = true) := fun u hu => ans_one vs u (List.mem_of_mem_drop hu)
  have s4 : Hid (∀ t, t < ((ans vs).drop 4).length → (w.drew.cell? ⟨g, 0 + 0 * 4 + t, none⟩).isSome = true ∧ w.drew.frozen? ⟨g, 0 + 0 * 4 + t, none⟩ = false) := fun t ht => by
    rw [hdl] at ht
    rw [show 0 + 0 * 4 + t = t by omega]
    refine ⟨?_, hrow.frozenAt t⟩
    show (w.cell? _).isSome = true
    rw [hrow.cellAt t (by omega), List.getElem?_eq_getElem (by rw [hal]; omega)]; rfl
  obtain ⟨p1, p2⟩ := own_puts ((ans vs).drop 4) w.drew (ans vs) 0 hrow (by rw [List.length_drop]; omega)
  rw [List.take_zero, List.nil_append, Nat.zero_add] at p1
  obtain ⟨W1, hW1⟩ : ∃ W1, W1 = w.drew.setCells g (0 + 0 * 4) ((ans vs).drop 4) := ⟨_, rfl⟩
  rw [show (0 : Nat) = 0 + 0 * 4 by omega] at p1 p2
  rw [← hW1] at p1 p2
  rw [show (0 : Nat) + 0 * 4 = 0 by omega] at p1
  have hW := Lib.hid hW1
  have hth : W1.there g ((n - 1) * 4) (1 * 4) := fun j hj => by
    refine ⟨?_, p1.frozenAt _⟩
    rw [p1.cellAt ((n - 1) * 4 + j) (by omega), List.getElem?_eq_getElem (by rw [p1.1]; omega)]; rfl
  have h11 : n - (n - 1) = 1 := by omega
  have hclr : ∀ ty, ∃ us, (Builtin.clear_ #[42] ty #[.slice (some ⟨g, (n - 1) * 4, none⟩) (n - (n - 1)) (c - (n - 1))]).run Try.prog W1 = .ok (.tuple #[]) (W1.setCells g ((n - 1) * 4) us) := fun ty =>
    ca_run_clear_two (P := Try.prog) W1 42 48 ty _ _ _ _ Try.underlying42 zero_an rfl rfl rfl rfl g ((n - 1) * 4) (n - (n - 1)) (c - (n - 1)) (by omega) (by rw [h11]; exact hth)
  have HC := Lib.hid hclr
  have hfin : ∀ us, (W1.setCells g ((n - 1) * 4) us).ownsRow base 48 4 (.slice (some ⟨g, 0, none⟩) (n - 1) c) (n - 1) (ans (vs.drop 1)) ∧ w.grownBy (W1.setCells g ((n - 1) * 4) us) (some g) := fun us => by
    have hc1 := p1
    rcases p1.2 with ⟨h', _⟩ | ⟨g', cap', cur, h', hb, hg, _, hcm', hcs, htake⟩
    · simp at h'
    · simp only [Value.slice.injEq, Option.some.injEq, Addr.mk.injEq, and_true, true_and] at h'
      obtain ⟨rfl, rfl⟩ := h'
      have hcut : W1.ownsRow base 48 4 (.slice (some ⟨g, 0, none⟩) (n - 1) c) (n - 1) (ans (vs.drop 1)) := by
        refine ⟨by rw [ans_length, List.length_drop]; omega, .inr ⟨g, c, cur, rfl, hb, hg, by omega, hcm', hcs, ?_⟩⟩
        have e4 : cur.toList.take ((n - 1) * 4) = (cur.toList.take (n * 4)).take ((n - 1) * 4) := by rw [List.take_take, Nat.min_eq_left (by omega)]
        rw [e4, htake, hd, List.take_left' (by rw [List.length_drop, hal]; omega)]
      exact ⟨ca_row_setCells hcut us _ (Nat.le_refl _), ca_grownBy_trans (⟨p2.os, p2.tape, p2.output, p2.size, p2.block⟩) (ca_setCells_grown W1 g us _)⟩
  have HF := Lib.hid hfin
  clear hfin hclr hth h11 p1 p2 hW1 hd hal hdl hrow hl
  go_enter Try.func25, Try.ntmps25
  go_wp2_with fail
  go_region_law (refine step_append_room rfl (.tmp 22) (.tmp 25) 42 rfl 48 i0 4 Try.underlying42 hi0 hz1 g 0 0 c (by simp [Act.eval, Act.put]) ⟨g, 4, none⟩ (n - 1) (c - 1) ((ans vs).drop 4) (by simp [Act.eval, Act.put]) s1.out s2.out s3.out (by omega) s4.out ?_; rw [← hW.out])
  have hc2 : ¬ c = n - 1 := by omega
  have hI1 : ((n - 1 : Nat) : Int) ≤ n := by omega
  have hI2 : (n : Int) ≤ c := by omega
  go_wp2_with (refine ca_wpList_clear_run _ rfl (.tmp 31) 42 rfl g ((n - 1) * 4) (n - (n - 1)) (c - (n - 1)) rfl HC.out ?_
               intro us
               have HU := Lib.hid (HF.out us))
  go_ret
  exact ⟨rfl, HU.out⟩
end
end Go.Proofs.Ytdlgemlpbpbhcaa
