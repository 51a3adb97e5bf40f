/-
  Answers of a row: one put between the others (slices.Insert).
-/
import Derived.Test.YtdlgemlpbpbhcaaCaIns
namespace Go.Proofs.Ytdlgemlpbpbhcaa
open Go.RowKit
set_option linter.unusedVariables false
theorem lit_cells {w : World} {vb : Nat} {s : An} (hvb : w.heap[vb]? = some (.cells #[.int .i64 s.f, .int .i64 s.i, .int .i64 s.t, .slice s.A s.n s.c] 48)) :
    ∀ j u, s.vals[j]? = some u → w.cell? ((⟨vb, 0, none⟩ : Addr).add j) = some u := by
  intro j u hu
  rw [add_lit', cell_of_row _ _ _ _ _ _ hvb, Nat.zero_add, ← Array.getElem?_toList]
  exact hu
theorem vals_one (s : An) : ∀ u ∈ s.vals, u.oneCell' = true := by
  intro v hv
  simp only [An.vals, List.mem_cons, List.not_mem_nil, or_false] at hv
  rcases hv with rfl | rfl | rfl | rfl <;> rfl
section
variable {vs : List An} {w : World} {base n : Nat}
def InsPost (w : World) (base n : Nat) (vs : List An) (v : Value) (i : Nat) (s : An) (e : Ending) (w' : World) : Prop :=
  ∃ v', e = .returned v' ∧ w'.ownsRow base 48 4 v' (n + 1) (ans (vs.take i ++ s :: vs.drop i)) ∧ w.grownBy w' v.ownBlock
set_option maxHeartbeats 4000000 in
theorem cains_end (v : Value) (hrow : w.ownsRow base 48 4 v n (ans vs)) (hn : n ≤ 8) (hbase : base ≤ w.heap.size) (vb : Nat) (s : An) (hvb : w.heap[vb]? = some (.cells #[.int .i64 s.f, .int .i64 s.i, .int .i64 s.t, .slice s.A s.n s.c] 48)) :
    Calls Try.prog 23 #[v, .int .i64 n, .slice (some ⟨vb, 0, none⟩) 1 1] w (InsPost w base n vs v n s) := by
  obtain ⟨i0, hi0, hz0, hz1, hz2⟩ := info_parts infoA
  have hl := ca_row_len hrow
  have hfin : vs.take n ++ s :: vs.drop n = vs ++ [s] := by rw [List.take_of_length_le (by omega), List.drop_eq_nil_of_le (by omega)]
  have hX := lit_cells hvb
  have HX := Lib.hid hX
  have HF := Lib.hid hfin
  have HO := Lib.hid (vals_one s)
  have hcm : (n : Int) ≤ 8 := by omega
  have HR := Lib.hid hrow
  obtain ⟨A, c, rfl, hc, _⟩ := Ah.of_own hrow
  have hcI : (n : Int) ≤ c := by omega
  clear hX hfin hrow hvb hl
  rcases (by omega : n = c ∨ ¬ c = n) with hcn | hcn
  · subst hcn
    go_enter Try.func23, Try.ntmps23
    go_wp2_with (at_builtin; refine wpList_append_own _ rfl (.tmp 23) (.tmp 24) 42 rfl base 48 i0 _ 4 48 Try.underlying42 hi0 hz0 hz1 hz2 rfl (by omega) _ n (ans vs) rfl HR.out ⟨vb, 0, none⟩ 1 1 s.vals rfl rfl HX.out HO.out (by simp only [maxLen]; omega) (by omega) hbase ?_; intro v' w1 hown1 hgrow1 _; have H1 := Lib.hid (And.intro hown1 hgrow1); clear hown1 hgrow1)
    go_ret
    refine ⟨_, rfl, ?_, H1.out.2⟩
    rw [HF.out, ans_append]
    exact H1.out.1
  · go_enter Try.func23, Try.ntmps23
    go_wp2_with (at_builtin; refine wpList_append_own _ rfl (.tmp 23) (.tmp 24) 42 rfl base 48 i0 _ 4 48 Try.underlying42 hi0 hz0 hz1 hz2 rfl (by omega) _ n (ans vs) rfl HR.out ⟨vb, 0, none⟩ 1 1 s.vals rfl rfl HX.out HO.out (by simp only [maxLen]; omega) (by omega) hbase ?_; intro v' w1 hown1 hgrow1 _; have H1 := Lib.hid (And.intro hown1 hgrow1); clear hown1 hgrow1)
    go_ret
    refine ⟨_, rfl, ?_, H1.out.2⟩
    rw [HF.out, ans_append]
    exact H1.out.1
theorem overlaps_no (w : World) (vb g la ca lb cb o : Nat) (hne : vb ≠ g) (cs cur : Array Value) (t1 t2 : TypeId) (h1 : w.heap[vb]? = some (.cells cs t1 (0, 0))) (h2 : w.heap[g]? = some (.cells cur t2 (0, 0))) (hk : cur.size ≠ 0) :
    (callFunc 29 #[.slice (some ⟨vb, 0, none⟩) la ca, .slice (some ⟨g, o, none⟩) lb cb]).run Try.prog w = .ok (.value (.bool false)) w := by
  rw [run_callFunc_extern Try.func29 (by kernel_rfl) (by kernel_rfl) (by kernel_rfl) (e := Extern.SlicesOverlaps.overlaps #[42, 42] #[4]) (by kernel_rfl),
    Lib.run_overlaps_apart w 42 4 48 Try.underlying42 4 (fun _ => by kernel_rfl) ⟨vb, 0, none⟩ ⟨g, o, none⟩ la ca lb cb hne t1 t2 cs.size cur.size (by unfold World.shape?; rw [h1]) (by unfold World.shape?; rw [h2]) hk (by simp [World.frozen?, h1]) (by simp [World.frozen?, h1])]
  rfl
set_option maxHeartbeats 4000000 in
theorem cains_room (g c i : Nat) (hrow : w.ownsRow base 48 4 (.slice (some ⟨g, 0, none⟩) n c) n (ans vs)) (hi : i < n) (hn : n ≤ 8) (hroom : n + 1 ≤ c) (vb : Nat) (s : An) (hvb : w.heap[vb]? = some (.cells #[.int .i64 s.f, .int .i64 s.i, .int .i64 s.t, .slice s.A s.n s.c] 48)) (hne : vb ≠ g) :
    Calls Try.prog 23 #[.slice (some ⟨g, 0, none⟩) n c, .int .i64 i, .slice (some ⟨vb, 0, none⟩) 1 1] w (InsPost w base n vs (.slice (some ⟨g, 0, none⟩) n c) i s) := by
  obtain ⟨i0, hi0, hz0, hz1, hz2⟩ := info_parts infoA
  have hl := ca_row_len hrow
  have hal := ans_length vs
  obtain ⟨zs, hzs, hw⟩ := own_wide hrow (N := n + 1) (by omega) hroom
  rw [show n + 1 - n = 1 by omega] at hzs
  have hsz : (Try.prog.info? 48).map (·.size) = some 4 := size_an
  have hdl : ((ans vs).drop (i * 4)).length = (n - i) * 4 := by rw [List.length_drop, hal]; omega
  have hfacts : ∀ j, j < (n + 1) * 4 → (w.cell? ⟨g, j, none⟩).isSome = true := fun j hj => by
    rw [hw.cellAt j hj, List.getElem?_eq_getElem (by rw [hw.1]; omega)]; rfl
  have hr1 : ∀ ty, (Builtin.copy_ #[42, 42] ty #[.slice (some ⟨g, (i + 1) * 4, none⟩) (n + 1 - (i + 1)) (c - (i + 1)), .slice (some ⟨g, i * 4, none⟩) (n + 1 - i) (c - i)]).run Try.prog w.drew = .ok (goInt (n - i : Nat)) (w.drew.setCells g ((i + 1) * 4) ((ans vs).drop (i * 4))) := fun ty =>
    run_copy_sz w.drew _ _ ty 48 4 g ((i + 1) * 4) (n + 1 - (i + 1)) _ ⟨g, i * 4, none⟩ (n + 1 - i) _ _ (n - i) Try.underlying42 hsz (by simp only [Nat.min_def]; split <;> omega) hdl
      (fun j v hj => by
        have hjl := (List.getElem?_eq_some_iff.1 hj).1
        rw [hdl] at hjl
        rw [List.getElem?_drop] at hj
        rw [add_lit']
        exact (hrow.cellAt (i * 4 + j) (by omega)).trans hj)
      (fun j hj => by rw [hdl] at hj; exact hfacts _ (by omega)) (fun j _ => hrow.frozenAt _) (fun v hv => ans_one vs v (List.mem_of_mem_drop hv))
  obtain ⟨p1, q1⟩ := own_puts ((ans vs).drop (i * 4)) w.drew (ans vs ++ zs) ((i + 1) * 4) hw (by rw [hdl, List.length_append, hal, hzs]; omega)
  obtain ⟨W1, hW1⟩ : ∃ W1, W1 = w.drew.setCells g ((i + 1) * 4) ((ans vs).drop (i * 4)) := ⟨_, rfl⟩
  rw [← hW1] at hr1 p1 q1
  have hvb1 : W1.heap[vb]? = some (.cells #[.int .i64 s.f, .int .i64 s.i, .int .i64 s.t, .slice s.A s.n s.c] 48) :=
    (q1.block vb (Array.getElem?_eq_some_iff.1 hvb).1 (by simpa using hne)).trans hvb
  have hr2 : ∀ ty, (Builtin.copy_ #[42, 42] ty #[.slice (some ⟨g, i * 4, none⟩) (n + 1 - i) (c - i), .slice (some ⟨vb, 0, none⟩) 1 1]).run Try.prog W1 = .ok (goInt (1 : Nat)) (W1.setCells g (i * 4) s.vals) := fun ty =>
    run_copy_sz W1 _ _ ty 48 4 g (i * 4) (n + 1 - i) _ ⟨vb, 0, none⟩ 1 _ s.vals 1 Try.underlying42 hsz (by simp only [Nat.min_def]; split <;> omega) rfl
      (lit_cells hvb1) (fun j hj => by
        have hj : j < 4 := hj
        rw [p1.cellAt _ (by omega), List.getElem?_eq_getElem (by rw [p1.1]; omega)]; rfl) (fun j _ => p1.frozenAt _) (vals_one s)
  obtain ⟨p2, q2⟩ := own_puts s.vals W1 _ (i * 4) p1 (by rw [p1.1]; show i * 4 + 4 ≤ _; omega)
  rw [ins_in (ans vs) zs s.vals (i * 4) (by rw [hal]; omega) (by omega) rfl _ (by rw [show (i + 1) * 4 = i * 4 + 4 by omega]), ans_put vs s i (by omega)] at p2
  obtain ⟨W2, hW2⟩ : ∃ W2, W2 = W1.setCells g (i * 4) s.vals := ⟨_, rfl⟩
  rw [← hW2] at hr2 p2 q2
  have hov : ∀ lb cb, (callFunc 29 #[.slice (some ⟨vb, 0, none⟩) 1 1, .slice (some ⟨g, (i + 1) * 4, none⟩) lb cb]).run Try.prog w = .ok (.value (.bool false)) w := fun lb cb => by
    rcases hrow.2 with ⟨h', _⟩ | ⟨g', cap', cur, h', hb, hg, hnc, hcm, hcs, htake⟩
    · simp at h'
    · simp only [Value.slice.injEq, Option.some.injEq, Addr.mk.injEq, and_true, true_and] at h'
      obtain ⟨rfl, rfl⟩ := h'
      exact overlaps_no w vb g 1 1 lb cb _ hne _ cur _ _ hvb hg (by omega)
  have hcm : c ≤ 9223372036854775807 := by
    rcases hrow.2 with ⟨h', _⟩ | ⟨g', cap', cur, h', _, _, _, hcm, _⟩
    · simp at h'
    · simp only [Value.slice.injEq, Option.some.injEq, Addr.mk.injEq, and_true, true_and] at h'
      obtain ⟨rfl, rfl⟩ := h'
      unfold maxLen at hcm; omega
  have HF := Lib.hid (And.intro p2 (ca_grownBy_trans (⟨q1.os, q1.tape, q1.output, q1.size, q1.block⟩ : w.grownBy W1 (some g)) q2))
  have HR1 := Lib.hid hr1
  have HR2 := Lib.hid hr2
  have hI1 : (i : Int) < n := by omega
  have hI2 : (n : Int) + 1 ≤ c := by omega
  have hI3 : (n : Int) ≤ 8 := by omega
  have hI4 : ¬ (i : Int) = n := by omega
  have hc1 : ¬ c = i := by omega
  have hc2 : ¬ c = i + 1 := by omega
  have hw1 : IntKind.i64.wrap ((i : Int) + 1) = (i : Int) + 1 := by rw [IntKind.wrap_i64]; omega
  have hb1 : (0 : Int) ≤ (i : Int) + 1 := by omega
  have hin : (i : Int) ≤ n := by omega
  have hin2 : i ≤ n := by omega
  have htn : ((i : Int) + 1).toNat = i + 1 := by omega
  have hb3 : (i : Int) ≤ (n : Int) + 1 := by omega
  clear hr1 hr2 p1 p2 q1 q2 hvb1 hvb hfacts hdl hw hzs hal hl hrow hsz hW1 hW2
  go_enter Try.func23, Try.ntmps23
  go_wp2_with (simp only [hov])
  go_region_law (refine step_copy_at rfl (.tmp 73) (.tmp 76) 42 42 rfl (.slice (some ⟨g, (i + 1) * 4, none⟩) (n + 1 - (i + 1)) (c - (i + 1))) (.slice (some ⟨g, i * 4, none⟩) (n + 1 - i) (c - i)) (by simp [Act.eval, Act.put]) (by simp [Act.eval, Act.put]) (HR1.out 3) ?_)
  go_wp2_with (refine wpList_copy_at _ rfl (.tmp 80) (.tmp 81) 42 42 rfl _ _ rfl rfl (HR2.out _) ?_)
  go_ret
  exact ⟨_, rfl, HF.out⟩
set_option maxHeartbeats 4000000 in
theorem cains_grow (g c i : Nat) (hrow : w.ownsRow base 48 4 (.slice (some ⟨g, 0, none⟩) n c) n (ans vs)) (hi : i < n) (hn : n ≤ 8) (hroom : c < n + 1) (hbase : base ≤ w.heap.size) (vb : Nat) (s : An) (hvb : w.heap[vb]? = some (.cells #[.int .i64 s.f, .int .i64 s.i, .int .i64 s.t, .slice s.A s.n s.c] 48)) :
    Calls Try.prog 23 #[.slice (some ⟨g, 0, none⟩) n c, .int .i64 i, .slice (some ⟨vb, 0, none⟩) 1 1] w (InsPost w base n vs (.slice (some ⟨g, 0, none⟩) n c) i s) := by
  obtain ⟨i0, hi0, hz0, hz1, hz2⟩ := info_parts infoA
  have hl := ca_row_len hrow
  have hal := ans_length vs
  have hnc : n ≤ c := by
    obtain ⟨A', c', e1, h, _⟩ := Ah.of_own hrow
    injection e1 with _ _ e3
    omega
  obtain rfl : c = n := by omega
  have hsz : (Try.prog.info? 48).map (·.size) = some 4 := size_an
  have hdl : ((ans vs).drop (i * 4)).length = (c - i) * 4 := by rw [List.length_drop, hal]; omega
  have htl : ((ans vs).take (i * 4)).length = i * 4 := by rw [List.length_take, hal]; omega
  have hold : (Builtin.firstCells i0.size i (.slice (some ⟨g, 0, none⟩) i c)).run Try.prog w.drew = .ok ((ans vs).take (i * 4)).toArray w.drew := by
    rw [hz1]
    exact run_firstCells_some w.drew 4 i ⟨g, 0, none⟩ i c _ htl (fun j v hj => by
      have hjl := (List.getElem?_eq_some_iff.1 hj).1
      rw [htl] at hjl
      rw [List.getElem?_take_of_lt hjl] at hj
      rw [add_lit', Nat.zero_add]
      exact (hrow.cellAt j (by omega)).trans hj)
  obtain ⟨z, hz⟩ : ∃ z : Value, z = .agg #[.int .i64 0, .int .i64 0, .int .i64 0, .slice none 0 0] := ⟨_, rfl⟩
  have hzc : z.cells.size = 4 := by rw [hz]; rfl
  rw [← hz] at hz0
  have hgr := Lib.run_append_grow_zeros (P := Try.prog) w 42 3
  have hr1 := fun ty => hgr ty 48 i0 z .i64 .i64 Try.underlying42 Try.underlying3 hi0 hz0 (some ⟨g, 0, none⟩) i c ((ans vs).take (i * 4)) hold (c + 1 - i) (by omega) (by omega) (by omega) (by omega) (by rw [hz2]; omega) (by rw [hz2]; exact growslice_fits (by omega) (by omega))
  clear hgr
  have hk1 : i + (c + 1 - i) = c + 1 := by omega
  rw [hk1] at hr1
  have hG1 := grownCap_ge w (c + 1) c 48
  have hG2 := grownCap_le_maxLen w (c + 1) c 48 (by unfold maxLen; omega)
  generalize grownCap w (c + 1) c 48 = G at *
  have hRs : (((ans vs).take (i * 4)).toArray ++ Builtin.zeroCells z.cells (c + 1 - i) ++ Builtin.zeroCells z.cells (G - (c + 1))).size = G * 4 := by
    rw [Array.size_append, Array.size_append, size_zeroCells, size_zeroCells, hzc, List.size_toArray, htl]; omega
  have hRt : (((ans vs).take (i * 4)).toArray ++ Builtin.zeroCells z.cells (c + 1 - i) ++ Builtin.zeroCells z.cells (G - (c + 1))).toList.take ((c + 1) * 4) = (ans vs).take (i * 4) ++ (Builtin.zeroCells z.cells (c + 1 - i)).toList := by
    rw [Array.toList_append, Array.toList_append]
    exact List.take_left' (by rw [List.length_append, htl, Array.length_toList, size_zeroCells, hzc]; omega)
  have hZl : (Builtin.zeroCells z.cells (c + 1 - i)).toList.length = (ans vs).length + 4 - i * 4 := by rw [Array.length_toList, size_zeroCells, hzc, hal]; omega
  generalize (Builtin.zeroCells z.cells (c + 1 - i)).toList = Z at *
  generalize ((ans vs).take (i * 4)).toArray ++ Builtin.zeroCells z.cells (c + 1 - i) ++ Builtin.zeroCells z.cells (G - (c + 1)) = ROW at *
  obtain ⟨W1, hW1⟩ : ∃ W1, W1 = w.drew.alloc (.cells ROW 48) := ⟨_, rfl⟩
  have p1 : W1.ownsRow base 48 4 (.slice (some ⟨w.heap.size, 0, none⟩) (c + 1) G) (c + 1) ((ans vs).take (i * 4) ++ Z) := by
    rw [hW1]
    exact ⟨by rw [List.length_append, htl, hZl, hal]; omega, .inr ⟨_, G, ROW, rfl, hbase, heap_alloc_new w.drew _, hG1, hG2, hRs, hRt⟩⟩
  have b1 : Below w.heap.size w W1 := by rw [hW1]; exact (Below.drew (Below.refl _ w)).alloc (Nat.le_refl _) _
  rw [← hW1] at hr1
  have hrow1 := row_below4 hrow b1
  have hvl := (Array.getElem?_eq_some_iff.1 hvb).1
  have hvb1 : W1.heap[vb]? = some (.cells #[.int .i64 s.f, .int .i64 s.i, .int .i64 s.t, .slice s.A s.n s.c] 48) := (b1.block vb hvl).trans hvb
  have hr2 : ∀ ty k, (Builtin.copy_ #[42, 42] ty #[.slice (some ⟨w.heap.size, i * 4, none⟩) (c + 1 - i) k, .slice (some ⟨vb, 0, none⟩) 1 1]).run Try.prog W1 = .ok (goInt (1 : Nat)) (W1.setCells w.heap.size (i * 4) s.vals) := fun ty k =>
    run_copy_sz W1 _ _ ty 48 4 w.heap.size (i * 4) (c + 1 - i) _ ⟨vb, 0, none⟩ 1 _ s.vals 1 Try.underlying42 hsz (by simp only [Nat.min_def]; split <;> omega) rfl
      (lit_cells hvb1) (fun j hj => by
        have hj : j < 4 := hj
        rw [p1.cellAt _ (by omega), List.getElem?_eq_getElem (by rw [p1.1]; omega)]; rfl) (fun j _ => p1.frozenAt _) (vals_one s)
  obtain ⟨p2, q2⟩ := own_puts s.vals W1 _ (i * 4) p1 (by rw [p1.1]; show i * 4 + 4 ≤ _; omega)
  obtain ⟨W2, hW2⟩ : ∃ W2, W2 = W1.setCells w.heap.size (i * 4) s.vals := ⟨_, rfl⟩
  rw [← hW2] at hr2 p2 q2
  have hgl : g < w.heap.size := (hrow.lt g rfl).2
  have hrow2 : W2.ownsRow base 48 4 (.slice (some ⟨g, 0, none⟩) c c) c (ans vs) := hrow1.kept q2 (.inr (by simp [Value.ownBlock]; omega))
  have hr3 : ∀ ty k m, (Builtin.copy_ #[42, 42] ty #[.slice (some ⟨w.heap.size, (i + 1) * 4, none⟩) (c + 1 - (i + 1)) k, .slice (some ⟨g, i * 4, none⟩) (c - i) m]).run Try.prog W2.drew = .ok (goInt (c - i : Nat)) (W2.drew.setCells w.heap.size ((i + 1) * 4) ((ans vs).drop (i * 4))) := fun ty k m =>
    run_copy_sz W2.drew _ _ ty 48 4 w.heap.size ((i + 1) * 4) (c + 1 - (i + 1)) _ ⟨g, i * 4, none⟩ (c - i) _ _ (c - i) Try.underlying42 hsz (by simp only [Nat.min_def]; split <;> omega) hdl
      (fun j v hj => by
        have hjl := (List.getElem?_eq_some_iff.1 hj).1
        rw [hdl] at hjl
        rw [List.getElem?_drop] at hj
        rw [add_lit']
        exact (hrow2.cellAt (i * 4 + j) (by omega)).trans hj)
      (fun j hj => by
        rw [hdl] at hj
        show (W2.cell? _).isSome = true
        rw [p2.cellAt _ (by omega), List.getElem?_eq_getElem (by rw [p2.1]; omega)]; rfl) (fun j _ => p2.frozenAt _) (fun v hv => ans_one vs v (List.mem_of_mem_drop hv))
  obtain ⟨p3, q3⟩ := own_puts ((ans vs).drop (i * 4)) W2.drew _ ((i + 1) * 4) p2 (by rw [hdl]; have := p2.1; rw [this]; omega)
  obtain ⟨W3, hW3⟩ : ∃ W3, W3 = W2.drew.setCells w.heap.size ((i + 1) * 4) ((ans vs).drop (i * 4)) := ⟨_, rfl⟩
  rw [← hW3] at hr3 p3 q3
  rw [show (i + 1) * 4 = i * 4 + 4 by omega, ins_new (ans vs) Z s.vals (i * 4) (by rw [hal]; omega) hZl rfl _ rfl, ans_put vs s i (by omega)] at p3
  have hgw : w.grownBy W3 (some g) := by
    refine ⟨q3.os.trans (q2.os.trans b1.os), q3.tape.trans (q2.tape.trans b1.tape), q3.output.trans (q2.output.trans b1.output), Nat.le_trans b1.size (Nat.le_trans q2.size q3.size), fun k hk _ => ?_⟩
    have hk1 : k < W1.heap.size := Nat.lt_of_lt_of_le hk b1.size
    exact ((q3.block k (Nat.lt_of_lt_of_le hk1 q2.size) (by simp; omega)).trans (q2.block k hk1 (by simp; omega))).trans (b1.block k hk)
  have HF := Lib.hid (And.intro p3 hgw)
  have hkk : ((c + 1 - i : Nat) : Int) = (c : Int) + 1 - (i : Int) := by omega
  rw [hkk] at hr1
  have HR1 := Lib.hid hr1
  have HR2 := Lib.hid hr2
  have HR3 := Lib.hid hr3
  have hcm : c ≤ 9223372036854775807 := by omega
  have hG63 : G ≤ 9223372036854775807 := by unfold maxLen at hG2; omega
  have hI1 : (i : Int) < c := by omega
  have hI3 : (c : Int) ≤ 8 := by omega
  have hI4 : ¬ (i : Int) = c := by omega
  have hc1 : ¬ c = i := by omega
  have hg1 : ¬ G = i := by omega
  have hg2 : ¬ G = i + 1 := by omega
  have hw1 : IntKind.i64.wrap ((i : Int) + 1) = (i : Int) + 1 := by rw [IntKind.wrap_i64]; omega
  have hb1 : (0 : Int) ≤ (i : Int) + 1 := by omega
  have hin : (i : Int) ≤ c := by omega
  have hin2 : i ≤ c := by omega
  have htn : ((i : Int) + 1).toNat = i + 1 := by omega
  have hb3 : (i : Int) ≤ (c : Int) + 1 := by omega
  clear hr1 hr2 hr3 p1 p2 p3 q2 q3 hvb1 hvb hdl hal hl hrow hsz hW1 hW2 hW3 hgw hrow1 hrow2 hZl hRs hRt hold htl hzc hz hz0 hk1 hkk hvl b1 hG2
  go_enter Try.func23, Try.ntmps23
  go_wp2_with (first
    | (at_builtin; refine Lib.wpList_append_run _ rfl (.tmp 34) (.tmp 39) 42 3 rfl _ _ rfl rfl _ _ (HR1.out _) ?_)
    | (refine wpList_copy_at _ rfl (.tmp 43) (.tmp 44) 42 42 rfl _ _ rfl rfl (HR2.out _ _) ?_))
  go_region_law (refine step_copy_at rfl (.tmp 50) (.tmp 53) 42 42 rfl (.slice (some ⟨w.heap.size, (i + 1) * 4, none⟩) (c + 1 - (i + 1)) (G - (i + 1))) (.slice (some ⟨g, i * 4, none⟩) (c - i) (c - i)) (by simp [Act.eval, Act.put]) (by simp [Act.eval, Act.put]) (HR3.out 3 (G - (i + 1)) (c - i)) ?_)
  go_wp2
  go_ret
  exact ⟨_, rfl, HF.out⟩
theorem cains_f (v : Value) (i : Nat) (hrow : w.ownsRow base 48 4 v n (ans vs)) (hi : i ≤ n) (hn : n ≤ 8) (hbase : base ≤ w.heap.size) (vb : Nat) (s : An) (hvb : w.heap[vb]? = some (.cells #[.int .i64 s.f, .int .i64 s.i, .int .i64 s.t, .slice s.A s.n s.c] 48)) (hne : v.ownBlock ≠ some vb) :
    Calls Try.prog 23 #[v, .int .i64 i, .slice (some ⟨vb, 0, none⟩) 1 1] w (InsPost w base n vs v i s) := by
  by_cases hin : i = n
  · subst hin
    exact cains_end v hrow hn hbase vb s hvb
  · rcases hrow.2 with ⟨h', hn0⟩ | ⟨g, c, cur, rfl, h3⟩
    · omega
    · by_cases hr : n + 1 ≤ c
      · exact cains_room g c i hrow (by omega) hn hr vb s hvb (fun e => hne (by rw [e]; rfl))
      · exact cains_grow g c i hrow (by omega) hn (by omega) hbase vb s hvb
end
end Go.Proofs.Ytdlgemlpbpbhcaa
