/-
  The document's table of exchanges: one is stopped.
-/
import Derived.Test.YtkhikpbchimodaaExRef
namespace Go.Proofs.Ytkhikpbchimodaa
open Go.RowKit
set_option maxRecDepth 100000
set_option maxRecDepth 100000
set_option linter.unusedVariables false
theorem results_cell_tmp_mid {P : Program} {fn : Func} {p u : Tmp} {ty : TypeId} (h : fn.results = #[.cell p ty, .tmp u]) (tmps : Array Value) (w : World) (b o : Nat) (cs : List Value) (d : TypeDesc)
    (hp : tmps.getD p undef = .pointer (some ⟨b, o, none⟩)) (hc : w.rangeAt b o cs) (hu : P.underlying ty = some d) (hd : d.isRow = true) (hi : (P.info? ty).map (·.size) = some cs.length) :
    (results fn tmps).run P w = .ok (.tuple #[.agg cs.toArray, tmps.getD u undef]) w := by
  rw [results_cell_tmp h, hp]
  simp only [asAddr, Sem.run_pure, Result.andThen_ok, run_loadVar_mid w b o ty cs d hc hu hd hi]
theorem keepX_step {rs : List Xr} {k : Nat} {s : Xr} {p : Xr → Bool} (hs : rs[k]? = some s) : (rs.take (k + 1)).filter p = (rs.take k).filter p ++ (if p s = true then [s] else []) := by
  rw [List.take_add_one, hs, List.filter_append]
  congr 1
  cases hp : p s <;> simp [List.filter, hp]
theorem stop_map (rs : List Xr) (t i : Int) : (rs.filter fun s => !hitX t i s.q).map Xr.q = stopQ (rs.map Xr.q) t i := by
  unfold stopQ
  induction rs with
  | nil => rfl
  | cons a rs ih =>
    cases hp : hitX t i a.q with
    | true => rw [List.filter_cons_of_neg (by rw [hp]; decide), List.map_cons, List.filter_cons_of_neg (by rw [hp]; decide), ih]
    | false => rw [List.filter_cons_of_pos (by rw [hp]; rfl), List.map_cons, List.map_cons, List.filter_cons_of_pos (by rw [hp]; rfl), ih]
theorem stop_less (qs : List Xq) (t i : Int) : decide ((stopQ qs t i).length < qs.length) = qs.any (hitX t i) := by
  unfold stopQ
  induction qs with
  | nil => rfl
  | cons a qs ih =>
    have hle := List.length_filter_le (fun q => !hitX t i q) qs
    cases hp : hitX t i a with
    | true =>
      rw [List.filter_cons_of_neg (by rw [hp]; decide), List.any_cons, hp, Bool.true_or, List.length_cons]
      exact decide_eq_true (by omega)
    | false =>
      rw [List.filter_cons_of_pos (by rw [hp]; rfl), List.any_cons, hp, Bool.false_or, ← ih, List.length_cons, List.length_cons]
      exact decide_eq_decide.2 (by omega)
def RStopPost (w : World) (B : Nat) (now : Int) (qs : List Xq) (t i : Int) (e : Ending) (w' : World) : Prop :=
  ∃ A c rs', e = .returned (.tuple #[.agg #[.slice A (List.length rs') c, .int .i64 now], .bool (qs.any (hitX t i))]) ∧ Below w.heap.size w w' ∧ RtAt w' B (.slice A (List.length rs') c) rs' ∧ rs'.map Xr.q = stopQ qs t i
set_option maxHeartbeats 8000000 in
theorem rstop_f (A : Option Addr) (n c : Nat) (rs : List Xr) (now : Int) (w : World) (B : Nat) (h : RtAt w B (.slice A n c) rs) (hB : B ≤ w.heap.size) (t i : Int) : Calls Try.prog 13 #[.agg #[.slice A n c, .int .i64 now], .int .i64 t, .int .i64 i] w (RStopPost w B now (rs.map Xr.q) t i) := by
  obtain ⟨i0, hi0, hz0, hz1, hz2⟩ := info_parts info_on
  have hfew := h.few
  obtain ⟨A', c', hv, hnc, hcm, hah⟩ := h.open_
  injection hv with e1 e2 e3
  subst e1 e2 e3
  have hl := hah.len
  obtain ⟨n, hn⟩ : ∃ n, rs.length = n := ⟨_, rfl⟩
  have HH := Lib.hid (And.intro h (And.intro hah hn))
  rw [hn] at hnc hfew hah
  rw [hn]
  have hnI : (n : Int) ≤ 4 := by omega
  have hncI : (n : Int) ≤ c := by omega
  have hcm' : (c : Int) ≤ 9223372036854775807 := by unfold maxLen at hcm; omega
  obtain ⟨R, hR⟩ : ∃ R, (rs.map Xr.q).any (hitX t i) = R := ⟨_, rfl⟩
  have HR := Lib.hid hR
  clear h hn hR hl
  go_enter Try.func13, Try.ntmps13
  go_upto_region 1 with fail
  refine wp_at_world (F := fun W => Below w.heap.size w W ∧ W.heap[w.heap.size]? = some (.cells #[.slice A n c, .int .i64 now] 29) ∧ W.heap[w.heap.size + 1]? = some (.cells #[.slice none 0 0, .int .i64 0] 29)) ⟨((Below.refl _ _).alloc (Nat.le_refl _) _).alloc (by rw [alloc_size]; omega) _, heap_alloc2_old w _ _, heap_alloc2_new w _ _⟩ fun w1 ⟨b1, x0, x1⟩ => ?_
  have hs1 := (Array.getElem?_eq_some_iff.1 x1).1
  have H1 := Lib.hid (And.intro b1 (And.intro x0 x1))
  clear b1 x0 x1
  go_upto_region 3 with fail
  refine wp_at_world (F := fun W => Below w1.heap.size w1 W ∧ W.ownsRow w1.heap.size 68 6 (.slice (some ⟨w1.heap.size, 0, none⟩) 0 0) 0 []) ⟨alloc_below _ _, rk_empty w1 _ (Nat.le_refl _) _ _⟩ fun w2 ⟨b2, o2⟩ => ?_
  have H2 := Lib.hid (And.intro b2 o2)
  clear b2 o2
  go_loopw [8, 9] (fun v8 iv wr => ∃ (k : Nat) (A' : Option Addr) (c' : Nat), k ≤ n ∧ iv = .int .i64 (k : Int) ∧ v8 = .slice A' (List.length ((rs.take k).filter fun s => !hitX t i s.q)) c' ∧ Aside (wr.ownsRow w1.heap.size 68 6 v8 (List.length ((rs.take k).filter fun s => !hitX t i s.q)) (onK.all ((rs.take k).filter fun s => !hitX t i s.q)) ∧ Below w1.heap.size w1 wr)) (fun _ iv _ => n - (intOf iv).toNat)
  case atStart => exact ⟨0, _, _, Nat.zero_le _, rfl, rfl, H2.out.2, H2.out.1⟩
  case round =>
    obtain ⟨k, A8, c8, hk, rfl, rfl, hrel⟩ := hrel
    have hbw : Below w.heap.size w wr := H1.out.1.trans (hrel.out.2.mono (by omega))
    have d0 : wr.cell? ⟨w.heap.size, 0, none⟩ = some (.slice A n c) := by rw [cell_of_row _ _ _ _ _ _ ((hrel.out.2.block _ (by omega)).trans H1.out.2.1)]; rfl
    obtain ⟨L, hL⟩ : ∃ L, List.length ((rs.take k).filter fun s => !hitX t i s.q) = L := ⟨_, rfl⟩
    have hLk : L ≤ 4 := by rw [← hL]; refine Nat.le_trans (List.length_filter_le _ _) ?_; rw [List.length_take]; omega
    have hr0 := hrel.out
    rw [hL] at hr0
    rw [hL]
    by_cases hlt : k < n
    · obtain ⟨s, hs⟩ := hah.get hlt
      obtain ⟨b, off, rfl, hb, _⟩ := hah.place (by omega)
      have hrg := (hah.below hbw).range hs
      obtain ⟨e0, e1, _⟩ := on_cells hrg
      have hnx := keepX_step (p := fun s => !hitX t i s.q) hs
      have hkI : (k : Int) < n := by omega
      have HRr := Lib.hid (And.intro hr0 hL)
      have hsz : w1.heap.size ≤ wr.heap.size := hr0.2.size
      clear hrel hL hbw hr0 hs
      obtain ⟨⟨st, si, sl, sg, sw, su⟩, sA, sn, sc⟩ := s
      simp only [onK, Xr.ones] at hrg
      dsimp only at e0 e1 hnx
      by_cases hf : st = t
      · subst hf
        by_cases hi : si = i
        · have hp : (!hitX st i ⟨st, si, sl, sg, sw, su⟩) = false := by unfold hitX; rw [hi]; simp
          rw [if_neg (by rw [hp]; decide), List.append_nil] at hnx
          have HN := Lib.hid hnx
          clear hnx hp
          go_wp2
          go_roundw
          case rel => exact ⟨k + 1, A8, c8, by omega, by go_num, by rw [HN.out, HRr.out.2], (show Aside _ from by rw [HN.out, HRr.out.2]; exact HRr.out.1)⟩
          case measure => simp [intOf]; omega
        · have hp : (!hitX st i ⟨st, si, sl, sg, sw, su⟩) = true := by unfold hitX; rw [beq_eq_false_iff_ne.2 hi]; simp
          rw [if_pos hp] at hnx
          have HN := Lib.hid hnx
          clear hnx hp
          go_wp2_with (first
            | (refine wpList_load_mid rfl 68 (.tmp 41) rfl b (off + k * 6) rfl [.int .i64 st, .int .i64 si, .slice sA sn sc, .int .i64 su, .int .i64 sw, .int .i64 (sg : Int)] _ hrg Try.underlying68 rfl size_on ?_)
            | (at_builtin; go_loud ((refine onK.append_one wr rfl (.tmp 37) (.tmp 43) 27 rfl w1.heap.size 68 i0 _ 64 Try.underlying27 hi0 hz0 hz1 hz2 rfl (.slice A8 L c8) L _ rfl HRr.out.1.1 ⟨⟨st, si, sl, sg, sw, su⟩, sA, sn, sc⟩ _ rfl _ rfl (by omega) (by unfold maxLen; omega) hsz ?_; intro A' c' w' hown hgr; have HW := Lib.hid (And.intro hown (rk_in' (HRr.out.1.2.trans (Below.mono (alloc_below wr _) hsz)) (HRr.out.1.1.alloc _) hgr (by rw [alloc_size]; omega))); clear hown hgr))))
          go_roundw
          case rel =>
            have hl : List.length ((rs.take (k + 1)).filter fun s => !hitX st i s.q) = L + 1 := by rw [HN.out, List.length_append, HRr.out.2]; rfl
            exact ⟨k + 1, A', c', by omega, by go_num, by rw [hl], (show Aside _ from by rw [hl, HN.out]; exact HW.out)⟩
          case measure => simp [intOf]; omega
      · have hp : (!hitX t i ⟨st, si, sl, sg, sw, su⟩) = true := by unfold hitX; rw [beq_eq_false_iff_ne.2 hf]; simp
        rw [if_pos hp] at hnx
        have HN := Lib.hid hnx
        clear hnx hp
        go_wp2_with (first
          | (refine wpList_load_mid rfl 68 (.tmp 41) rfl b (off + k * 6) rfl [.int .i64 st, .int .i64 si, .slice sA sn sc, .int .i64 su, .int .i64 sw, .int .i64 (sg : Int)] _ hrg Try.underlying68 rfl size_on ?_)
          | (at_builtin; go_loud ((refine onK.append_one wr rfl (.tmp 37) (.tmp 43) 27 rfl w1.heap.size 68 i0 _ 64 Try.underlying27 hi0 hz0 hz1 hz2 rfl (.slice A8 L c8) L _ rfl HRr.out.1.1 ⟨⟨st, si, sl, sg, sw, su⟩, sA, sn, sc⟩ _ rfl _ rfl (by omega) (by unfold maxLen; omega) hsz ?_; intro A' c' w' hown hgr; have HW := Lib.hid (And.intro hown (rk_in' (HRr.out.1.2.trans (Below.mono (alloc_below wr _) hsz)) (HRr.out.1.1.alloc _) hgr (by rw [alloc_size]; omega))); clear hown hgr))))
        go_roundw
        case rel =>
          have hl : List.length ((rs.take (k + 1)).filter fun s => !hitX t i s.q) = L + 1 := by rw [HN.out, List.length_append, HRr.out.2]; rfl
          exact ⟨k + 1, A', c', by omega, by go_num, by rw [hl], (show Aside _ from by rw [hl, HN.out]; exact HW.out)⟩
        case measure => simp [intOf]; omega
    · obtain rfl : k = n := by omega
      have hkI : ¬ (k : Int) < k := by omega
      have hall : (rs.take k).filter (fun s => !hitX t i s.q) = rs.filter (fun s => !hitX t i s.q) := by rw [List.take_of_length_le (by rw [HH.out.2.2]; exact Nat.le_refl _)]
      rw [hall] at hr0 hL
      have hmap := stop_map rs t i
      have hless := stop_less (rs.map Xr.q) t i
      rw [← hmap, List.length_map, List.length_map, hL, HH.out.2.2] at hless
      have HZ : Hid (decide (L < k) = R) := hless.trans HR.out
      have hRt : RtAt wr B (.slice A8 (List.length (rs.filter fun s => !hitX t i s.q)) c8) (rs.filter fun s => !hitX t i s.q) := by
        rw [hL]
        refine ⟨by rw [hL]; exact rk_mono hr0.1 (by omega), fun s hs => (HH.out.1.each s (List.mem_filter.1 hs).1).below hbw, by rw [hmap]; exact HH.out.1.good.stop t i⟩
      have x1r : wr.heap[w.heap.size + 1]? = some (.cells #[.slice none 0 0, .int .i64 0] 29) := (hr0.2.block _ (by omega)).trans H1.out.2.2
      have x0r : wr.heap[w.heap.size]? = some (.cells #[.slice A k c, .int .i64 now] 29) := (hr0.2.block _ (by omega)).trans H1.out.2.1
      have f0 : wr.frozen? ⟨w.heap.size, 0, none⟩ = false := by simp [World.frozen?, x0r]
      have HF := Lib.hid (And.intro hRt (And.intro hmap (And.intro hbw (And.intro x0r (And.intro x1r hL)))))
      have hLI : (L : Int) ≤ 4 := by omega
      clear hrel hr0 hL hall hmap hless hRt x0r x1r hbw
      go_upto_region 9 with fail
      refine wp_at_world (F := fun W => Below w.heap.size w W ∧ RtAt W B (.slice A8 (List.length (rs.filter fun s => !hitX t i s.q)) c8) (rs.filter fun s => !hitX t i s.q) ∧ W.heap[w.heap.size]? = some (.cells #[.slice A8 L c8, .int .i64 now] 29) ∧ W.heap[w.heap.size + 1]? = some (.cells #[.slice none 0 0, .int .i64 0] 29)) ⟨HF.out.2.2.1.setCell (Nat.le_refl _) _, HF.out.1.setT HF.out.2.2.2.1 _ _, heap_setCell_same wr w.heap.size 0 _ 29 _ HF.out.2.2.2.1, (heap_setCell_other wr ⟨w.heap.size, 0, none⟩ (w.heap.size + 1) _ (by simp)).trans HF.out.2.2.2.2.1⟩ fun w3 ⟨b3, r3, y0, y1⟩ => ?_
      have hr := range_here [.slice A8 L c8, .int .i64 now] y0 rfl
      have hth := there_here (n := 2) y1 rfl
      have H3 := Lib.hid (And.intro b3 (And.intro r3 (And.intro y0 y1)))
      clear b3 r3 y0 y1 d0 f0
      go_wp2_with (first
        | (refine wpList_load_mid rfl 29 (.tmp 3) rfl w.heap.size 0 rfl [.slice A8 L c8, .int .i64 now] _ hr Try.underlying29 rfl size_rt ?_)
        | (refine wpList_store_mid rfl 29 (.tmp 6) (.tmp 53) rfl (w.heap.size + 1) 0 (List.toArray [.slice A8 L c8, .int .i64 now]) rfl rfl hth size_rt (all_oneCell_toArray (two_one _ _ _ _)) ?_))
      have h9 := set_here [.slice A8 L c8, .int .i64 now] H3.out.2.2.2 rfl
      refine bodyPost_ret (results_cell_tmp_mid rfl _ _ (w.heap.size + 1) 0 [.slice A8 L c8, .int .i64 now] _ rfl (range_here _ h9 rfl) Try.underlying29 rfl size_rt) rfl ?_
      refine ⟨A8, c8, _, ?_, below_set H3.out.1 (Nat.le_succ _) _, H3.out.2.1.setTs H3.out.2.2.2 _, HF.out.2.1⟩
      rw [HR.out, HF.out.2.2.2.2.2, ← HZ.out]; rfl
end Go.Proofs.Ytkhikpbchimodaa
