/-
  The states that can be come to; what may follow a pair at last.
-/
import Derived.Test.YtcaipmljlhjlcaaDoorFsMay
namespace Go.Proofs.YtcaipmljlhjlcaaDoor
open Go.RowKit
set_option maxRecDepth 100000
set_option linter.unusedVariables false
set_option linter.unusedSimpArgs false
def stepM (m : List Bool) (e : Ed) : List Bool := m.set e.to.toNat (m.getD e.to.toNat false || m.getD e.fr.toNat false)
def roundM (m : List Bool) : List Bool := Es.foldl stepM m
def roundsM : Nat → List Bool → List Bool | 0, m => m | k + 1, m => roundM (roundsM k m)
def reachM (st : Nat) : List Bool := roundsM 4 ((List.replicate 4 false).set st true)
theorem stepM_len (m : List Bool) (e : Ed) : (stepM m e).length = m.length := List.length_set ..
theorem foldM_len (es : List Ed) (m : List Bool) : (es.foldl stepM m).length = m.length := by
  induction es generalizing m with
  | nil => rfl
  | cons e es ih => rw [List.foldl_cons, ih, stepM_len]
theorem foldM_take {k : Nat} {s : Ed} (h : Es[k]? = some s) (m : List Bool) : (Es.take (k + 1)).foldl stepM m = stepM ((Es.take k).foldl stepM m) s := by
  rw [List.take_add_one, h, List.foldl_append]; rfl
theorem foldM_all (m : List Bool) : (Es.take 17).foldl stepM m = roundM m := by
  rw [List.take_of_length_le (by rw [Es_len]; exact Nat.le_refl _)]; rfl
theorem size_b4 : (Tryd.prog.info? 42).map (·.size) = some 4 := by kernel_rfl
/-- The states met, in a block of four; the result's own block beside it. -/
structure RcAt (w wr : World) (m : List Bool) : Prop where
  bel : Below w.heap.size w wr
  size : w.heap.size + 2 ≤ wr.heap.size
  len : m.length = 4
  range : wr.rangeAt (w.heap.size + 1) 0 (m.map Value.bool)
  there : wr.there (w.heap.size + 1) 0 4
  res : wr.heap[w.heap.size]? = some (.cells #[.bool false, .bool false, .bool false, .bool false] 42)
theorem RcAt.below {w wr w' : World} {m : List Bool} (h : RcAt w wr m) (hb : Below wr.heap.size wr w') : RcAt w w' m where
  bel := h.bel.trans (hb.mono h.bel.size)
  size := Nat.le_trans h.size hb.size
  len := h.len
  range j u hj := by rw [hb.cell (p := ⟨w.heap.size + 1, 0 + j, none⟩) (show w.heap.size + 1 < wr.heap.size by have := h.size; omega)]; exact h.range j u hj
  there j hj := by
    rw [hb.cell (p := ⟨w.heap.size + 1, 0 + j, none⟩) (show w.heap.size + 1 < wr.heap.size by have := h.size; omega), hb.frozen (p := ⟨w.heap.size + 1, 0 + j, none⟩) (show w.heap.size + 1 < wr.heap.size by have := h.size; omega)]
    exact h.there j hj
  res := by rw [hb.block w.heap.size (by have := h.size; omega)]; exact h.res
theorem RcAt.put {w wr : World} {m : List Bool} (h : RcAt w wr m) (k : Nat) (hk : k < 4) (v : Bool) : RcAt w (wr.setCell ⟨w.heap.size + 1, k, none⟩ (.bool v)) (m.set k v) where
  bel := h.bel.setCell (p := ⟨w.heap.size + 1, k, none⟩) (Nat.le_succ _) _
  size := by rw [World.size_setCell]; exact h.size
  len := by rw [List.length_set]; exact h.len
  range := by
    have := range_set h.range (by rw [List.length_map, h.len]; exact h.there) k (by rw [List.length_map, h.len]; exact hk) (.bool v)
    rw [Nat.zero_add] at this
    rw [List.map_set]; exact this
  there := there_set h.there _ _
  res := by
    rw [Below.heap_setCell _ ⟨w.heap.size + 1, k, none⟩ _ _ (show w.heap.size ≠ w.heap.size + 1 by omega)]
    exact h.res
theorem RcAt.cell {w wr : World} {m : List Bool} (h : RcAt w wr m) {k : Nat} {q : Bool} (hq : m[k]? = some q) : wr.cell? ⟨w.heap.size + 1, k, none⟩ = some (.bool q) := by
  have := h.range k (.bool q) (by rw [List.getElem?_map, hq]; rfl)
  rw [Nat.zero_add] at this; exact this
theorem rc_new (w : World) : RcAt w ((w.alloc (.cells #[.bool false, .bool false, .bool false, .bool false] 42)).alloc (.cells #[.bool false, .bool false, .bool false, .bool false] 42)) (List.replicate 4 false) := by
  have s1 : (w.alloc (.cells #[.bool false, .bool false, .bool false, .bool false] 42)).heap.size = w.heap.size + 1 := alloc_size ..
  exact ⟨(alloc_below w _).trans ((alloc_below _ _).mono (by omega)), by rw [alloc_size, s1]; exact Nat.le_refl _, rfl, range_new1 w _ _ _ rfl, there_new1 w _ _ _ rfl, by rw [heap_alloc_old _ _ (by omega)]; exact heap_alloc_new w _⟩
set_option maxHeartbeats 8000000 in
theorem reached_f (n : Nat) (hn : n < 4) (w : World) (hT : Tb w) : Calls Tryd.prog 22 #[.int .i64 n] w fun e w' => e = .returned (.agg ((reachM n).map Value.bool).toArray) ∧ Below w.heap.size w w' := by
  obtain ⟨W, hW⟩ : ∃ W, (w.alloc (.cells #[.bool false, .bool false, .bool false, .bool false] 42)).alloc (.cells #[.bool false, .bool false, .bool false, .bool false] 42) = W := ⟨_, rfl⟩
  have hR := rc_new w
  rw [hW] at hR
  have hnI : (n : Int) < 4 := by omega
  have c0 := hR.cell (k := n) (q := false) (by rw [List.getElem?_replicate, if_pos hn])
  have f0 := (hR.there n hn).2
  rw [Nat.zero_add] at f0
  have H0 := Lib.hid (hR.put n hn true)
  have HT := Lib.hid hT
  clear hR hT
  go_enter Tryd.func22, Tryd.ntmps22
  go_wp2
  go_loopw [8] (fun v8 wr => ∃ k : Nat, k ≤ 4 ∧ v8 = .int .i64 (k : Int) ∧ Aside (RcAt w wr (roundsM k ((List.replicate 4 false).set n true)))) (fun v8 _ => 4 - (intOf v8).toNat)
  case atStart => exact ⟨0, by decide, rfl, H0.out⟩
  case round =>
    obtain ⟨k, hk, rfl, hrel⟩ := hrel
    by_cases hlt : k < 4
    · have hltI : (k : Int) < 4 := by omega
      obtain ⟨M, hM⟩ : ∃ M, roundsM k ((List.replicate 4 false).set n true) = M := ⟨_, rfl⟩
      rw [hM] at hrel
      have hMs : roundsM (k + 1) ((List.replicate 4 false).set n true) = roundM M := by show roundM (roundsM k _) = _; rw [hM]
      have HK := Lib.hid (And.intro hrel.out hMs)
      have HE := Lib.hid (edges_f wr (HT.out.up hrel.out.bel))
      clear hrel hMs hM
      go_wp2_with fail
      refine HE.out.mono ?_
      rintro e w1 ⟨A, c, rfl, hown, hbel⟩
      obtain ⟨A', c', e0, _, _, hat, hA⟩ := RowK.At.of_own hown
      injection e0 with e1 e2 e3
      subst e1 e3
      obtain ⟨b, off, rfl, hbb, _⟩ := hat.place (by decide)
      obtain ⟨g0, hg0, hbs⟩ := hA _ rfl
      injection hg0 with hg1 hg2
      subst hg1 hg2
      have H1 := Lib.hid (And.intro hat (And.intro (HK.out.1.below hbel) (And.intro hbs hbb)))
      clear hown hat hbel hA hbs hbb
      try dsimp only
      go_wp2
      go_loopw [12] (fun v12 ws => ∃ j : Nat, j ≤ 17 ∧ v12 = .int .i64 (j : Int) ∧ Aside (RcAt w ws ((Es.take j).foldl stepM M) ∧ w1.heap.size ≤ ws.heap.size ∧ ws.heap[b]? = w1.heap[b]?)) (fun v12 _ => 17 - (intOf v12).toNat)
      case atStart => exact ⟨0, by decide, rfl, (show Aside _ from ⟨H1.out.2.1, Nat.le_refl _, rfl⟩)⟩
      case round =>
        obtain ⟨j, hj, rfl, hrel⟩ := hrel
        obtain ⟨hR, hsz, hbk⟩ := hrel.out
        clear hrel
        by_cases hjl : j < 17
        · obtain ⟨s, hs⟩ := H1.out.1.get hjl
          have hr := H1.out.1.range hs
          have hst := foldM_take hs M
          have hto := Es_fr s (List.mem_of_getElem? hs)
          obtain ⟨e1, e2, e3, e4⟩ := s
          have hc : ∀ (i : Nat) (v : Value), (Ed.vals ⟨e1, e2, e3, e4⟩)[i]? = some v → wr.cell? ⟨b, 0 + j * 4 + i, none⟩ = some v := fun i v hi => by
            rw [World.cell?_of_block (w := w1) (a := ⟨b, 0 + j * 4 + i, none⟩) hbk]; exact hr i v hi
          have hc0 : wr.cell? ⟨b, 0 + j * 4, none⟩ = some (.int .i64 e1) := hc 0 _ rfl
          have hc1 : wr.cell? ⟨b, 0 + j * 4 + 1, none⟩ = some (.int .i64 e2) := hc 1 _ rfl
          have hc2 : wr.cell? ⟨b, 0 + j * 4 + 2, none⟩ = some (.int .i64 e3) := hc 2 _ rfl
          have hc3 : wr.cell? ⟨b, 0 + j * 4 + 3, none⟩ = some (.int .i64 e4) := hc 3 _ rfl
          rw [Nat.zero_add] at hc0 hc1 hc2 hc3
          dsimp only at hto
          obtain ⟨kt, rfl⟩ : ∃ kt : Nat, e3 = kt := ⟨e3.toNat, by omega⟩
          obtain ⟨kf, rfl⟩ : ∃ kf : Nat, e2 = kf := ⟨e2.toNat, by omega⟩
          obtain ⟨m, hm⟩ : ∃ m, (Es.take j).foldl stepM M = m := ⟨_, rfl⟩
          rw [hm] at hR hst
          obtain ⟨qt, hqt⟩ : ∃ q, m[kt]? = some q := ⟨_, List.getElem?_eq_getElem (by rw [hR.len]; omega)⟩
          obtain ⟨qf, hqf⟩ : ∃ q, m[kf]? = some q := ⟨_, List.getElem?_eq_getElem (by rw [hR.len]; omega)⟩
          have hst2 : (Es.take (j + 1)).foldl stepM M = m.set kt (qt || qf) := by
            rw [hst]; unfold stepM; dsimp only
            rw [Int.toNat_natCast, Int.toNat_natCast, List.getD_eq_getElem?_getD, List.getD_eq_getElem?_getD, hqt, hqf]; rfl
          have hktI : (kt : Int) < 4 := hto.2.2.2
          have hkfI : (kf : Int) < 4 := hto.2.1
          have hjI : (j : Int) < 17 := by omega
          obtain ⟨V, hV⟩ : ∃ V, wr.alloc (.cells #[.int .i64 e1, .int .i64 kf, .int .i64 kt, .int .i64 e4] 24) = V := ⟨_, rfl⟩
          have hRV : RcAt w V m := by rw [← hV]; exact hR.below (alloc_below wr _)
          have hbx : V.heap[wr.heap.size]? = some (.cells #[.int .i64 e1, .int .i64 kf, .int .i64 kt, .int .i64 e4] 24) := by rw [← hV]; exact heap_alloc_new wr _
          have x1 : V.cell? ⟨wr.heap.size, 1, none⟩ = some (.int .i64 kf) := by rw [cell_of_row _ _ _ _ _ _ hbx]; rfl
          have x2 : V.cell? ⟨wr.heap.size, 2, none⟩ = some (.int .i64 kt) := by rw [cell_of_row _ _ _ _ _ _ hbx]; rfl
          have yt := hRV.cell hqt
          have yf := hRV.cell hqf
          have zt := (hRV.there kt (by omega)).2
          rw [Nat.zero_add] at zt
          have HV := Lib.hid (And.intro hRV (And.intro hst2 (And.intro (show V.heap[b]? = w1.heap[b]? by rw [← hV, heap_alloc_old _ _ (by have := H1.out.2.2.2; omega)]; exact hbk) (show w1.heap.size ≤ V.heap.size by rw [← hV, alloc_size]; omega))))
          clear hRV hst2 hbx hR hsz hbk hr hc hs hst hto hm hqt hqf
          cases qt
          all_goals
            go_wp2
            go_region
            go_wp2
            go_roundw
            case rel =>
              refine ⟨j + 1, by omega, by go_num, (show Aside _ from ⟨?_, ?_, ?_⟩)⟩
              · rw [HV.out.2.1]
                exact (HV.out.1.put kt (by omega) _).below (drewN_below _ _ 1)
              · show _ ≤ (V.setCell _ _).heap.size
                rw [World.size_setCell]; exact HV.out.2.2.2
              · show (V.setCell _ _).heap[b]? = _
                rw [Below.heap_setCell _ ⟨w.heap.size + 1, kt, none⟩ _ _ (show b ≠ w.heap.size + 1 by have := H1.out.2.2.1; have := HK.out.1.size; omega)]
                exact HV.out.2.2.1
            case measure => simp [intOf]; omega
        · obtain rfl : j = 17 := by omega
          have hjI : ¬ ((17 : Nat) : Int) < 17 := by decide
          have hfa := foldM_all M
          rw [hfa] at hR
          have HX := Lib.hid (And.intro hR hsz)
          clear hR hsz hbk hfa
          go_wp2
          go_roundw
          case rel => exact ⟨k + 1, by omega, by go_num, (show Aside _ from by rw [HK.out.2]; exact HX.out.1)⟩
          case measure => simp [intOf]; omega
    · obtain rfl : k = 4 := by omega
      have hR := hrel.out
      replace hR : RcAt w wr (reachM n) := hR
      have hl := hR.len
      obtain ⟨m, hm⟩ : ∃ m, reachM n = m := ⟨_, rfl⟩
      rw [hm] at hR hl
      match m, hl with
      | [q0, q1, q2, q3], _ =>
        have x0 := hR.cell (k := 0) (q := q0) rfl
        have x1 := hR.cell (k := 1) (q := q1) rfl
        have x2 := hR.cell (k := 2) (q := q2) rfl
        have x3 := hR.cell (k := 3) (q := q3) rfl
        have hbG := hR.res
        have y0 : wr.cell? ⟨w.heap.size, 0, none⟩ = some (.bool false) := by rw [cell_of_row _ _ _ _ _ _ hbG]; rfl
        have z0 : wr.frozen? ⟨w.heap.size, 0, none⟩ = false := by rw [frozen_of_row _ _ _ _ _ hbG]
        have y1 : wr.cell? ⟨w.heap.size, 1, none⟩ = some (.bool false) := by rw [cell_of_row _ _ _ _ _ _ hbG]; rfl
        have z1 : wr.frozen? ⟨w.heap.size, 1, none⟩ = false := by rw [frozen_of_row _ _ _ _ _ hbG]
        have y2 : wr.cell? ⟨w.heap.size, 2, none⟩ = some (.bool false) := by rw [cell_of_row _ _ _ _ _ _ hbG]; rfl
        have z2 : wr.frozen? ⟨w.heap.size, 2, none⟩ = false := by rw [frozen_of_row _ _ _ _ _ hbG]
        have y3 : wr.cell? ⟨w.heap.size, 3, none⟩ = some (.bool false) := by rw [cell_of_row _ _ _ _ _ _ hbG]; rfl
        have z3 : wr.frozen? ⟨w.heap.size, 3, none⟩ = false := by rw [frozen_of_row _ _ _ _ _ hbG]
        have HR := Lib.hid (And.intro hbG hR.bel)
        clear hR hbG hrel
        go_wp2
        refine bodyPost_ret (results_cell_mid rfl _ _ w.heap.size 0 _ _ rfl (put4 HR.out.1) Tryd.underlying42 rfl size_b4) rfl ?_
        exact ⟨by first | (rw [hm]; rfl) | rfl, put4_below HR.out.2 (Nat.le_refl _)⟩
end Go.Proofs.YtcaipmljlhjlcaaDoor
