/-
  The edges are read off the diagram, row by row.
-/
import Derived.Test.YtcaipmljlhjlcaaDoorFsBase
namespace Go.Proofs.YtcaipmljlhjlcaaDoor
open Go.RowKit
set_option maxRecDepth 100000
set_option linter.unusedVariables false
set_option linter.unusedSimpArgs false
theorem exp_take {i : Nat} {d : Dr} (h : Ds[i]? = some d) : (Ds.take (i + 1)).flatMap expand = (Ds.take i).flatMap expand ++ expand d := by
  rw [List.take_add_one, h, List.flatMap_append]
  simp
theorem exp_step {d : Dr} {k : Nat} (h : k < (d.hi + 1 - d.lo).toNat) : (expand d).take (k + 1) = (expand d).take k ++ [⟨d.ev, d.fr, d.to, d.lo + (k : Int)⟩] := by
  rw [List.take_add_one]
  congr 1
  unfold expand
  rw [List.getElem?_map, List.getElem?_range h]
  rfl
theorem exp_all {d : Dr} {k : Nat} (h : (d.hi + 1 - d.lo).toNat = k) : (expand d).take k = expand d := List.take_of_length_le (by unfold expand; rw [List.length_map, List.length_range]; omega)
theorem build_ed (a : Act) (s : Ed) (x : Operand) (hx : a.eval x = .agg s.vals.toArray) (i0 : TypeInfo) (hz0 : i0.zero = some (.agg #[.int .i64 0, .int .i64 0, .int .i64 0, .int .i64 0])) (hz1 : i0.size = 4) :
    Instr.fill (fun i => some (i * i0.size, i0.size)) ((Array.range (1 * i0.size)).map ((Value.agg #[.int .i64 0, .int .i64 0, .int .i64 0, .int .i64 0]).cells[· % (Value.agg #[.int .i64 0, .int .i64 0, .int .i64 0, .int .i64 0]).cells.size]!)) ((#[(0, x)] : Array (Nat × Operand)).map fun (i, x) => (i, a.eval x)).toList = some s.vals.toArray := by
  rw [hz1]
  rw [show ((#[(0, x)] : Array (Nat × Operand)).map fun (i, x) => (i, a.eval x)).toList = [(0, a.eval x)] by simp, hx]
  have h := Great.fill_whole (s := 4) (by decide) [Value.agg s.vals.toArray] ((Array.range (1 * 4)).map ((Value.agg #[.int .i64 0, .int .i64 0, .int .i64 0, .int .i64 0]).cells[· % (Value.agg #[.int .i64 0, .int .i64 0, .int .i64 0, .int .i64 0]).cells.size]!)) (fun v hv => by obtain rfl := List.mem_singleton.1 hv; rfl) (by simp)
  have e : ([Value.agg s.vals.toArray].flatMap fun v => v.cells.toList).toArray = s.vals.toArray := by
    simp [Value.cells]
  rw [e] at h
  exact h
set_option maxHeartbeats 4000000 in
theorem edges_f (w : World) (hT : Tb w) : Calls Tryd.prog 10 #[] w fun e w' => ∃ A c, e = .returned (.slice A 17 c) ∧ w'.ownsRow w.heap.size 24 4 (.slice A 17 c) 17 (edK.all Es) ∧ Below w.heap.size w w' := by
  obtain ⟨i0, hi0, hz0, hz1, hz2⟩ := info_parts info_ed
  obtain ⟨hg, hr⟩ := hT
  go_enter Tryd.func10, Tryd.ntmps10
  go_wp2_with (refine wpList_load_mid rfl 39 (.global 0) rfl 0 0 rfl DV _ hr Tryd.underlying39 rfl size_tab ?_)
  clear hr
  go_loopw [1, 6] (fun v1 v6 wr => ∃ (i n c : Nat) (A : Option Addr), i ≤ 10 ∧ v6 = .int .i64 (i : Int) ∧ v1 = .slice A n c ∧ Aside (wr.ownsRow w.heap.size 24 4 (.slice A n c) n (edK.all ((Ds.take i).flatMap expand)) ∧ Below w.heap.size w wr)) (fun _ v6 _ => 10 - (intOf v6).toNat)
  case atStart => exact ⟨0, 0, 0, none, by decide, rfl, rfl, (show Aside _ from ⟨World.ownsRow_nil _ _ _ _, Below.refl _ _⟩)⟩
  case round =>
    obtain ⟨i, n, c, A, hi, rfl, rfl, hrel⟩ := hrel
    by_cases hlt : i < 10
    · obtain ⟨d, hd, hix, hlo0, hlh, hhi9, hlen, hmx⟩ := Ds_get hlt
      have hltI : (i : Int) < 10 := by omega
      have hst := exp_take hd
      obtain ⟨ev, fr, to, lo, hi'⟩ := d
      dsimp only at hix hlo0 hlh hhi9 hlen
      obtain ⟨hown, hbel⟩ := hrel.out
      have HM := Lib.hid hmx
      obtain ⟨W, hW⟩ : ∃ W, wr.alloc (.cells #[.int .i64 ev, .int .i64 fr, .int .i64 to, .int .i64 lo, .int .i64 hi'] 38) = W := ⟨_, rfl⟩
      obtain ⟨g, hg3⟩ : ∃ g, wr.heap.size = g := ⟨_, rfl⟩
      have hblk : W.heap[g]? = some (.cells #[.int .i64 ev, .int .i64 fr, .int .i64 to, .int .i64 lo, .int .i64 hi'] 38) := by rw [← hW, ← hg3]; exact heap_alloc_new wr _
      have hgs : g < W.heap.size := by rw [← hW, alloc_size]; omega
      have HB := Lib.hid (And.intro (show W.ownsRow w.heap.size 24 4 (.slice A n c) n (edK.all ((Ds.take i).flatMap expand)) by rw [← hW]; exact hown.alloc _) (And.intro (show Below w.heap.size w W by rw [← hW]; exact hbel.trans ((alloc_below wr _).mono hbel.size)) (And.intro hst hblk)))
      have hc3 : W.cell? ⟨g, 3, none⟩ = some (.int .i64 lo) := by rw [cell_of_row _ _ _ _ _ _ hblk]; rfl
      clear hrel hown hbel hst hd hmx hlen hblk
      go_wp2_with fail
      clear hW hc3 hix
      go_loopw [1, 4] (fun v1 v4 ws => ∃ (k n c : Nat) (A : Option Addr), (k : Int) ≤ hi' + 1 - lo ∧ v4 = .int .i64 (lo + (k : Int)) ∧ v1 = .slice A n c ∧ Aside (ws.ownsRow w.heap.size 24 4 (.slice A n c) n (edK.all ((Ds.take i).flatMap expand ++ (expand ⟨ev, fr, to, lo, hi'⟩).take k)) ∧ Below w.heap.size w ws ∧ ws.heap[g]? = some (.cells #[.int .i64 ev, .int .i64 fr, .int .i64 to, .int .i64 lo, .int .i64 hi'] 38))) (fun _ v4 _ => 10 - (intOf v4).toNat)
      case atStart => exact ⟨0, n, c, A, by omega, by go_num, rfl, (show Aside _ from ⟨by rw [List.take_zero, List.append_nil]; exact HB.out.1, HB.out.2.1, HB.out.2.2.2⟩)⟩
      case round =>
        obtain ⟨k, n, c, A, hk, rfl, rfl, hrel⟩ := hrel
        obtain ⟨hown, hbel, hblk⟩ := hrel.out
        clear hrel
        have hc0 : wr.cell? ⟨g, 0, none⟩ = some (.int .i64 ev) := by rw [cell_of_row _ _ _ _ _ _ hblk]; rfl
        have hc1 : wr.cell? ⟨g, 1, none⟩ = some (.int .i64 fr) := by rw [cell_of_row _ _ _ _ _ _ hblk]; rfl
        have hc2 : wr.cell? ⟨g, 2, none⟩ = some (.int .i64 to) := by rw [cell_of_row _ _ _ _ _ _ hblk]; rfl
        have hc4 : wr.cell? ⟨g, 4, none⟩ = some (.int .i64 hi') := by rw [cell_of_row _ _ _ _ _ _ hblk]; rfl
        by_cases hkl : (k : Int) < hi' + 1 - lo
        · have hltJ : lo + (k : Int) ≤ hi' := by omega
          have hst2 := exp_step (d := ⟨ev, fr, to, lo, hi'⟩) (k := k) (by show k < (hi' + 1 - lo).toNat; omega)
          have hnl : n ≤ 27 := by
            have := RowK.own_len hown
            have h2 : ((expand ⟨ev, fr, to, lo, hi'⟩).take k).length ≤ k := List.length_take_le ..
            have h3 := HM.out
            rw [← this, List.length_append]
            omega
          have hs : w.heap.size ≤ wr.heap.size := hbel.size
          have hgw : g < wr.heap.size := World.block_lt_of_cell? wr ⟨g, 0, none⟩ hc0
          have hne := rk_ne (k := g) hown hblk (by decide)
          have HX := Lib.hid (And.intro hown (And.intro hbel (And.intro hst2 (And.intro hblk (And.intro hs (And.intro hgw hne))))))
          clear hown hbel hst2 hblk hs hgw hne
          go_wp2_with (first
            | (refine wpList_buildSlice rfl 29 24 1 #[(0, .tmp 25)] rfl (Ed.vals ⟨ev, fr, to, lo + (k : Int)⟩).toArray i0 _ Tryd.underlying29 hi0 hz0 (by rw [hz1]; decide) (by rw [hz1]; decide) (build_ed _ ⟨ev, fr, to, lo + (k : Int)⟩ _ rfl i0 hz0 hz1) ?_)
            | (at_builtin; go_loud (refine edK.append_one wr rfl (.tmp 17) (.tmp 26) 29 rfl w.heap.size 24 i0 _ 32 Tryd.underlying29 hi0 hz0 hz1 hz2 rfl (.slice A n c) n _ rfl HX.out.1 ⟨ev, fr, to, lo + (k : Int)⟩ _ rfl _ rfl (by omega) (by unfold maxLen; omega) HX.out.2.2.2.2.1 ?_); intro A6 c6 w6 hown6 hgr6; have H6 := Lib.hid (And.intro hown6 hgr6); clear hown6 hgr6))
          go_roundw
          case rel =>
            refine ⟨k + 1, n + 1, c6, A6, by omega, ?_, rfl, (show Aside _ from ⟨by rw [HX.out.2.2.1, ← List.append_assoc]; exact H6.out.1, rk_in' (HX.out.2.1.trans (Below.mono (alloc_below wr _) HX.out.2.2.2.2.1)) (HX.out.1.alloc _) H6.out.2 (by have := HX.out.2.2.2.2.1; rw [alloc_size]; omega), ?_⟩)⟩
            · congr 1; omega
            · rw [H6.out.2.block g (by rw [alloc_size]; have := HX.out.2.2.2.2.2.1; omega) (fun e => HX.out.2.2.2.2.2.2 e.symm), heap_alloc_old wr _ HX.out.2.2.2.2.2.1]; exact HX.out.2.2.2.1
          case measure => simp [intOf]; omega
        · obtain rfl : lo = hi' + 1 - (k : Int) := by omega
          have hal := exp_all (d := ⟨ev, fr, to, hi' + 1 - (k : Int), hi'⟩) (k := k) (by dsimp only; omega)
          have hltJ : ¬ hi' + 1 - (k : Int) + (k : Int) ≤ hi' := by omega
          rw [hal] at hown
          have HX := Lib.hid (And.intro hown hbel)
          clear hown hbel hal hblk
          go_wp2
          go_roundw
          case rel => exact ⟨i + 1, n, c, A, by omega, by go_num, rfl, (show Aside _ from ⟨by rw [HB.out.2.2.1]; exact HX.out.1, HX.out.2⟩)⟩
          case measure => simp [intOf]; omega
    · obtain rfl : i = 10 := by omega
      obtain ⟨hown, hbel⟩ := hrel.out
      have hl := RowK.own_len hown
      obtain rfl : n = 17 := by rw [← hl]; decide
      have HX := Lib.hid (And.intro hown hbel)
      clear hown hbel hrel hl
      go_wp2
      go_ret
      exact ⟨A, c, rfl, HX.out.1, HX.out.2⟩
end Go.Proofs.YtcaipmljlhjlcaaDoor
