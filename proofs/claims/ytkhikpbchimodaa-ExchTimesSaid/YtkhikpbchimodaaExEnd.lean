/-
  Exchanges: one is over.
-/
import Derived.Test.YtkhikpbchimodaaExFind
import Derived.Deep.RegionLaw
namespace Go.Proofs.Ytkhikpbchimodaa
open Go.RowKit
set_option maxRecDepth 100000
set_option linter.unusedVariables false
section
variable {vs : List Xr} {w : World} {base n : Nat}
set_option maxHeartbeats 4000000 in
theorem exdel_ne (g c i : Nat) (hrow : w.ownsRow base 65 6 (.slice (some ⟨g, 0, none⟩) n c) n (xrK.all vs)) (hi : i < n) (hn : n ≤ 4) (hci : ¬ c = i + 1) :
    Calls Try.prog 37 #[.slice (some ⟨g, 0, none⟩) n c, .int .i64 i, .int .i64 ((i : Int) + 1)] w fun e w' => e = .returned (.slice (some ⟨g, 0, none⟩) (n - 1) c) ∧ w'.ownsRow base 65 6 (.slice (some ⟨g, 0, none⟩) (n - 1) c) (n - 1) (xrK.all (vs.eraseIdx i)) ∧ w.grownBy w' (some g) := by
  obtain ⟨i0, hi0, hz0, hz1, hz2⟩ := info_parts info_xr
  have hl := RowK.own_len hrow
  obtain ⟨hnc, hcm⟩ := RowK.own_cap hrow
  have hcm : c ≤ 9223372036854775807 := by unfold maxLen at hcm; omega
  have hal := xrK.all_length vs
  have hdl : ((xrK.all vs).drop ((i + 1) * 6)).length = (n - (i + 1)) * 6 := by rw [List.length_drop, hal]; omega
  have s1 := Lib.hid hdl
  have s2 : Hid (∀ t u, ((xrK.all vs).drop ((i + 1) * 6))[t]? = some u → w.drew.cell? ((⟨g, (i + 1) * 6, none⟩ : Addr).add t) = some u) := fun t u hu => by
    have htl := (List.getElem?_eq_some_iff.1 hu).1
    rw [hdl] at htl
    rw [rk_add]
    rw [List.getElem?_drop] at hu
    exact (hrow.cellAt ((i + 1) * 6 + t) (by omega)).trans hu
  have s3 : Hid (∀ u ∈ (xrK.all vs).drop ((i + 1) * 6), u.oneCell' = true) := fun u hu => xrK.all_one vs u (List.mem_of_mem_drop hu)
  have s4 : Hid (∀ t, t < ((xrK.all vs).drop ((i + 1) * 6)).length → (w.drew.cell? ⟨g, 0 + i * 6 + t, none⟩).isSome = true ∧ w.drew.frozen? ⟨g, 0 + i * 6 + t, none⟩ = false) := fun t ht => by
    rw [hdl] at ht
    rw [show 0 + i * 6 + t = i * 6 + t by omega]
    refine ⟨?_, hrow.frozenAt _⟩
    show (w.cell? _).isSome = true
    rw [hrow.cellAt (i * 6 + t) (by omega), List.getElem?_eq_getElem (by rw [hal]; omega)]; rfl
  obtain ⟨p1, p2⟩ := rk_puts ((xrK.all vs).drop ((i + 1) * 6)) w.drew (xrK.all vs) (i * 6) hrow (by rw [hdl, hal]; omega)
  obtain ⟨W1, hW1⟩ : ∃ W1, W1 = w.drew.setCells g (0 + i * 6) ((xrK.all vs).drop ((i + 1) * 6)) := ⟨_, rfl⟩
  rw [show i * 6 = 0 + i * 6 by omega] at p1 p2
  rw [← hW1] at p1 p2
  rw [show (0 : Nat) + i * 6 = i * 6 by omega] at p1
  have hW := Lib.hid hW1
  have hth : W1.there g ((n - 1) * 6) (1 * 6) := fun j hj => by
    refine ⟨?_, p1.frozenAt _⟩
    rw [p1.cellAt ((n - 1) * 6 + j) (by omega), List.getElem?_eq_getElem (by rw [p1.1]; omega)]; rfl
  have h11 : n - (n - 1) = 1 := by omega
  have hclr : ∀ ty, ∃ us, (Builtin.clear_ #[59] ty #[.slice (some ⟨g, (n - 1) * 6, none⟩) (n - (n - 1)) (c - (n - 1))]).run Try.prog W1 = .ok (.tuple #[]) (W1.setCells g ((n - 1) * 6) us) := fun ty =>
    rk_clear (P := Try.prog) (z := 6) W1 59 65 ty _ Try.underlying59 zero_xr rfl (fun i hi => by
      have : i = 0 ∨ i = 1 ∨ i = 2 ∨ i = 3 ∨ i = 4 ∨ i = 5 := by omega
      rcases this with rfl | rfl | rfl | rfl | rfl | rfl <;> rfl) (by decide) g ((n - 1) * 6) (n - (n - 1)) (c - (n - 1)) (by omega) (by rw [h11]; exact hth)
  have HC := Lib.hid hclr
  have hfin : ∀ us, (W1.setCells g ((n - 1) * 6) us).ownsRow base 65 6 (.slice (some ⟨g, 0, none⟩) (n - 1) c) (n - 1) (xrK.all (vs.eraseIdx i)) ∧ w.grownBy (W1.setCells g ((n - 1) * 6) us) (some g) := fun us => by
    have hel : (vs.eraseIdx i).length = n - 1 := by rw [List.length_eraseIdx, if_pos (by omega), hl]
    rcases p1.2 with ⟨h', _⟩ | ⟨g', cap', cur, h', hb, hg, _, hcm', hcs, htake⟩
    · simp at h'
    · simp only [Value.slice.injEq, Option.some.injEq, Addr.mk.injEq, and_true, true_and] at h'
      obtain ⟨rfl, rfl⟩ := h'
      have hcut : W1.ownsRow base 65 6 (.slice (some ⟨g, 0, none⟩) (n - 1) c) (n - 1) (xrK.all (vs.eraseIdx i)) := by
        refine ⟨by rw [xrK.all_length, hel], .inr ⟨g, c, cur, rfl, hb, hg, by omega, hcm', hcs, ?_⟩⟩
        have e4 : cur.toList.take ((n - 1) * 6) = (cur.toList.take (n * 6)).take ((n - 1) * 6) := by rw [List.take_take, Nat.min_eq_left (by omega)]
        rw [e4, htake, List.eraseIdx_eq_take_drop_succ, xrK.all_append, (xrK.all_take vs i (by omega)).1, (xrK.all_take vs (i + 1) (by omega)).2]
        refine List.take_left' ?_
        rw [List.length_append, hdl, List.length_take, hal]; omega
      exact ⟨rk_behind hcut us _ (Nat.le_refl _), rk_trans (⟨p2.os, p2.tape, p2.output, p2.size, p2.block⟩ : w.grownBy W1 (some g)) (rk_setCells W1 g us _)⟩
  have HF := Lib.hid hfin
  have hiI : (i : Int) + 1 ≤ n := by omega
  have hi0I : (0 : Int) ≤ (i : Int) := by omega
  have hi1I : (0 : Int) ≤ (i : Int) + 1 := by omega
  have hib : ((i : Int) == (i : Int) + 1) = false := beq_eq_false_iff_ne.2 (by omega)
  have hnI : (n : Int) ≤ 4 := by omega
  have hncI : (n : Int) ≤ c := by omega
  have hc2 : ¬ c = n - 1 := by omega
  have hI1 : ((n - 1 : Nat) : Int) ≤ n := by omega
  have hicN : i ≤ c := by omega
  have hicI : (i : Int) ≤ c := by omega
  clear hfin hclr hth h11 p1 p2 hW1 hdl hal hrow hl
  go_enter Try.func37, Try.ntmps37
  go_wp2_with fail
  go_region_law (refine step_append_room rfl (.tmp 22) (.tmp 25) 59 rfl 65 i0 6 Try.underlying59 hi0 hz1 g 0 i c (by simp [Act.eval, Act.put]) ⟨g, (i + 1) * 6, none⟩ (n - (i + 1)) (c - (i + 1)) ((xrK.all vs).drop ((i + 1) * 6)) (by simp [Act.eval, Act.put]) s1.out s2.out s3.out (by omega) s4.out ?_; rw [← hW.out, show i + (n - (i + 1)) = n - 1 by omega])
  go_wp2_with (refine rk_wpList_clear _ rfl (.tmp 31) 59 rfl g ((n - 1) * 6) (n - (n - 1)) (c - (n - 1)) rfl HC.out ?_
               intro us
               have HU := Lib.hid (HF.out us))
  go_ret
  exact ⟨rfl, HU.out⟩
set_option maxHeartbeats 4000000 in
theorem exdel_eq (g i : Nat) (hrow : w.ownsRow base 65 6 (.slice (some ⟨g, 0, none⟩) (i + 1) (i + 1)) (i + 1) (xrK.all vs)) (hn : i + 1 ≤ 4) :
    Calls Try.prog 37 #[.slice (some ⟨g, 0, none⟩) (i + 1) (i + 1), .int .i64 i, .int .i64 ((i : Int) + 1)] w fun e w' => e = .returned (.slice (some ⟨g, 0, none⟩) i (i + 1)) ∧ w'.ownsRow base 65 6 (.slice (some ⟨g, 0, none⟩) i (i + 1)) i (xrK.all (vs.eraseIdx i)) ∧ w.grownBy w' (some g) := by
  obtain ⟨i0, hi0, hz0, hz1, hz2⟩ := info_parts info_xr
  have hl := RowK.own_len hrow
  have hal := xrK.all_length vs
  have s1 : Hid (([] : List Value).length = 0 * 6) := rfl
  have s2 : Hid (∀ t u, ([] : List Value)[t]? = some u → w.drew.cell? ((⟨g, 0, none⟩ : Addr).add t) = some u) := fun t u hu => by simp at hu
  have s3 : Hid (∀ u ∈ ([] : List Value), u.oneCell' = true) := fun u hu => by cases hu
  have s4 : Hid (∀ t, t < ([] : List Value).length → (w.drew.cell? ⟨g, 0 + i * 6 + t, none⟩).isSome = true ∧ w.drew.frozen? ⟨g, 0 + i * 6 + t, none⟩ = false) := fun t ht => absurd ht (Nat.not_lt_zero _)
  have hcut : w.drew.ownsRow base 65 6 (.slice (some ⟨g, 0, none⟩) i (i + 1)) i (xrK.all (vs.eraseIdx i)) := by
    have := RowK.own_cut hrow i (by omega)
    rw [List.eraseIdx_eq_take_drop_succ, List.drop_eq_nil_of_le (by omega), List.append_nil]
    exact this
  have hth : w.drew.there g (i * 6) (1 * 6) := RowK.own_there hrow (i * 6) (1 * 6) (by omega)
  have hclr : ∀ ty, ∃ us, (Builtin.clear_ #[59] ty #[.slice (some ⟨g, i * 6, none⟩) 1 1]).run Try.prog w.drew = .ok (.tuple #[]) (w.drew.setCells g (i * 6) us) := fun ty =>
    rk_clear (P := Try.prog) (z := 6) w.drew 59 65 ty _ Try.underlying59 zero_xr rfl (fun i hi => by
      have : i = 0 ∨ i = 1 ∨ i = 2 ∨ i = 3 ∨ i = 4 ∨ i = 5 := by omega
      rcases this with rfl | rfl | rfl | rfl | rfl | rfl <;> rfl) (by decide) g (i * 6) 1 1 (by omega) hth
  have HC := Lib.hid hclr
  have hfin : ∀ us, (w.drew.setCells g (i * 6) us).ownsRow base 65 6 (.slice (some ⟨g, 0, none⟩) i (i + 1)) i (xrK.all (vs.eraseIdx i)) ∧ w.grownBy (w.drew.setCells g (i * 6) us) (some g) := fun us =>
    ⟨rk_behind hcut us _ (Nat.le_refl _), rk_trans (rk_grown _ (drew_below w _)) (rk_setCells w.drew g us _)⟩
  have HF := Lib.hid hfin
  have hi0I : (0 : Int) ≤ (i : Int) := by omega
  have hi1I : (0 : Int) ≤ (i : Int) + 1 := by omega
  have hib : ((i : Int) == (i : Int) + 1) = false := beq_eq_false_iff_ne.2 (by omega)
  have hnI : (i : Int) ≤ 3 := by omega
  have hle : (i : Int) ≤ (i : Int) + 1 := by omega
  have hleN : i ≤ i + 1 := by omega
  have hll : (i : Int) + 1 ≤ (i : Int) + 1 := by omega
  have hne : ¬ i + 1 = i := by omega
  clear hfin hclr hth hcut hal hrow hl
  go_enter Try.func37, Try.ntmps37
  go_wp2_with fail
  go_region_law (refine step_append_room rfl (.tmp 22) (.tmp 25) 59 rfl 65 i0 6 Try.underlying59 hi0 hz1 g 0 i (i + 1) (by simp [Act.eval, Act.put]) ⟨g, 0, none⟩ 0 0 [] (by simp [Act.eval, Act.put]) s1.out s2.out s3.out (by omega) s4.out ?_)
  go_wp2_with (refine rk_wpList_clear _ rfl (.tmp 31) 59 rfl g (i * 6) 1 1 rfl HC.out ?_
               intro us
               have HU := Lib.hid (HF.out us))
  go_ret
  exact ⟨rfl, HU.out⟩
theorem exdel_f (g c i : Nat) (hrow : w.ownsRow base 65 6 (.slice (some ⟨g, 0, none⟩) n c) n (xrK.all vs)) (hi : i < n) (hn : n ≤ 4) :
    Calls Try.prog 37 #[.slice (some ⟨g, 0, none⟩) n c, .int .i64 i, .int .i64 ((i : Int) + 1)] w fun e w' => e = .returned (.slice (some ⟨g, 0, none⟩) (n - 1) c) ∧ w'.ownsRow base 65 6 (.slice (some ⟨g, 0, none⟩) (n - 1) c) (n - 1) (xrK.all (vs.eraseIdx i)) ∧ w.grownBy w' (some g) := by
  by_cases h : c = i + 1
  · subst h
    obtain rfl : n = i + 1 := by have := (RowK.own_cap hrow).1; omega
    exact exdel_eq g i hrow hn
  · exact exdel_ne g c i hrow hi hn h
end
/-- What is left behind a call of a table: its row is the same block, or a new one. -/
def RowFrom (w : World) (v v' : Value) : Prop := ∀ k, v'.ownBlock = some k → v.ownBlock = some k ∨ w.heap.size ≤ k
set_option maxHeartbeats 2000000 in
theorem exend_f {tb : Nat} {v : Value} {now : Int} {vs : List Xr} {w : World} (h : TbAt w tb v now vs) (i : Nat) (hi : i < vs.length) : Calls Try.prog 32 #[.pointer (some ⟨tb, 0, none⟩), .int .i64 i] w fun e w' => e = .returned (.tuple #[]) ∧ ∃ v', TbAt w' tb v' now (vs.eraseIdx i) ∧ v'.ownBlock = v.ownBlock ∧ Fx tb v.ownBlock w w' := by
  obtain ⟨A, c, rfl, hc, hm, hah, hg⟩ := h.open_
  have hfew := h.few
  have c0 := h.cell0
  have hlt := h.lt
  have hA : ∃ g, A = some ⟨g, 0, none⟩ := by
    obtain ⟨b, off, e, _⟩ := hah.place (by omega)
    obtain ⟨g, e2, _⟩ := hg _ e
    exact ⟨g, by rw [e, e2]⟩
  obtain ⟨g, rfl⟩ := hA
  have hne := h.row_ne
  have hcall := exdel_f g c i h.row hi hfew
  have hel : (vs.eraseIdx i).length = vs.length - 1 := by rw [List.length_eraseIdx, if_pos hi]
  have hgood : XGood ((vs.eraseIdx i).map Xr.q) := by
    have hs : ((vs.eraseIdx i).map Xr.q).Sublist (vs.map Xr.q) := (List.eraseIdx_sublist _ _).map _
    exact ⟨Nat.le_trans hs.length_le h.good.few, fun q hq => h.good.ok q (hs.subset hq), h.good.one.sublist hs⟩
  have HH := Lib.hid (And.intro h (And.intro hel hgood))
  have hiI : (i : Int) < vs.length := by omega
  have hw1 : IntKind.i64.wrap ((i : Int) + 1) = (i : Int) + 1 := by rw [IntKind.wrap_i64]; omega
  have hne' : tb ≠ g := fun e => hne (by rw [e]; rfl)
  have HC := Lib.hid hcall
  clear h hah hg hcall hel hgood hne
  obtain ⟨n, hn⟩ : ∃ n, vs.length = n := ⟨_, rfl⟩
  have HN := Lib.hid hn
  rw [hn] at c0 hfew hiI hc hi
  clear hn
  go_enter Try.func32, Try.ntmps32
  go_wp2_with fail
  rw [← HN.out]
  refine HC.out.mono ?_
  rintro e w1 ⟨rfl, o1, g1⟩
  rw [HN.out] at o1 ⊢
  have hb1 := (g1.block tb hlt (fun e => hne' (by simpa using e))).trans HH.out.1.blk
  have d0 : w1.cell? ⟨tb, 0, none⟩ = some (.slice (some ⟨g, 0, none⟩) n c) := by rw [cell_of_row _ _ _ _ _ _ hb1, HN.out]; rfl
  have d1 : w1.frozen? ⟨tb, 0, none⟩ = false := by simp [World.frozen?, hb1]
  have H1 := Lib.hid (And.intro o1 (And.intro g1 hb1))
  clear o1 g1 hb1
  go_wp2
  go_end0
  have hst := Fx.store (tb := tb) w1 0 (.slice (some ⟨g, 0, none⟩) (n - 1) c)
  have hfx : Fx tb (Value.slice (some ⟨g, 0, none⟩) vs.length c).ownBlock w _ := (Fx.grown H1.out.2.1).trans hst.wide
  refine ⟨rfl, _, ⟨heap_setCell_same w1 tb 0 _ 61 _ H1.out.2.2, ?_, fun s hs => ?_, HH.out.2.2, HH.out.1.nw⟩, rfl, hfx⟩
  · rw [HH.out.2.1, HN.out]
    exact hst.row_ H1.out.1 (by simpa [Value.ownBlock] using fun e => hne' e.symm) (own_no _)
  · exact (HH.out.1.each s (List.mem_of_mem_eraseIdx hs)).fx hfx HH.out.1.blk HH.out.1.row
end Go.Proofs.Ytkhikpbchimodaa
