/-
  The law FsmOne.
-/
import Derived.Test.YtcaipmljlhjlcaaDoorFsEdgesLaw
import Derived.Test.YtcaipmljlhjlcaaDoorFsWalksLaw
namespace Go.Proofs.YtcaipmljlhjlcaaDoor
open Go.RowKit
set_option maxRecDepth 100000
set_option linter.unusedVariables false
set_option linter.unusedSimpArgs false
theorem Es_nodup : Es.Nodup := by decide +kernel
theorem hit_iff {st ev rs : Int} {s : Ed} (h : hitE st ev rs s = true) : s.fr = st ∧ s.ev = ev ∧ (ev ≠ 3 ∨ s.rs = rs) := by
  unfold hitE at h
  simp only [Bool.and_eq_true, Bool.or_eq_true, beq_iff_eq, bne_iff_ne, ne_eq] at h
  exact h
theorem hit_two {st ev rs : Int} {s t : Ed} (hs : s ∈ Es) (ht : t ∈ Es) (h1 : hitE st ev rs s = true) (h2 : hitE st ev rs t = true) : s = t := by
  obtain ⟨a, b, c⟩ := hit_iff h1
  obtain ⟨a', b', c'⟩ := hit_iff h2
  refine Es_one s hs t ht (by rw [a, a']) (by rw [b, b']) ?_
  rcases c with c | c
  · exact .inl (by rw [b]; exact c)
  · rcases c' with c' | c'
    · exact .inl (by rw [b]; exact c')
    · exact .inr (by rw [c, c'])
/-- How many have been met. -/
def CntAt (st ev rs : Int) (j : Nat) (n : Nat) : Prop := (n = 0 ∧ ∀ (i : Nat) (t : Ed), i < j → Es[i]? = some t → hitE st ev rs t = false) ∨ (n = 1 ∧ ∃ (i : Nat) (t : Ed), i < j ∧ Es[i]? = some t ∧ hitE st ev rs t = true)
theorem CntAt.miss {st ev rs : Int} {j n : Nat} {s : Ed} (h : CntAt st ev rs j n) (hs : Es[j]? = some s) (hh : hitE st ev rs s = false) : CntAt st ev rs (j + 1) n := by
  rcases h with ⟨h1, h2⟩ | ⟨h1, i, t, hi, ht, h2⟩
  · exact .inl ⟨h1, hit_more h2 hs hh⟩
  · exact .inr ⟨h1, i, t, by omega, ht, h2⟩
theorem CntAt.hit {st ev rs : Int} {j n : Nat} {s : Ed} (h : CntAt st ev rs j n) (hs : Es[j]? = some s) (hh : hitE st ev rs s = true) : n = 0 ∧ CntAt st ev rs (j + 1) 1 ∧ nextQ st ev rs = some s := by
  rcases h with ⟨h1, h2⟩ | ⟨h1, i, t, hi, ht, h2⟩
  · exact ⟨h1, .inr ⟨rfl, j, s, by omega, hs, hh⟩, nextQ_hit h2 hs hh⟩
  · exfalso
    have e := hit_two (List.mem_of_getElem? ht) (List.mem_of_getElem? hs) h2 hh
    subst e
    obtain ⟨hil, e1⟩ := List.getElem?_eq_some_iff.1 ht
    obtain ⟨hjl, e2⟩ := List.getElem?_eq_some_iff.1 hs
    exact (List.pairwise_iff_getElem.1 Es_nodup) i j hil hjl hi (e1.trans e2.symm)
theorem CntAt.fin {st ev rs : Int} {n : Nat} (h : CntAt st ev rs 17 n) : (n = 0 ∧ nextQ st ev rs = none) ∨ (n = 1 ∧ ∃ s, nextQ st ev rs = some s) := by
  rcases h with ⟨h1, h2⟩ | ⟨h1, i, t, hi, ht, h2⟩
  · exact .inl ⟨h1, nextQ_miss h2⟩
  · refine .inr ⟨h1, ?_⟩
    cases hn : nextQ st ev rs with
    | none =>
      have := List.find?_eq_none.1 hn t (List.mem_of_getElem? ht)
      exact absurd h2 this
    | some s => exact ⟨s, rfl⟩
set_option maxHeartbeats 8000000 in
theorem fone_law (st ev rs : Int) (w : World) (hT : Tb w) : Calls Tryd.prog 6 #[.int .i64 st, .int .i64 ev, .int .i64 rs] w fun e w' => e = .returned (.bool true) ∧ Below w.heap.size w w' := by
  have ha := Lib.hid (alive22_f w hT)
  have HT := Lib.hid hT
  have HN := Lib.hid (fun (W : World) (h : Tb W) => next_f st ev rs W h)
  have HE := Lib.hid (fun (W : World) (h : Tb W) => edges_f W h)
  have HM := Lib.hid (fun (to th : Int) (W : World) (h : Tb W) => may_f st 0 to th W h)
  clear hT
  go_enter Tryd.func6, Tryd.ntmps6
  go_wp2_with fail
  refine ha.out.mono ?_
  rintro e w1 ⟨rfl, hb1⟩
  have H1 := Lib.hid (And.intro (HT.out.up hb1) hb1)
  clear hb1
  try dsimp only
  go_wp2_with fail
  refine (HE.out w1 H1.out.1).mono ?_
  rintro e w4 ⟨A, c, rfl, hown, hbel⟩
  have hat := edges_at hown
  obtain ⟨b, off, rfl, hbb, _⟩ := hat.place (by decide)
  have H4 := Lib.hid (And.intro hat (H1.out.2.trans (hbel.mono H1.out.2.size)))
  clear hown hat hbel hbb
  try dsimp only
  go_wp2
  go_loopw [7, 18] (fun v7 v18 ws => ∃ j n : Nat, j ≤ 17 ∧ n ≤ 1 ∧ v18 = .int .i64 (j : Int) ∧ v7 = .int .i64 (n : Int) ∧ Aside (CntAt st ev rs j n ∧ Below w4.heap.size w4 ws)) (fun _ v18 _ => 17 - (intOf v18).toNat)
  case atStart => exact ⟨0, 0, by decide, by decide, rfl, rfl, (show Aside _ from ⟨.inl ⟨rfl, fun i t hi => absurd hi (Nat.not_lt_zero _)⟩, Below.refl _ _⟩)⟩
  case round =>
    obtain ⟨j, n, hj, hn, rfl, rfl, hrel⟩ := hrel
    obtain ⟨hcn, hbw⟩ := hrel.out
    clear hrel
    have hbe := H4.out.2.trans (hbw.mono H4.out.2.size)
    by_cases hjl : j < 17
    · obtain ⟨s, hs⟩ := H4.out.1.get hjl
      have hr := (H4.out.1.below hbw).range hs
      replace hr : wr.rangeAt b (off + j * 4) s.vals := hr
      obtain ⟨x1, x2, x3, x4⟩ := s
      have hc0 : wr.cell? ⟨b, off + j * 4, none⟩ = some (.int .i64 x1) := hr 0 _ rfl
      have hc1 : wr.cell? ⟨b, off + j * 4 + 1, none⟩ = some (.int .i64 x2) := hr 1 _ rfl
      have hc2 : wr.cell? ⟨b, off + j * 4 + 2, none⟩ = some (.int .i64 x3) := hr 2 _ rfl
      have hc3 : wr.cell? ⟨b, off + j * 4 + 3, none⟩ = some (.int .i64 x4) := hr 3 _ rfl
      have hjI : (j : Int) < 17 := by omega
      have HX := Lib.hid (And.intro hcn (And.intro hs (And.intro hbw hbe)))
      clear hcn hs hbw hbe hr
      by_cases h1 : x2 = st
      · by_cases h2 : x1 = ev
        · by_cases h3 : x1 = 3
          · by_cases h4 : x4 = rs
            · subst h1 h2 h4 h3
              have hhi : hitE x2 3 x4 ⟨3, x2, x3, x4⟩ = true := by unfold hitE; simp 
              obtain ⟨rfl, hcn2, hnx⟩ := HX.out.1.hit HX.out.2.1 hhi
              have hmm := may_of (rs := 0) (List.mem_of_getElem? HX.out.2.1) (by have := Es_fr _ (List.mem_of_getElem? HX.out.2.1); dsimp only at this; show isP x2 0 = true; exact decide_eq_true (by omega))
              dsimp only at hmm
              have HM' := Lib.hid (fun (W : World) (h : Tb W) => by have := HM.out x3 x4 W h; rw [hmm] at this; exact this)
              have hneq := neq_ed 3 x2 x3 x4
              have HN' := Lib.hid (fun (W : World) (h : Tb W) => by have := HN.out W h; rw [hnx] at this; exact this)
              have HC := Lib.hid hcn2
              clear hhi hcn2 hnx hmm
              go_wp2_with fail
              obtain ⟨U, hU⟩ : ∃ U, wr.alloc (.cells #[.int .i64 3, .int .i64 x2, .int .i64 x3, .int .i64 x4] 24) = U := ⟨_, rfl⟩
              rw [hU]
              have hbx : U.heap[wr.heap.size]? = some (.cells #[.int .i64 3, .int .i64 x2, .int .i64 x3, .int .i64 x4] 24) := by rw [← hU]; exact heap_alloc_new wr _
              have hbU : Below w4.heap.size w4 U := by rw [← hU]; exact HX.out.2.2.1.trans ((alloc_below wr _).mono HX.out.2.2.1.size)
              have hlU : wr.heap.size < U.heap.size := by rw [← hU, alloc_size]; omega
              have HU := Lib.hid (And.intro hbx (And.intro hbU hlU))
              clear hbx hbU hlU hU
              refine (HN'.out U (HT.out.up (H4.out.2.trans (HU.out.2.1.mono H4.out.2.size)))).mono ?_
              rintro e w5 ⟨rfl, hb5⟩
              have hx5 : w5.heap[wr.heap.size]? = some (.cells #[.int .i64 3, .int .i64 x2, .int .i64 x3, .int .i64 x4] 24) := by rw [hb5.block _ HU.out.2.2]; exact HU.out.1
              have p0 : w5.cell? ⟨wr.heap.size, 0, none⟩ = some (.int .i64 3) := by rw [cell_of_row _ _ _ _ _ _ hx5]; rfl
              have p1 : w5.cell? ⟨wr.heap.size, 1, none⟩ = some (.int .i64 x2) := by rw [cell_of_row _ _ _ _ _ _ hx5]; rfl
              have p2 : w5.cell? ⟨wr.heap.size, 2, none⟩ = some (.int .i64 x3) := by rw [cell_of_row _ _ _ _ _ _ hx5]; rfl
              have p3 : w5.cell? ⟨wr.heap.size, 3, none⟩ = some (.int .i64 x4) := by rw [cell_of_row _ _ _ _ _ _ hx5]; rfl
              have pl := World.block_lt_of_cell? w5 ⟨wr.heap.size, 0, none⟩ p0
              have H5 := Lib.hid (HU.out.2.1.trans (hb5.mono HU.out.2.1.size))
              clear hb5 hx5
              try dsimp only [edOf, Ed.vals, Option.isSome]
              go_wp2_with fail
              have hb6 := H5.out.trans ((alloc_below w5 (.cells #[.int .i64 3, .int .i64 x2, .int .i64 x3, .int .i64 x4] 24)).mono H5.out.size)
              refine (HM'.out _ (HT.out.up (H4.out.2.trans (hb6.mono H4.out.2.size)))).mono ?_
              rintro e w7 ⟨rfl, hb7⟩
              have H7 := Lib.hid (hb6.trans (hb7.mono hb6.size))
              clear hb6 hb7
              try dsimp only
              go_wp2
              go_roundw
              case rel => exact ⟨j + 1, 1, by omega, by decide, by go_num, rfl, (show Aside _ from ⟨HC.out, H7.out⟩)⟩
              case measure => simp [intOf]; omega
            · subst h1 h2 h3
              have hmi : hitE x2 3 rs ⟨3, x2, x3, x4⟩ = false := by unfold hitE; simp [h4]
              have HMI := Lib.hid hmi
              clear hmi
              go_wp2
              go_roundw
              case rel => exact ⟨j + 1, n, by omega, by omega, by go_num, rfl, (show Aside _ from ⟨HX.out.1.miss HX.out.2.1 HMI.out, HX.out.2.2.1.trans ((alloc_below wr _).mono HX.out.2.2.1.size)⟩)⟩
              case measure => simp [intOf]; omega
          · subst h1 h2
            have hhi : hitE x2 x1 rs ⟨x1, x2, x3, x4⟩ = true := by unfold hitE; simp [h3]
            obtain ⟨rfl, hcn2, hnx⟩ := HX.out.1.hit HX.out.2.1 hhi
            have hmm := may_of (rs := 0) (List.mem_of_getElem? HX.out.2.1) (by have := Es_fr _ (List.mem_of_getElem? HX.out.2.1); dsimp only at this; show isP x2 0 = true; exact decide_eq_true (by omega))
            dsimp only at hmm
            have HM' := Lib.hid (fun (W : World) (h : Tb W) => by have := HM.out x3 x4 W h; rw [hmm] at this; exact this)
            have hneq := neq_ed x1 x2 x3 x4
            have HN' := Lib.hid (fun (W : World) (h : Tb W) => by have := HN.out W h; rw [hnx] at this; exact this)
            have HC := Lib.hid hcn2
            clear hhi hcn2 hnx hmm
            go_wp2_with fail
            obtain ⟨U, hU⟩ : ∃ U, wr.alloc (.cells #[.int .i64 x1, .int .i64 x2, .int .i64 x3, .int .i64 x4] 24) = U := ⟨_, rfl⟩
            rw [hU]
            have hbx : U.heap[wr.heap.size]? = some (.cells #[.int .i64 x1, .int .i64 x2, .int .i64 x3, .int .i64 x4] 24) := by rw [← hU]; exact heap_alloc_new wr _
            have hbU : Below w4.heap.size w4 U := by rw [← hU]; exact HX.out.2.2.1.trans ((alloc_below wr _).mono HX.out.2.2.1.size)
            have hlU : wr.heap.size < U.heap.size := by rw [← hU, alloc_size]; omega
            have HU := Lib.hid (And.intro hbx (And.intro hbU hlU))
            clear hbx hbU hlU hU
            refine (HN'.out U (HT.out.up (H4.out.2.trans (HU.out.2.1.mono H4.out.2.size)))).mono ?_
            rintro e w5 ⟨rfl, hb5⟩
            have hx5 : w5.heap[wr.heap.size]? = some (.cells #[.int .i64 x1, .int .i64 x2, .int .i64 x3, .int .i64 x4] 24) := by rw [hb5.block _ HU.out.2.2]; exact HU.out.1
            have p0 : w5.cell? ⟨wr.heap.size, 0, none⟩ = some (.int .i64 x1) := by rw [cell_of_row _ _ _ _ _ _ hx5]; rfl
            have p1 : w5.cell? ⟨wr.heap.size, 1, none⟩ = some (.int .i64 x2) := by rw [cell_of_row _ _ _ _ _ _ hx5]; rfl
            have p2 : w5.cell? ⟨wr.heap.size, 2, none⟩ = some (.int .i64 x3) := by rw [cell_of_row _ _ _ _ _ _ hx5]; rfl
            have p3 : w5.cell? ⟨wr.heap.size, 3, none⟩ = some (.int .i64 x4) := by rw [cell_of_row _ _ _ _ _ _ hx5]; rfl
            have pl := World.block_lt_of_cell? w5 ⟨wr.heap.size, 0, none⟩ p0
            have H5 := Lib.hid (HU.out.2.1.trans (hb5.mono HU.out.2.1.size))
            clear hb5 hx5
            try dsimp only [edOf, Ed.vals, Option.isSome]
            go_wp2_with fail
            have hb6 := H5.out.trans ((alloc_below w5 (.cells #[.int .i64 x1, .int .i64 x2, .int .i64 x3, .int .i64 x4] 24)).mono H5.out.size)
            refine (HM'.out _ (HT.out.up (H4.out.2.trans (hb6.mono H4.out.2.size)))).mono ?_
            rintro e w7 ⟨rfl, hb7⟩
            have H7 := Lib.hid (hb6.trans (hb7.mono hb6.size))
            clear hb6 hb7
            try dsimp only
            go_wp2
            go_roundw
            case rel => exact ⟨j + 1, 1, by omega, by decide, by go_num, rfl, (show Aside _ from ⟨HC.out, H7.out⟩)⟩
            case measure => simp [intOf]; omega
        · subst h1
          have hmi : hitE x2 ev rs ⟨x1, x2, x3, x4⟩ = false := by unfold hitE; simp [h2]
          have HMI := Lib.hid hmi
          clear hmi
          go_wp2
          go_roundw
          case rel => exact ⟨j + 1, n, by omega, by omega, by go_num, rfl, (show Aside _ from ⟨HX.out.1.miss HX.out.2.1 HMI.out, HX.out.2.2.1.trans ((alloc_below wr _).mono HX.out.2.2.1.size)⟩)⟩
          case measure => simp [intOf]; omega
      · have hmi : hitE st ev rs ⟨x1, x2, x3, x4⟩ = false := by unfold hitE; simp [h1]
        have HMI := Lib.hid hmi
        clear hmi
        go_wp2
        go_roundw
        case rel => exact ⟨j + 1, n, by omega, by omega, by go_num, rfl, (show Aside _ from ⟨HX.out.1.miss HX.out.2.1 HMI.out, HX.out.2.2.1.trans ((alloc_below wr _).mono HX.out.2.2.1.size)⟩)⟩
        case measure => simp [intOf]; omega
    · obtain rfl : j = 17 := by omega
      have hf := hcn.fin
      have HW := Lib.hid hbe
      clear hcn hbw
      rcases hf with ⟨rfl, hf⟩ | ⟨rfl, s, hf⟩
      · rw [hf] at HN
        have hb := hbe
        clear hbe
        go_wp2_with fail
        refine (HN.out wr (HT.out.up hb)).mono ?_
        rintro e w5 ⟨rfl, hb5⟩
        have H5 := Lib.hid (hb.trans (hb5.mono hb.size))
        clear hb5
        try dsimp only [edOf, Ed.vals, Option.isSome]
        go_wp2
        go_ret
        exact ⟨rfl, H5.out.trans ((alloc_below w5 _).mono H5.out.size)⟩
      · rw [hf] at HN
        have hb := hbe
        clear hbe
        obtain ⟨x1, x2, x3, x4⟩ := s
        go_wp2_with fail
        refine (HN.out wr (HT.out.up hb)).mono ?_
        rintro e w5 ⟨rfl, hb5⟩
        have H5 := Lib.hid (hb.trans (hb5.mono hb.size))
        clear hb5
        try dsimp only [edOf, Ed.vals, Option.isSome]
        go_wp2
        go_ret
        exact ⟨rfl, H5.out.trans ((alloc_below w5 _).mono H5.out.size)⟩
end Go.Proofs.YtcaipmljlhjlcaaDoor
