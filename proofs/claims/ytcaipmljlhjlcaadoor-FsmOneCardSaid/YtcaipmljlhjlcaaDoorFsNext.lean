/-
  An event's edge; the closures that look for one; the rows searched.
-/
import Derived.Test.YtcaipmljlhjlcaaDoorFsEdges
import Derived.Test.YtcaipmljlhjlcaaDoorMem
namespace Go.Proofs.YtcaipmljlhjlcaaDoor
open Go.RowKit
set_option maxRecDepth 100000
set_option linter.unusedVariables false
set_option linter.unusedSimpArgs false
def FnE (g : Nat) : Prop := ∀ args w, (callFunc g args).run Tryd.prog w = .ok (.enter g args) w
theorem fn_may1 : FnE 20 := enters_of Tryd.func20 (by kernel_rfl) rfl
theorem fn_path1 : FnE 23 := enters_of Tryd.func23 (by kernel_rfl) rfl
def isP (st rs : Int) : Bool := decide (0 ≤ st ∧ st < 4 ∧ 0 ≤ rs ∧ rs < 10)
theorem ispair_f (st rs : Int) (w : World) : Calls Tryd.prog 18 #[.int .i64 st, .int .i64 rs] w fun e w' => e = .returned (.bool (isP st rs)) ∧ w' = w := by
  unfold isP
  by_cases h1 : 0 ≤ st
  · by_cases h2 : st < 4
    · by_cases h3 : 0 ≤ rs
      · by_cases h4 : rs < 10
        · rw [decide_eq_true (show 0 ≤ st ∧ st < 4 ∧ 0 ≤ rs ∧ rs < 10 from ⟨h1, h2, h3, h4⟩)]
          go_enter Tryd.func18, Tryd.ntmps18
          go_wp2
          go_ret
          exact ⟨rfl, rfl⟩
        · rw [decide_eq_false (by omega)]
          go_enter Tryd.func18, Tryd.ntmps18
          go_wp2
          go_ret
          exact ⟨rfl, rfl⟩
      · rw [decide_eq_false (by omega)]
        go_enter Tryd.func18, Tryd.ntmps18
        go_wp2
        go_ret
        exact ⟨rfl, rfl⟩
    · rw [decide_eq_false (by omega)]
      go_enter Tryd.func18, Tryd.ntmps18
      go_wp2
      go_ret
      exact ⟨rfl, rfl⟩
  · rw [decide_eq_false (by omega)]
    go_enter Tryd.func18, Tryd.ntmps18
    go_wp2
    go_ret
    exact ⟨rfl, rfl⟩
/-- Is this the event's edge? -/
def hitE (st ev rs : Int) (s : Ed) : Bool := s.fr == st && (s.ev == ev && (ev != 3 || s.rs == rs))
def nextQ (st ev rs : Int) : Option Ed := Es.find? (hitE st ev rs)
def edOf : Option Ed → Ed | some s => s | none => ⟨0, 0, 0, 0⟩
theorem nextQ_hit {st ev rs : Int} {k : Nat} {s : Ed} (h : ∀ (j : Nat) (t : Ed), j < k → Es[j]? = some t → hitE st ev rs t = false) (hs : Es[k]? = some s) (hp : hitE st ev rs s = true) : nextQ st ev rs = some s := by
  unfold nextQ
  rw [List.find?_eq_some_iff_getElem]
  obtain ⟨hk, rfl⟩ := List.getElem?_eq_some_iff.1 hs
  exact ⟨hp, k, hk, rfl, fun j hj => by rw [h j _ hj (List.getElem?_eq_getElem (by omega))]; rfl⟩
theorem nextQ_miss {st ev rs : Int} (h : ∀ (j : Nat) (t : Ed), j < 17 → Es[j]? = some t → hitE st ev rs t = false) : nextQ st ev rs = none := by
  unfold nextQ
  rw [List.find?_eq_none]
  intro x hx
  obtain ⟨j, hj⟩ := List.mem_iff_getElem?.1 hx
  rw [h j x (by have := (List.getElem?_eq_some_iff.1 hj).1; rw [Es_len] at this; exact this) hj]
  decide
theorem hit_more {st ev rs : Int} {k : Nat} {s : Ed} (h : ∀ (j : Nat) (t : Ed), j < k → Es[j]? = some t → hitE st ev rs t = false) (hs : Es[k]? = some s) (hh : hitE st ev rs s = false) : ∀ (j : Nat) (t : Ed), j < k + 1 → Es[j]? = some t → hitE st ev rs t = false := by
  intro j t hj ht
  by_cases e : j = k
  · subst e
    rw [ht] at hs
    obtain rfl := Option.some.inj hs
    exact hh
  · exact h j t (by omega) ht
theorem results_ct {P : Program} {fn : Func} {p u : Tmp} {ty : TypeId} (h : fn.results = #[.cell p ty, .tmp u]) (tmps : Array Value) (w : World) (b o : Nat) (cs : List Value) (d : TypeDesc)
    (hp : tmps.getD p undef = .pointer (some ⟨b, o, none⟩)) (hc : w.rangeAt b o cs) (hu : P.underlying ty = some d) (hd : d.isRow = true) (hi : (P.info? ty).map (·.size) = some cs.length) :
    (results fn tmps).run P w = .ok (.tuple #[.agg cs.toArray, tmps.getD u undef]) w := by
  have hp' : tmps[p]?.getD undef = .pointer (some ⟨b, o, none⟩) := by simpa using hp
  simp [results, h, hp', asAddr, run_loadVar_mid w b o ty cs d hc hu hd hi]
/-- Four cells of a block of four, written anew. -/
theorem put4 {w : World} {g : Nat} {x0 x1 x2 x3 a b c d : Value} {t : TypeId} {fr : Nat × Nat} (h : w.heap[g]? = some (.cells #[x0, x1, x2, x3] t fr)) :
    ((((w.setCell ⟨g, 0, none⟩ a).setCell ⟨g, 1, none⟩ b).setCell ⟨g, 2, none⟩ c).setCell ⟨g, 3, none⟩ d).rangeAt g 0 [a, b, c, d] := by
  have k0 : w.cell? ⟨g, 0, none⟩ = some x0 := by rw [cell_of_row _ _ _ _ _ _ h]; rfl
  have k1 : w.cell? ⟨g, 1, none⟩ = some x1 := by rw [cell_of_row _ _ _ _ _ _ h]; rfl
  have k2 : w.cell? ⟨g, 2, none⟩ = some x2 := by rw [cell_of_row _ _ _ _ _ _ h]; rfl
  have k3 : w.cell? ⟨g, 3, none⟩ = some x3 := by rw [cell_of_row _ _ _ _ _ _ h]; rfl
  have ne : ∀ {i j : Nat}, i ≠ j → (⟨g, i, none⟩ : Addr) ≠ ⟨g, j, none⟩ := fun hij e => hij (by injection e)
  intro j v hj
  rcases j with _ | _ | _ | _ | j
  · obtain rfl := Option.some.inj hj
    rw [World.cell?_setCell_other _ _ _ _ (ne (by omega)), World.cell?_setCell_other _ _ _ _ (ne (by omega)), World.cell?_setCell_other _ _ _ _ (ne (by omega))]
    exact World.cell?_setCell_same _ _ _ k0
  · obtain rfl := Option.some.inj hj
    rw [World.cell?_setCell_other _ _ _ _ (ne (by omega)), World.cell?_setCell_other _ _ _ _ (ne (by omega))]
    exact World.cell?_setCell_same _ _ _ (by rw [World.cell?_setCell_other _ _ _ _ (ne (by omega))]; exact k1)
  · obtain rfl := Option.some.inj hj
    rw [World.cell?_setCell_other _ _ _ _ (ne (by omega))]
    exact World.cell?_setCell_same _ _ _ (by rw [World.cell?_setCell_other _ _ _ _ (ne (by omega)), World.cell?_setCell_other _ _ _ _ (ne (by omega))]; exact k2)
  · obtain rfl := Option.some.inj hj
    exact World.cell?_setCell_same _ _ _ (by rw [World.cell?_setCell_other _ _ _ _ (ne (by omega)), World.cell?_setCell_other _ _ _ _ (ne (by omega)), World.cell?_setCell_other _ _ _ _ (ne (by omega))]; exact k3)
  · simp at hj
theorem put4_below {u w : World} {g B : Nat} {a b c d : Value} (h : Below B u w) (hB : B ≤ g) : Below B u ((((w.setCell ⟨g, 0, none⟩ a).setCell ⟨g, 1, none⟩ b).setCell ⟨g, 2, none⟩ c).setCell ⟨g, 3, none⟩ d) :=
  (((h.setCell (p := ⟨g, 0, none⟩) hB a).setCell (p := ⟨g, 1, none⟩) hB b).setCell (p := ⟨g, 2, none⟩) hB c).setCell (p := ⟨g, 3, none⟩) hB d
set_option maxHeartbeats 4000000 in
theorem next_f (st ev rs : Int) (w : World) (hT : Tb w) : Calls Tryd.prog 8 #[.int .i64 st, .int .i64 ev, .int .i64 rs] w fun e w' => e = .returned (.tuple #[.agg (edOf (nextQ st ev rs)).vals.toArray, .bool (nextQ st ev rs).isSome]) ∧ Below w.heap.size w w' := by
  obtain ⟨W, hW⟩ : ∃ W, w.alloc (.cells #[.int .i64 0, .int .i64 0, .int .i64 0, .int .i64 0] 24) = W := ⟨_, rfl⟩
  obtain ⟨g, hg⟩ : ∃ g, w.heap.size = g := ⟨_, rfl⟩
  have hb0 : Below g w W := by rw [← hW, ← hg]; exact alloc_below w _
  have hblk : W.heap[g]? = some (.cells #[.int .i64 0, .int .i64 0, .int .i64 0, .int .i64 0] 24) := by rw [← hW, ← hg]; exact heap_alloc_new w _
  have hgs : g < W.heap.size := by rw [← hW, alloc_size]; omega
  have HE := Lib.hid (edges_f W (hT.below hb0 (by rw [← hg]; exact hT.1)))
  have HB := Lib.hid (And.intro hb0 (And.intro hblk hgs))
  rw [hg]
  clear hb0 hblk hgs hT
  go_enter Tryd.func8, Tryd.ntmps8
  go_wp2_with fail
  refine HE.out.mono ?_
  rintro e w1 ⟨A, c, rfl, hown, hbel⟩
  try dsimp only
  go_wp2
  clear hW
  obtain ⟨A', c', e0, hc1, hc2, hat, hA⟩ := RowK.At.of_own hown
  injection e0 with e1 e2 e3
  subst e1 e3
  obtain ⟨b, off, rfl, hbb, _⟩ := hat.place (by decide)
  have H1 := Lib.hid (And.intro hat hbel)
  clear hown hbel hat hA hbb
  go_loopw [12] (fun v12 wr => ∃ k : Nat, k ≤ 17 ∧ v12 = .int .i64 (k : Int) ∧ Aside (Below w1.heap.size w1 wr ∧ ∀ (j : Nat) (t : Ed), j < k → Es[j]? = some t → hitE st ev rs t = false)) (fun v12 _ => 17 - (intOf v12).toNat)
  case atStart => exact ⟨0, by decide, rfl, (show Aside _ from ⟨Below.refl _ _, fun j t hj => absurd hj (Nat.not_lt_zero _)⟩)⟩
  case round =>
    obtain ⟨k, hk, rfl, hrel⟩ := hrel
    obtain ⟨hbel, hno⟩ := hrel.out
    clear hrel
    have HN := Lib.hid hno
    clear hno
    have hbW := H1.out.2.trans (hbel.mono H1.out.2.size)
    have hbG : wr.heap[g]? = some (.cells #[.int .i64 0, .int .i64 0, .int .i64 0, .int .i64 0] 24) := by rw [hbW.block g HB.out.2.2]; exact HB.out.2.1
    have hfin : Below g w wr := HB.out.1.trans (hbW.mono (Nat.le_of_lt HB.out.2.2))
    have hgw : g < wr.heap.size := Nat.lt_of_lt_of_le HB.out.2.2 hbW.size
    by_cases hlt : k < 17
    · obtain ⟨s, hs⟩ := H1.out.1.get hlt
      have hr := (H1.out.1.below hbel).range hs
      replace hr : wr.rangeAt b (off + k * 4) s.vals := hr
      obtain ⟨e1, e2, e3, e4⟩ := s
      have hc0 : wr.cell? ⟨b, off + k * 4, none⟩ = some (.int .i64 e1) := hr 0 _ rfl
      have hc1 : wr.cell? ⟨b, off + k * 4 + 1, none⟩ = some (.int .i64 e2) := hr 1 _ rfl
      have hc2 : wr.cell? ⟨b, off + k * 4 + 2, none⟩ = some (.int .i64 e3) := hr 2 _ rfl
      have hc3 : wr.cell? ⟨b, off + k * 4 + 3, none⟩ = some (.int .i64 e4) := hr 3 _ rfl
      have hltI : (k : Int) < 17 := by omega
      have HS := Lib.hid hs
      have HW := Lib.hid (And.intro hbel hfin)
      clear hs hbel hbW hfin hr
      by_cases h1 : e2 = st
      · subst h1
        by_cases h2 : e1 = ev
        · subst h2
          by_cases h3 : e1 = 3
          · subst h3
            by_cases h4 : e4 = rs
            · subst h4
              have hh : hitE e2 3 e4 ⟨3, e2, e3, e4⟩ = true := by unfold hitE; simp
              have hf := nextQ_hit HN.out HS.out hh
              obtain ⟨V, hV⟩ : ∃ V, wr.alloc (.cells #[.int .i64 3, .int .i64 e2, .int .i64 e3, .int .i64 e4] 24) = V := ⟨_, rfl⟩
              have hbx : V.heap[wr.heap.size]? = some (.cells #[.int .i64 3, .int .i64 e2, .int .i64 e3, .int .i64 e4] 24) := by rw [← hV]; exact heap_alloc_new wr _
              have hbg : V.heap[g]? = some (.cells #[.int .i64 0, .int .i64 0, .int .i64 0, .int .i64 0] 24) := by rw [← hV, heap_alloc_old wr _ hgw]; exact hbG
              have x0 : V.cell? ⟨wr.heap.size, 0, none⟩ = some (.int .i64 3) := by rw [cell_of_row _ _ _ _ _ _ hbx]; rfl
              have x1 : V.cell? ⟨wr.heap.size, 1, none⟩ = some (.int .i64 e2) := by rw [cell_of_row _ _ _ _ _ _ hbx]; rfl
              have x2 : V.cell? ⟨wr.heap.size, 2, none⟩ = some (.int .i64 e3) := by rw [cell_of_row _ _ _ _ _ _ hbx]; rfl
              have x3 : V.cell? ⟨wr.heap.size, 3, none⟩ = some (.int .i64 e4) := by rw [cell_of_row _ _ _ _ _ _ hbx]; rfl
              have y0 : V.cell? ⟨g, 0, none⟩ = some (.int .i64 0) := by rw [cell_of_row _ _ _ _ _ _ hbg]; rfl
              have y1 : V.cell? ⟨g, 1, none⟩ = some (.int .i64 0) := by rw [cell_of_row _ _ _ _ _ _ hbg]; rfl
              have y2 : V.cell? ⟨g, 2, none⟩ = some (.int .i64 0) := by rw [cell_of_row _ _ _ _ _ _ hbg]; rfl
              have y3 : V.cell? ⟨g, 3, none⟩ = some (.int .i64 0) := by rw [cell_of_row _ _ _ _ _ _ hbg]; rfl
              have z0 : V.frozen? ⟨g, 0, none⟩ = false := by rw [frozen_of_row _ _ _ _ _ hbg]
              have z1 : V.frozen? ⟨g, 1, none⟩ = false := by rw [frozen_of_row _ _ _ _ _ hbg]
              have z2 : V.frozen? ⟨g, 2, none⟩ = false := by rw [frozen_of_row _ _ _ _ _ hbg]
              have z3 : V.frozen? ⟨g, 3, none⟩ = false := by rw [frozen_of_row _ _ _ _ _ hbg]
              have HV := Lib.hid (And.intro hbg (show Below g w V by rw [← hV]; exact HW.out.2.trans ((alloc_below wr _).mono (Nat.le_of_lt hgw))))
              clear hbx hbg hbG
              go_wp2
              refine bodyPost_ret (results_ct rfl _ _ g 0 _ _ rfl (put4 HV.out.1) Tryd.underlying24 rfl size_ed) rfl ?_
              exact ⟨rfl, put4_below HV.out.2 (Nat.le_refl _)⟩
            · have hh : hitE e2 3 rs ⟨3, e2, e3, e4⟩ = false := by unfold hitE; simp [h4]
              have hmiss := Lib.hid hh
              go_wp2
              go_roundw
              case rel => exact ⟨k + 1, by omega, by go_num, (show Aside _ from ⟨HW.out.1.trans (Below.mono (alloc_below wr _) HW.out.1.size), hit_more HN.out HS.out hmiss.out⟩)⟩
              case measure => simp [intOf]; omega
          · have hh : hitE e2 e1 rs ⟨e1, e2, e3, e4⟩ = true := by unfold hitE; simp [h3]
            have hf := nextQ_hit HN.out HS.out hh
            obtain ⟨V, hV⟩ : ∃ V, wr.alloc (.cells #[.int .i64 e1, .int .i64 e2, .int .i64 e3, .int .i64 e4] 24) = V := ⟨_, rfl⟩
            have hbx : V.heap[wr.heap.size]? = some (.cells #[.int .i64 e1, .int .i64 e2, .int .i64 e3, .int .i64 e4] 24) := by rw [← hV]; exact heap_alloc_new wr _
            have hbg : V.heap[g]? = some (.cells #[.int .i64 0, .int .i64 0, .int .i64 0, .int .i64 0] 24) := by rw [← hV, heap_alloc_old wr _ hgw]; exact hbG
            have x0 : V.cell? ⟨wr.heap.size, 0, none⟩ = some (.int .i64 e1) := by rw [cell_of_row _ _ _ _ _ _ hbx]; rfl
            have x1 : V.cell? ⟨wr.heap.size, 1, none⟩ = some (.int .i64 e2) := by rw [cell_of_row _ _ _ _ _ _ hbx]; rfl
            have x2 : V.cell? ⟨wr.heap.size, 2, none⟩ = some (.int .i64 e3) := by rw [cell_of_row _ _ _ _ _ _ hbx]; rfl
            have x3 : V.cell? ⟨wr.heap.size, 3, none⟩ = some (.int .i64 e4) := by rw [cell_of_row _ _ _ _ _ _ hbx]; rfl
            have y0 : V.cell? ⟨g, 0, none⟩ = some (.int .i64 0) := by rw [cell_of_row _ _ _ _ _ _ hbg]; rfl
            have y1 : V.cell? ⟨g, 1, none⟩ = some (.int .i64 0) := by rw [cell_of_row _ _ _ _ _ _ hbg]; rfl
            have y2 : V.cell? ⟨g, 2, none⟩ = some (.int .i64 0) := by rw [cell_of_row _ _ _ _ _ _ hbg]; rfl
            have y3 : V.cell? ⟨g, 3, none⟩ = some (.int .i64 0) := by rw [cell_of_row _ _ _ _ _ _ hbg]; rfl
            have z0 : V.frozen? ⟨g, 0, none⟩ = false := by rw [frozen_of_row _ _ _ _ _ hbg]
            have z1 : V.frozen? ⟨g, 1, none⟩ = false := by rw [frozen_of_row _ _ _ _ _ hbg]
            have z2 : V.frozen? ⟨g, 2, none⟩ = false := by rw [frozen_of_row _ _ _ _ _ hbg]
            have z3 : V.frozen? ⟨g, 3, none⟩ = false := by rw [frozen_of_row _ _ _ _ _ hbg]
            have HV := Lib.hid (And.intro hbg (show Below g w V by rw [← hV]; exact HW.out.2.trans ((alloc_below wr _).mono (Nat.le_of_lt hgw))))
            clear hbx hbg hbG
            go_wp2
            refine bodyPost_ret (results_ct rfl _ _ g 0 _ _ rfl (put4 HV.out.1) Tryd.underlying24 rfl size_ed) rfl ?_
            exact ⟨rfl, put4_below HV.out.2 (Nat.le_refl _)⟩
        · have hh : hitE e2 ev rs ⟨e1, e2, e3, e4⟩ = false := by unfold hitE; simp [h2]
          have hmiss := Lib.hid hh
          go_wp2
          go_roundw
          case rel => exact ⟨k + 1, by omega, by go_num, (show Aside _ from ⟨HW.out.1.trans (Below.mono (alloc_below wr _) HW.out.1.size), hit_more HN.out HS.out hmiss.out⟩)⟩
          case measure => simp [intOf]; omega
      · have hh : hitE st ev rs ⟨e1, e2, e3, e4⟩ = false := by unfold hitE; simp [h1]
        have hmiss := Lib.hid hh
        go_wp2
        go_roundw
        case rel => exact ⟨k + 1, by omega, by go_num, (show Aside _ from ⟨HW.out.1.trans (Below.mono (alloc_below wr _) HW.out.1.size), hit_more HN.out HS.out hmiss.out⟩)⟩
        case measure => simp [intOf]; omega
    · obtain rfl : k = 17 := by omega
      have hf := nextQ_miss HN.out
      have y0 : wr.cell? ⟨g, 0, none⟩ = some (.int .i64 0) := by rw [cell_of_row _ _ _ _ _ _ hbG]; rfl
      have z0 : wr.frozen? ⟨g, 0, none⟩ = false := by rw [frozen_of_row _ _ _ _ _ hbG]
      have y1 : wr.cell? ⟨g, 1, none⟩ = some (.int .i64 0) := by rw [cell_of_row _ _ _ _ _ _ hbG]; rfl
      have z1 : wr.frozen? ⟨g, 1, none⟩ = false := by rw [frozen_of_row _ _ _ _ _ hbG]
      have y2 : wr.cell? ⟨g, 2, none⟩ = some (.int .i64 0) := by rw [cell_of_row _ _ _ _ _ _ hbG]; rfl
      have z2 : wr.frozen? ⟨g, 2, none⟩ = false := by rw [frozen_of_row _ _ _ _ _ hbG]
      have y3 : wr.cell? ⟨g, 3, none⟩ = some (.int .i64 0) := by rw [cell_of_row _ _ _ _ _ _ hbG]; rfl
      have z3 : wr.frozen? ⟨g, 3, none⟩ = false := by rw [frozen_of_row _ _ _ _ _ hbG]
      have HV := Lib.hid (And.intro hbG hfin)
      clear hbG hfin hbel hbW
      go_wp2
      refine bodyPost_ret (results_ct rfl _ _ g 0 _ _ rfl (put4 HV.out.1) Tryd.underlying24 rfl size_ed) rfl ?_
      exact ⟨rfl, put4_below HV.out.2 (Nat.le_refl _)⟩
end Go.Proofs.YtcaipmljlhjlcaaDoor
