/-
  The law FsmEdges.
-/
import Derived.Test.YtcaipmljlhjlcaaDoorFsAlive
import Derived.Laws.StructEq
namespace Go.Proofs.YtcaipmljlhjlcaaDoor
open Go.RowKit
set_option maxRecDepth 100000
set_option linter.unusedVariables false
set_option linter.unusedSimpArgs false
theorem neq_ed (a b c d : Int) (w : World) : (binOp .neq 24 (.agg #[.int .i64 a, .int .i64 b, .int .i64 c, .int .i64 d]) (.agg #[.int .i64 a, .int .i64 b, .int .i64 c, .int .i64 d])).run Tryd.prog w = .ok (.bool false) w := by
  have hS : Tryd.prog.underlying 24 = some (.struct (Tryd.prog.fieldsOf 24)) := by kernel_rfl
  have hp : Tryd.prog.stoodInHeld 24 = false := by kernel_rfl
  have u2 := Tryd.underlying3
  have a2 := Tryd.isAgg3
  have z2 := Tryd.sizeOf3
  rw [run_neq_struct, show (10000 : Nat) = 9999 + 1 from rfl, run_equalIn_agg w 9999 24 _ _ hS hp]
  simp only [Program.fieldsOf, Tryd.underlying24]
  go_simp
  try simp
def lastE (j : Nat) : Ed := if j = 0 then ⟨0, 0, 0, 0⟩ else Es.getD (j - 1) ⟨0, 0, 0, 0⟩
def Later (l s : Ed) : Prop := l.ev < s.ev ∨ (s.ev = l.ev ∧ l.fr < s.fr) ∨ (s.ev = l.ev ∧ s.fr = l.fr ∧ l.rs < s.rs)
instance (l s : Ed) : Decidable (Later l s) := by unfold Later; infer_instance
theorem later_all : ∀ j : Fin 17, Later (lastE j.val) (Es.getD j.val ⟨0, 0, 0, 0⟩) := by decide +kernel
theorem later_at {j : Nat} {s : Ed} (h : Es[j]? = some s) : Later (lastE j) s := by
  have hj : j < 17 := (List.getElem?_eq_some_iff.1 h).1
  have := later_all ⟨j, hj⟩
  dsimp only at this
  rw [List.getD_eq_getElem?_getD, h] at this
  exact this
theorem last_next {j : Nat} {s : Ed} (h : Es[j]? = some s) : lastE (j + 1) = s := by
  unfold lastE
  rw [if_neg (by omega), Nat.add_sub_cancel, List.getD_eq_getElem?_getD, h]; rfl
/-- The last edge's block. -/
structure LsAt (w wr : World) (g b : Nat) (O : Option Obj) (l : Ed) : Prop where
  bel : Below w.heap.size w wr
  lt : g < wr.heap.size
  ge : w.heap.size ≤ g
  ltb : b < wr.heap.size
  ne : b ≠ g
  range : wr.rangeAt g 0 l.vals
  there : wr.there g 0 4
  row : wr.heap[b]? = O
theorem LsAt.below {w wr w' : World} {g b : Nat} {O : Option Obj} {l : Ed} (h : LsAt w wr g b O l) (hb : Below wr.heap.size wr w') : LsAt w w' g b O l where
  bel := h.bel.trans (hb.mono h.bel.size)
  lt := Nat.lt_of_lt_of_le h.lt hb.size
  ge := h.ge
  ltb := Nat.lt_of_lt_of_le h.ltb hb.size
  ne := h.ne
  range j u hj := by rw [hb.cell (p := ⟨g, 0 + j, none⟩) h.lt]; exact h.range j u hj
  there j hj := by
    rw [hb.cell (p := ⟨g, 0 + j, none⟩) h.lt, hb.frozen (p := ⟨g, 0 + j, none⟩) h.lt]
    exact h.there j hj
  row := by rw [hb.block b h.ltb]; exact h.row
theorem LsAt.put {w wr : World} {g b : Nat} {O : Option Obj} {l : Ed} (h : LsAt w wr g b O l) (e1 e2 e3 e4 : Int) :
    LsAt w ((((wr.setCell ⟨g, 0, none⟩ (.int .i64 e1)).setCell ⟨g, 1, none⟩ (.int .i64 e2)).setCell ⟨g, 2, none⟩ (.int .i64 e3)).setCell ⟨g, 3, none⟩ (.int .i64 e4)) g b O ⟨e1, e2, e3, e4⟩ where
  bel := put4_below h.bel h.ge
  lt := by rw [World.size_setCell, World.size_setCell, World.size_setCell, World.size_setCell]; exact h.lt
  ge := h.ge
  ltb := by rw [World.size_setCell, World.size_setCell, World.size_setCell, World.size_setCell]; exact h.ltb
  ne := h.ne
  range := by
    have k0 : wr.cell? ⟨g, 0, none⟩ = some _ := h.range 0 _ rfl
    have k1 : wr.cell? ⟨g, 1, none⟩ = some _ := h.range 1 _ rfl
    have k2 : wr.cell? ⟨g, 2, none⟩ = some _ := h.range 2 _ rfl
    have k3 : wr.cell? ⟨g, 3, none⟩ = some _ := h.range 3 _ rfl
    have ne : ∀ {i j : Nat}, i ≠ j → (⟨g, i, none⟩ : Addr) ≠ ⟨g, j, none⟩ := fun hij e => hij (by injection e)
    intro j v hj
    rcases j with _ | _ | _ | _ | j
    · obtain rfl := Option.some.inj hj
      rw [World.cell?_setCell_other _ _ _ _ (ne (by omega)), World.cell?_setCell_other _ _ _ _ (ne (by omega)), World.cell?_setCell_other _ _ _ _ (ne (by omega))]
      exact World.cell?_setCell_same _ _ _ k0
    · obtain rfl := Option.some.inj hj
      rw [World.cell?_setCell_other _ _ _ _ (ne (by omega)), World.cell?_setCell_other _ _ _ _ (ne (by omega))]
      exact World.cell?_setCell_same _ _ _ (by rw [World.cell?_setCell_other _ _ _ _ (ne (by omega))]; exact k1)
    · obtain rfl := Option.some.inj hj
      rw [World.cell?_setCell_other _ _ _ _ (ne (by omega))]
      exact World.cell?_setCell_same _ _ _ (by rw [World.cell?_setCell_other _ _ _ _ (ne (by omega)), World.cell?_setCell_other _ _ _ _ (ne (by omega))]; exact k2)
    · obtain rfl := Option.some.inj hj
      exact World.cell?_setCell_same _ _ _ (by rw [World.cell?_setCell_other _ _ _ _ (ne (by omega)), World.cell?_setCell_other _ _ _ _ (ne (by omega)), World.cell?_setCell_other _ _ _ _ (ne (by omega))]; exact k3)
    · simp [Ed.vals] at hj
  there := there_set (there_set (there_set (there_set h.there _ _) _ _) _ _) _ _
  row := by
    rw [Below.heap_setCell _ ⟨g, 3, none⟩ _ _ h.ne, Below.heap_setCell _ ⟨g, 2, none⟩ _ _ h.ne, Below.heap_setCell _ ⟨g, 1, none⟩ _ _ h.ne, Below.heap_setCell _ ⟨g, 0, none⟩ _ _ h.ne]
    exact h.row
set_option maxHeartbeats 8000000 in
theorem fedges_law (st ev rs : Int) (w : World) (hT : Tb w) : Calls Tryd.prog 3 #[.int .i64 st, .int .i64 ev, .int .i64 rs] w fun e w' => e = .returned (.bool true) ∧ Below w.heap.size w w' := by
  have ha := Lib.hid (alive22_f w hT)
  have HT := Lib.hid hT
  have HN := Lib.hid (fun (W : World) (h : Tb W) => next_f st ev rs W h)
  have HR := Lib.hid (fun (W : World) => rnext_f st ev rs W)
  have HE := Lib.hid (fun (W : World) (h : Tb W) => edges_f W h)
  have hq := next_eq st ev rs
  obtain ⟨o, ho⟩ : ∃ o, nextQ st ev rs = o := ⟨_, rfl⟩
  obtain ⟨⟨ra, rb, rc⟩, hr⟩ : ∃ r, rnextQ st ev rs = r := ⟨_, rfl⟩
  rw [ho] at HN hq
  rw [hr] at HR hq
  dsimp only at hq
  clear hT ho hr
  cases o with
  | none =>
    obtain rfl : rc = false := hq.1
    clear hq
    go_enter Tryd.func3, Tryd.ntmps3
    go_wp2_with fail
    refine ha.out.mono ?_
    rintro e w1 ⟨rfl, hb1⟩
    have H1 := Lib.hid (And.intro (HT.out.up hb1) hb1)
    clear hb1
    try dsimp only
    go_wp2_with fail
    refine (HN.out w1 H1.out.1).mono ?_
    rintro e w2 ⟨rfl, hb2⟩
    have H2 := Lib.hid (H1.out.2.trans (hb2.mono H1.out.2.size))
    clear hb2
    try dsimp only [edOf, Ed.vals, Option.isSome]
    go_wp2_with fail
    refine (HR.out _).mono ?_
    rintro e w' ⟨rfl, hw'⟩; rw [hw']; clear hw'
    try dsimp only [rtup]
    have hneq := neq_ed 0 0 0 0
    go_wp2_with fail
    obtain ⟨V, hV⟩ : ∃ V, (w2.alloc (.cells #[.int .i64 0, .int .i64 0, .int .i64 0, .int .i64 0] 24)).alloc (.cells #[.int .i64 0, .int .i64 0, .int .i64 0, .int .i64 0] 24) = V := ⟨_, rfl⟩
    rw [hV]
    have hs1 : (w2.alloc (.cells #[.int .i64 0, .int .i64 0, .int .i64 0, .int .i64 0] 24)).heap.size = w2.heap.size + 1 := alloc_size ..
    have hVs : V.heap.size = w2.heap.size + 2 := by rw [← hV, alloc_size, hs1]
    have hcV : Below w.heap.size w V := by rw [← hV]; exact (H2.out.trans ((alloc_below w2 _).mono H2.out.size)).trans ((alloc_below _ _).mono (by have := H2.out.size; omega))
    have hVr : V.rangeAt (w2.heap.size + 1) 0 (lastE 0).vals := by rw [← hV]; exact range_new1 w2 _ _ _ rfl
    have hVt : V.there (w2.heap.size + 1) 0 4 := by rw [← hV]; exact there_new1 w2 _ _ _ rfl
    clear hV hs1
    refine (HE.out V (HT.out.up hcV)).mono ?_
    rintro e w4 ⟨A, c, rfl, hown, hbel⟩
    obtain ⟨A', c', e0, _, _, hat, hA⟩ := RowK.At.of_own hown
    injection e0 with e1x e2x e3x
    subst e1x e3x
    obtain ⟨b, off, rfl, hbb, _⟩ := hat.place (by decide)
    obtain ⟨g0, hg0, hbs⟩ := hA _ rfl
    injection hg0 with hg1 hg2
    subst hg1 hg2
    have hsz := H2.out.size
    have hbz := hbel.size
    have HL : LsAt w w4 (w2.heap.size + 1) b (w4.heap[b]?) (lastE 0) :=
      ⟨hcV.trans (hbel.mono hcV.size), by omega, by omega, by omega, by omega,
       fun j u hj => by rw [hbel.cell (p := ⟨w2.heap.size + 1, 0 + j, none⟩) (show w2.heap.size + 1 < V.heap.size by omega)]; exact hVr j u hj,
       fun j hj => by rw [hbel.cell (p := ⟨w2.heap.size + 1, 0 + j, none⟩) (show w2.heap.size + 1 < V.heap.size by omega), hbel.frozen (p := ⟨w2.heap.size + 1, 0 + j, none⟩) (show w2.heap.size + 1 < V.heap.size by omega)]; exact hVt j hj, rfl⟩
    have H4 := Lib.hid (And.intro hat HL)
    clear hown hat hbel hA hbs hbb HL hVr hVt hcV hVs hsz hbz
    try dsimp only
    go_wp2
    go_loopw [78] (fun v78 ws => ∃ j : Nat, j ≤ 17 ∧ v78 = .int .i64 (j : Int) ∧ Aside (LsAt w ws (w2.heap.size + 1) b (w4.heap[b]?) (lastE j))) (fun v78 _ => 17 - (intOf v78).toNat)
    case atStart => exact ⟨0, by decide, rfl, (show Aside _ from H4.out.2)⟩
    case round =>
      obtain ⟨j, hj, rfl, hrel⟩ := hrel
      have hL := hrel.out
      clear hrel
      by_cases hjl : j < 17
      · obtain ⟨s, hs⟩ := H4.out.1.get hjl
        have hr := H4.out.1.range hs
        have hla := later_at hs
        have hln := last_next hs
        have hnx := Es_next s (List.mem_of_getElem? hs)
        obtain ⟨x1, x2, x3, x4⟩ := s
        have hc : ∀ (i : Nat) (v : Value), (Ed.vals ⟨x1, x2, x3, x4⟩)[i]? = some v → wr.cell? ⟨b, 0 + j * 4 + i, none⟩ = some v := fun i v hi => by
          rw [World.cell?_of_block (w := w4) (a := ⟨b, 0 + j * 4 + i, none⟩) hL.row]; exact hr i v hi
        have hc0 : wr.cell? ⟨b, 0 + j * 4, none⟩ = some (.int .i64 x1) := hc 0 _ rfl
        have hc1 : wr.cell? ⟨b, 0 + j * 4 + 1, none⟩ = some (.int .i64 x2) := hc 1 _ rfl
        have hc2 : wr.cell? ⟨b, 0 + j * 4 + 2, none⟩ = some (.int .i64 x3) := hc 2 _ rfl
        have hc3 : wr.cell? ⟨b, 0 + j * 4 + 3, none⟩ = some (.int .i64 x4) := hc 3 _ rfl
        rw [Nat.zero_add] at hc0 hc1 hc2 hc3
        have hjI : (j : Int) < 17 := by omega
        obtain ⟨l, hl⟩ : ∃ l, lastE j = l := ⟨_, rfl⟩
        rw [hl] at hL hla
        obtain ⟨y1, y2, y3, y4⟩ := l
        dsimp only at hnx
        have hR := rnext_f x2 x1 x4
        rw [hnx] at hR
        have HX := Lib.hid (And.intro hL (And.intro hln hR))
        unfold Later at hla
        dsimp only at hla
        have hLA := Lib.hid hla
        clear hL hln hR hr hc hs hl hnx hla
        go_wp2_with fail
        obtain ⟨U, hU⟩ : ∃ U, wr.alloc (.cells #[.int .i64 x1, .int .i64 x2, .int .i64 x3, .int .i64 x4] 24) = U := ⟨_, rfl⟩
        rw [hU]
        have hbx : U.heap[wr.heap.size]? = some (.cells #[.int .i64 x1, .int .i64 x2, .int .i64 x3, .int .i64 x4] 24) := by rw [← hU]; exact heap_alloc_new wr _
        have hLU : LsAt w U (w2.heap.size + 1) b (w4.heap[b]?) ⟨y1, y2, y3, y4⟩ := by rw [← hU]; exact HX.out.1.below (alloc_below wr _)
        have p0 : U.cell? ⟨wr.heap.size, 0, none⟩ = some (.int .i64 x1) := by rw [cell_of_row _ _ _ _ _ _ hbx]; rfl
        have p1 : U.cell? ⟨wr.heap.size, 1, none⟩ = some (.int .i64 x2) := by rw [cell_of_row _ _ _ _ _ _ hbx]; rfl
        have p2 : U.cell? ⟨wr.heap.size, 2, none⟩ = some (.int .i64 x3) := by rw [cell_of_row _ _ _ _ _ _ hbx]; rfl
        have p3 : U.cell? ⟨wr.heap.size, 3, none⟩ = some (.int .i64 x4) := by rw [cell_of_row _ _ _ _ _ _ hbx]; rfl
        have q0 : U.cell? ⟨w2.heap.size + 1, 0, none⟩ = some (.int .i64 y1) := hLU.range 0 _ rfl
        have q1 : U.cell? ⟨w2.heap.size + 1, 1, none⟩ = some (.int .i64 y2) := hLU.range 1 _ rfl
        have q2 : U.cell? ⟨w2.heap.size + 1, 2, none⟩ = some (.int .i64 y3) := hLU.range 2 _ rfl
        have q3 : U.cell? ⟨w2.heap.size + 1, 3, none⟩ = some (.int .i64 y4) := hLU.range 3 _ rfl
        have z0 : U.frozen? ⟨w2.heap.size + 1, 0, none⟩ = false := (hLU.there 0 (by decide)).2
        have z1 : U.frozen? ⟨w2.heap.size + 1, 1, none⟩ = false := (hLU.there 1 (by decide)).2
        have z2 : U.frozen? ⟨w2.heap.size + 1, 2, none⟩ = false := (hLU.there 2 (by decide)).2
        have z3 : U.frozen? ⟨w2.heap.size + 1, 3, none⟩ = false := (hLU.there 3 (by decide)).2
        have HU := Lib.hid hLU
        clear hLU hbx hU
        refine (HX.out.2.2 U).mono ?_
        rintro e w' ⟨rfl, hw'⟩; rw [hw']; clear hw'
        try dsimp only [rtup]
        rcases hLA.out with hl1 | ⟨hl1, hl2⟩ | ⟨hl1, hl2, hl3⟩
        · go_wp2
          go_roundw
          case rel => exact ⟨j + 1, by omega, by go_num, (show Aside _ from by rw [HX.out.2.1]; exact HU.out.put x1 x2 x3 x4)⟩
          case measure => simp [intOf]; omega
        · subst hl1
          go_wp2
          go_roundw
          case rel => exact ⟨j + 1, by omega, by go_num, (show Aside _ from by rw [HX.out.2.1]; exact HU.out.put _ x2 x3 x4)⟩
          case measure => simp [intOf]; omega
        · subst hl1 hl2
          go_wp2
          go_roundw
          case rel => exact ⟨j + 1, by omega, by go_num, (show Aside _ from by rw [HX.out.2.1]; exact HU.out.put _ _ x3 x4)⟩
          case measure => simp [intOf]; omega
      · obtain rfl : j = 17 := by omega
        have hB := hL.bel
        clear hL
        go_wp2
        go_ret
        exact ⟨rfl, hB⟩
  | some s =>
    obtain ⟨s', e0, hmem, hfr, hev, _, hto, hrs⟩ := hq.2 rfl
    obtain rfl := Option.some.inj e0
    obtain rfl : rc = true := hq.1
    obtain ⟨e1, e2, e3, e4⟩ := s
    dsimp only at hfr hev hto hrs
    subst hfr hev hto hrs
    clear hq e0 hmem
    go_enter Tryd.func3, Tryd.ntmps3
    go_wp2_with fail
    refine ha.out.mono ?_
    rintro e w1 ⟨rfl, hb1⟩
    have H1 := Lib.hid (And.intro (HT.out.up hb1) hb1)
    clear hb1
    try dsimp only
    go_wp2_with fail
    refine (HN.out w1 H1.out.1).mono ?_
    rintro e w2 ⟨rfl, hb2⟩
    have H2 := Lib.hid (H1.out.2.trans (hb2.mono H1.out.2.size))
    clear hb2
    try dsimp only [edOf, Ed.vals, Option.isSome]
    go_wp2_with fail
    refine (HR.out _).mono ?_
    rintro e w' ⟨rfl, hw'⟩; rw [hw']; clear hw'
    try dsimp only [rtup]
    go_wp2_with fail
    obtain ⟨V, hV⟩ : ∃ V, (w2.alloc (.cells #[.int .i64 e1, .int .i64 e2, .int .i64 e3, .int .i64 e4] 24)).alloc (.cells #[.int .i64 0, .int .i64 0, .int .i64 0, .int .i64 0] 24) = V := ⟨_, rfl⟩
    rw [hV]
    have hs1 : (w2.alloc (.cells #[.int .i64 e1, .int .i64 e2, .int .i64 e3, .int .i64 e4] 24)).heap.size = w2.heap.size + 1 := alloc_size ..
    have hVs : V.heap.size = w2.heap.size + 2 := by rw [← hV, alloc_size, hs1]
    have hcV : Below w.heap.size w V := by rw [← hV]; exact (H2.out.trans ((alloc_below w2 _).mono H2.out.size)).trans ((alloc_below _ _).mono (by have := H2.out.size; omega))
    have hVr : V.rangeAt (w2.heap.size + 1) 0 (lastE 0).vals := by rw [← hV]; exact range_new1 w2 _ _ _ rfl
    have hVt : V.there (w2.heap.size + 1) 0 4 := by rw [← hV]; exact there_new1 w2 _ _ _ rfl
    clear hV hs1
    refine (HE.out V (HT.out.up hcV)).mono ?_
    rintro e w4 ⟨A, c, rfl, hown, hbel⟩
    obtain ⟨A', c', e0, _, _, hat, hA⟩ := RowK.At.of_own hown
    injection e0 with e1x e2x e3x
    subst e1x e3x
    obtain ⟨b, off, rfl, hbb, _⟩ := hat.place (by decide)
    obtain ⟨g0, hg0, hbs⟩ := hA _ rfl
    injection hg0 with hg1 hg2
    subst hg1 hg2
    have hsz := H2.out.size
    have hbz := hbel.size
    have HL : LsAt w w4 (w2.heap.size + 1) b (w4.heap[b]?) (lastE 0) :=
      ⟨hcV.trans (hbel.mono hcV.size), by omega, by omega, by omega, by omega,
       fun j u hj => by rw [hbel.cell (p := ⟨w2.heap.size + 1, 0 + j, none⟩) (show w2.heap.size + 1 < V.heap.size by omega)]; exact hVr j u hj,
       fun j hj => by rw [hbel.cell (p := ⟨w2.heap.size + 1, 0 + j, none⟩) (show w2.heap.size + 1 < V.heap.size by omega), hbel.frozen (p := ⟨w2.heap.size + 1, 0 + j, none⟩) (show w2.heap.size + 1 < V.heap.size by omega)]; exact hVt j hj, rfl⟩
    have H4 := Lib.hid (And.intro hat HL)
    clear hown hat hbel hA hbs hbb HL hVr hVt hcV hVs hsz hbz
    try dsimp only
    go_wp2
    go_loopw [78] (fun v78 ws => ∃ j : Nat, j ≤ 17 ∧ v78 = .int .i64 (j : Int) ∧ Aside (LsAt w ws (w2.heap.size + 1) b (w4.heap[b]?) (lastE j))) (fun v78 _ => 17 - (intOf v78).toNat)
    case atStart => exact ⟨0, by decide, rfl, (show Aside _ from H4.out.2)⟩
    case round =>
      obtain ⟨j, hj, rfl, hrel⟩ := hrel
      have hL := hrel.out
      clear hrel
      by_cases hjl : j < 17
      · obtain ⟨s, hs⟩ := H4.out.1.get hjl
        have hr := H4.out.1.range hs
        have hla := later_at hs
        have hln := last_next hs
        have hnx := Es_next s (List.mem_of_getElem? hs)
        obtain ⟨x1, x2, x3, x4⟩ := s
        have hc : ∀ (i : Nat) (v : Value), (Ed.vals ⟨x1, x2, x3, x4⟩)[i]? = some v → wr.cell? ⟨b, 0 + j * 4 + i, none⟩ = some v := fun i v hi => by
          rw [World.cell?_of_block (w := w4) (a := ⟨b, 0 + j * 4 + i, none⟩) hL.row]; exact hr i v hi
        have hc0 : wr.cell? ⟨b, 0 + j * 4, none⟩ = some (.int .i64 x1) := hc 0 _ rfl
        have hc1 : wr.cell? ⟨b, 0 + j * 4 + 1, none⟩ = some (.int .i64 x2) := hc 1 _ rfl
        have hc2 : wr.cell? ⟨b, 0 + j * 4 + 2, none⟩ = some (.int .i64 x3) := hc 2 _ rfl
        have hc3 : wr.cell? ⟨b, 0 + j * 4 + 3, none⟩ = some (.int .i64 x4) := hc 3 _ rfl
        rw [Nat.zero_add] at hc0 hc1 hc2 hc3
        have hjI : (j : Int) < 17 := by omega
        obtain ⟨l, hl⟩ : ∃ l, lastE j = l := ⟨_, rfl⟩
        rw [hl] at hL hla
        obtain ⟨y1, y2, y3, y4⟩ := l
        dsimp only at hnx
        have hR := rnext_f x2 x1 x4
        rw [hnx] at hR
        have HX := Lib.hid (And.intro hL (And.intro hln hR))
        unfold Later at hla
        dsimp only at hla
        have hLA := Lib.hid hla
        clear hL hln hR hr hc hs hl hnx hla
        go_wp2_with fail
        obtain ⟨U, hU⟩ : ∃ U, wr.alloc (.cells #[.int .i64 x1, .int .i64 x2, .int .i64 x3, .int .i64 x4] 24) = U := ⟨_, rfl⟩
        rw [hU]
        have hbx : U.heap[wr.heap.size]? = some (.cells #[.int .i64 x1, .int .i64 x2, .int .i64 x3, .int .i64 x4] 24) := by rw [← hU]; exact heap_alloc_new wr _
        have hLU : LsAt w U (w2.heap.size + 1) b (w4.heap[b]?) ⟨y1, y2, y3, y4⟩ := by rw [← hU]; exact HX.out.1.below (alloc_below wr _)
        have p0 : U.cell? ⟨wr.heap.size, 0, none⟩ = some (.int .i64 x1) := by rw [cell_of_row _ _ _ _ _ _ hbx]; rfl
        have p1 : U.cell? ⟨wr.heap.size, 1, none⟩ = some (.int .i64 x2) := by rw [cell_of_row _ _ _ _ _ _ hbx]; rfl
        have p2 : U.cell? ⟨wr.heap.size, 2, none⟩ = some (.int .i64 x3) := by rw [cell_of_row _ _ _ _ _ _ hbx]; rfl
        have p3 : U.cell? ⟨wr.heap.size, 3, none⟩ = some (.int .i64 x4) := by rw [cell_of_row _ _ _ _ _ _ hbx]; rfl
        have q0 : U.cell? ⟨w2.heap.size + 1, 0, none⟩ = some (.int .i64 y1) := hLU.range 0 _ rfl
        have q1 : U.cell? ⟨w2.heap.size + 1, 1, none⟩ = some (.int .i64 y2) := hLU.range 1 _ rfl
        have q2 : U.cell? ⟨w2.heap.size + 1, 2, none⟩ = some (.int .i64 y3) := hLU.range 2 _ rfl
        have q3 : U.cell? ⟨w2.heap.size + 1, 3, none⟩ = some (.int .i64 y4) := hLU.range 3 _ rfl
        have z0 : U.frozen? ⟨w2.heap.size + 1, 0, none⟩ = false := (hLU.there 0 (by decide)).2
        have z1 : U.frozen? ⟨w2.heap.size + 1, 1, none⟩ = false := (hLU.there 1 (by decide)).2
        have z2 : U.frozen? ⟨w2.heap.size + 1, 2, none⟩ = false := (hLU.there 2 (by decide)).2
        have z3 : U.frozen? ⟨w2.heap.size + 1, 3, none⟩ = false := (hLU.there 3 (by decide)).2
        have HU := Lib.hid hLU
        clear hLU hbx hU
        refine (HX.out.2.2 U).mono ?_
        rintro e w' ⟨rfl, hw'⟩; rw [hw']; clear hw'
        try dsimp only [rtup]
        rcases hLA.out with hl1 | ⟨hl1, hl2⟩ | ⟨hl1, hl2, hl3⟩
        · go_wp2
          go_roundw
          case rel => exact ⟨j + 1, by omega, by go_num, (show Aside _ from by rw [HX.out.2.1]; exact HU.out.put x1 x2 x3 x4)⟩
          case measure => simp [intOf]; omega
        · subst hl1
          go_wp2
          go_roundw
          case rel => exact ⟨j + 1, by omega, by go_num, (show Aside _ from by rw [HX.out.2.1]; exact HU.out.put _ x2 x3 x4)⟩
          case measure => simp [intOf]; omega
        · subst hl1 hl2
          go_wp2
          go_roundw
          case rel => exact ⟨j + 1, by omega, by go_num, (show Aside _ from by rw [HX.out.2.1]; exact HU.out.put _ _ x3 x4)⟩
          case measure => simp [intOf]; omega
      · obtain rfl : j = 17 := by omega
        have hB := hL.bel
        clear hL
        go_wp2
        go_ret
        exact ⟨rfl, hB⟩
end Go.Proofs.YtcaipmljlhjlcaaDoor
