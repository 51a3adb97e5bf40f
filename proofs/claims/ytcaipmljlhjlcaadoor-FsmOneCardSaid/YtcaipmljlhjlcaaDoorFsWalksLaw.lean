/-
  The law FsmWalks.
-/
import Derived.Test.YtcaipmljlhjlcaaDoorFsAlive
import Derived.Test.YtcaipmljlhjlcaaDoorArgs
namespace Go.Proofs.YtcaipmljlhjlcaaDoor
open Go.ChangeShapes Go.WideShapes Go.ChangeAt Go.RowKit
set_option maxRecDepth 100000
set_option linter.unusedVariables false
set_option linter.unusedSimpArgs false
def inK : RowK Int 1 where
  vals z := [.int .i64 z]
  len _ := rfl
  one s u hu := by obtain rfl := List.mem_singleton.1 hu; rfl
  pos := by decide
theorem inK_cell {w : World} {B : Nat} {A : Option Addr} {n : Nat} {zs : List Int} (h : inK.At w B A n zs) {k : Nat} (hk : k < n) : ∃ b off z, A = some ⟨b, off, none⟩ ∧ b < B ∧ zs[k]? = some z ∧ w.cell? ⟨b, off + k, none⟩ = some (.int .i64 z) := by
  obtain ⟨b, off, rfl, hb, _⟩ := h.place (by omega)
  obtain ⟨z, hz⟩ := h.get hk
  have := h.range hz 0 _ rfl
  exact ⟨b, off, z, rfl, hb, hz, by rw [Nat.add_zero, Nat.mul_one] at this; exact this⟩
theorem args_inK {H : Type} {enc : TypeId × Value → H} {W : World} {base : Nat} {a : Option Addr} {len cap : Nat} {d : DataW H} {p : List MemPlace} (h : DataW.Trod enc Tryd.prog W base (fun _ => true) true 34 (.slice a len cap) d p) :
    ∃ zs, inK.At W W.heap.size a len zs ∧ len ≤ cap ∧ cap ≤ maxLen := by
  obtain ⟨fuel, hf⟩ := h
  rcases open_ints Tryd.underlying34 Tryd.underlying3 (by kernel_rfl) hf with ⟨hcs, _⟩ | ⟨x, l, c, zs, hcs, _, hl, hm, hz, _, hcell, hwz⟩
  · simp [Value.cells] at hcs
    obtain ⟨rfl, rfl, rfl⟩ := hcs
    exact ⟨[], RowK.At.nil_ _ _ _, by omega, by omega⟩
  · simp [Value.cells] at hcs
    obtain ⟨rfl, rfl, rfl⟩ := hcs
    have hz' : zs.length = cap := by simpa using hz
    refine ⟨zs.take len, ⟨by rw [List.length_take]; omega, fun hn => ?_⟩, hl, hm⟩
    obtain ⟨b, off, spot⟩ := x
    have hc := hcell 0 (by omega)
    have hspot : spot = none := by simpa [Addr.add] using World.cell?_spot hc
    subst hspot
    refine ⟨b, off, rfl, World.block_lt_of_cell? _ ⟨b, off, none⟩ (by simpa [Addr.add] using hc), fun k u hu j v hj => ?_⟩
    rw [List.getElem?_take] at hu
    split at hu
    · have hk := (List.getElem?_eq_some_iff.1 hu).1
      have h1 := hcell k hk
      rw [Addr.add_lit] at h1
      have hj' : [Value.int .i64 u][j]? = some v := hj
      cases j with
      | zero =>
        obtain rfl := Option.some.inj hj'
        rw [Nat.mul_one, Nat.add_zero, h1, List.getD_eq_getElem?_getD, hu, Option.getD_some]
      | succ j => simp at hj'
    · cases hu
set_option maxHeartbeats 4000000 in
theorem Es_good : ∀ s ∈ Es, pathQ 0 0 s.to s.rs = true ∧ pathQ s.to s.rs 0 0 = true ∧ isP s.to s.rs = true := by decide +kernel
theorem may_of {s : Ed} (hs : s ∈ Es) {rs : Int} (hr : isP s.fr rs = true) : mayQ s.fr rs s.to s.rs = true := by
  unfold mayQ
  have h1 := (Es_good s hs).2.2
  have h2 : Es.any (mayP s.fr s.to s.rs) = true := List.any_eq_true.2 ⟨s, hs, by unfold mayP; simp⟩
  rw [hr, h1, h2]; simp
/-- A pair that can be. -/
def PairOk (st rs : Int) : Prop := isP st rs = true ∧ pathQ 0 0 st rs = true
theorem pair_four {st rs : Int} (h : isP st rs = true) : st = 0 ∨ st = 1 ∨ st = 2 ∨ st = 3 := by
  have := of_decide_eq_true h
  omega
set_option maxHeartbeats 8000000 in
theorem fwalks_law (A1 : Option Addr) (n1 c1 : Nat) (A2 : Option Addr) (n2 c2 : Nat) (l1 l2 : List Int) (w : World) (h1 : inK.At w w.heap.size A1 n1 l1) (h2 : inK.At w w.heap.size A2 n2 l2) (hc1 : n1 ≤ c1) (hm1 : c1 ≤ maxLen) (hc2 : n2 ≤ c2) (hm2 : c2 ≤ maxLen) (hT : Tb w) :
    Calls Tryd.prog 5 #[.slice A1 n1 c1, .slice A2 n2 c2] w fun e w' => e = .returned (.bool true) ∧ Below w.heap.size w w' := by
  have ha := Lib.hid (alive22_f w hT)
  have HT := Lib.hid hT
  have HA := Lib.hid (And.intro h1 h2)
  clear hT h1 h2
  unfold maxLen at hm1 hm2
  by_cases g1 : n1 ≤ 100
  · by_cases g2 : n2 ≤ 100
    · have gI1 : ¬ (100 : Int) < n1 := by omega
      have gI2 : ¬ (100 : Int) < n2 := by omega
      go_enter Tryd.func5, Tryd.ntmps5
      go_wp2_with fail
      refine ha.out.mono ?_
      rintro e w1 ⟨rfl, hb1⟩
      have H1 := Lib.hid (And.intro (HT.out.up hb1) hb1)
      clear hb1
      try dsimp only
      go_wp2
      go_loopw [5, 6, 24] (fun v5 v6 v24 wr => ∃ (k : Nat) (st rs : Int), k ≤ n1 ∧ v24 = .int .i64 (k : Int) ∧ v5 = .int .i64 st ∧ v6 = .int .i64 rs ∧ Aside (PairOk st rs ∧ Below w.heap.size w wr)) (fun _ _ v24 _ => n1 - (intOf v24).toNat)
      case atStart => exact ⟨0, 0, 0, Nat.zero_le _, rfl, rfl, rfl, (show Aside _ from ⟨⟨by decide, by decide +kernel⟩, H1.out.2⟩)⟩
      case round =>
        obtain ⟨k, st, rs, hk, rfl, rfl, rfl, hrel⟩ := hrel
        by_cases hlt : k < n1
        · have hltI : (k : Int) < n1 := by omega
          obtain ⟨b, off, ev, rfl, hb, hz, hcl⟩ := inK_cell (HA.out.1.below hrel.out.2) hlt
          by_cases hlt2 : k < n2
          · have hlt2I : (k : Int) < n2 := by omega
            obtain ⟨b2, off2, rr, rfl, hb2, hz2, hcl2⟩ := inK_cell (HA.out.2.below hrel.out.2) hlt2
            obtain ⟨hp, hbw⟩ := hrel.out
            have hN := Lib.hid (next_f st ev rr wr (HT.out.up hbw))
            have hq := next_eq st ev rr
            obtain ⟨o, ho⟩ : ∃ o, nextQ st ev rr = o := ⟨_, rfl⟩
            rw [ho] at hN hq
            cases o with
            | none =>
              have HX := Lib.hid (And.intro hp hbw)
              clear hrel hp hbw hq ho
              go_wp2_with fail
              refine hN.out.mono ?_
              rintro e w2 ⟨rfl, hb2⟩
              have H2 := Lib.hid (HX.out.2.trans (hb2.mono HX.out.2.size))
              clear hb2
              try dsimp only [edOf, Ed.vals, Option.isSome]
              go_wp2
              go_roundw
              case rel => exact ⟨k + 1, st, rs, by omega, by go_num, rfl, rfl, (show Aside _ from ⟨HX.out.1, H2.out.trans ((alloc_below w2 _).mono H2.out.size)⟩)⟩
              case measure => simp [intOf]; omega
            | some s =>
              obtain ⟨s', e0, hmem, hfr, hev, _, hto, hrs⟩ := hq.2 rfl
              obtain rfl := Option.some.inj e0
              have hmy := may_of hmem (rs := rs) (by rw [hfr]; exact hp.1)
              have hgd := Es_good s hmem
              rw [hfr] at hmy
              obtain ⟨e1, e2, e3, e4⟩ := s
              dsimp only at hmy hgd
              have k1 := Lib.hid (fun (W : World) (h : Tb W) => by have := may_f st rs e3 e4 W h; rw [hmy] at this; exact this)
              have k2 := Lib.hid (fun (W : World) (h : Tb W) => by have := path_f 0 0 e3 e4 W h; rw [hgd.1] at this; exact this)
              have k3 := Lib.hid (fun (W : World) (h : Tb W) => by have := right_f e3 e4 W h; rw [hgd.1] at this; exact this)
              have k4 := Lib.hid (fun (W : World) (h : Tb W) => by have := path_f e3 e4 0 0 W h; rw [hgd.2.1] at this; exact this)
              have HX := Lib.hid (And.intro (show PairOk e3 e4 from ⟨hgd.2.2, hgd.1⟩) hbw)
              clear hrel hp hbw hq ho hmem hfr hev hto hrs hmy hgd e0
              go_wp2_with fail
              refine hN.out.mono ?_
              rintro e w2 ⟨rfl, hb2⟩
              have hc2 := HX.out.2.trans (hb2.mono HX.out.2.size)
              have HV2 := Lib.hid hc2
              clear hb2 hc2
              try dsimp only [edOf, Ed.vals, Option.isSome]
              go_wp2_with fail
              obtain ⟨V, hV⟩ : ∃ V, w2.alloc (.cells #[.int .i64 e1, .int .i64 e2, .int .i64 e3, .int .i64 e4] 24) = V := ⟨_, rfl⟩
              rw [hV]
              have hvx : V.heap[w2.heap.size]? = some (.cells #[.int .i64 e1, .int .i64 e2, .int .i64 e3, .int .i64 e4] 24) := by rw [← hV]; exact heap_alloc_new w2 _
              have hvs : w2.heap.size < V.heap.size := by rw [← hV, alloc_size]; omega
              have hcV : Below w.heap.size w V := by rw [← hV]; exact HV2.out.trans ((alloc_below w2 _).mono HV2.out.size)
              have H3 := Lib.hid (And.intro (HT.out.up hcV) hcV)
              have HV := Lib.hid (And.intro hvx hvs)
              clear hvx hvs hcV hV
              refine (k1.out V H3.out.1).mono ?_
              rintro e w4 ⟨rfl, hb4⟩
              have hx4 : w4.heap[w2.heap.size]? = some (.cells #[.int .i64 e1, .int .i64 e2, .int .i64 e3, .int .i64 e4] 24) := by rw [hb4.block _ HV.out.2]; exact HV.out.1
              have hl4 := World.block_lt_of_cell? w4 ⟨w2.heap.size, 0, none⟩ (by rw [cell_of_row _ _ _ _ _ _ hx4]; rfl)
              have p4 : w4.cell? ⟨w2.heap.size, 2, none⟩ = some (.int .i64 e3) := by rw [cell_of_row _ _ _ _ _ _ hx4]; rfl
              have q4 : w4.cell? ⟨w2.heap.size, 3, none⟩ = some (.int .i64 e4) := by rw [cell_of_row _ _ _ _ _ _ hx4]; rfl
              have H4 := Lib.hid (And.intro (HT.out.up (H3.out.2.trans (hb4.mono H3.out.2.size))) (And.intro (H3.out.2.trans (hb4.mono H3.out.2.size)) (And.intro hx4 hl4)))
              clear hb4 hx4
              try dsimp only
              go_wp2_with fail
              refine (k2.out w4 H4.out.1).mono ?_
              rintro e w5 ⟨rfl, hb5⟩
              have hx5 : w5.heap[w2.heap.size]? = some (.cells #[.int .i64 e1, .int .i64 e2, .int .i64 e3, .int .i64 e4] 24) := by rw [hb5.block _ H4.out.2.2.2]; exact H4.out.2.2.1
              have hl5 := World.block_lt_of_cell? w5 ⟨w2.heap.size, 0, none⟩ (by rw [cell_of_row _ _ _ _ _ _ hx5]; rfl)
              have p5 : w5.cell? ⟨w2.heap.size, 2, none⟩ = some (.int .i64 e3) := by rw [cell_of_row _ _ _ _ _ _ hx5]; rfl
              have q5 : w5.cell? ⟨w2.heap.size, 3, none⟩ = some (.int .i64 e4) := by rw [cell_of_row _ _ _ _ _ _ hx5]; rfl
              have H5 := Lib.hid (And.intro (HT.out.up (H4.out.2.1.trans (hb5.mono H4.out.2.1.size))) (And.intro (H4.out.2.1.trans (hb5.mono H4.out.2.1.size)) (And.intro hx5 hl5)))
              clear hb5 hx5
              try dsimp only
              go_wp2_with fail
              refine (k3.out w5 H5.out.1).mono ?_
              rintro e w6 ⟨rfl, hb6⟩
              have hx6 : w6.heap[w2.heap.size]? = some (.cells #[.int .i64 e1, .int .i64 e2, .int .i64 e3, .int .i64 e4] 24) := by rw [hb6.block _ H5.out.2.2.2]; exact H5.out.2.2.1
              have hl6 := World.block_lt_of_cell? w6 ⟨w2.heap.size, 0, none⟩ (by rw [cell_of_row _ _ _ _ _ _ hx6]; rfl)
              have p6 : w6.cell? ⟨w2.heap.size, 2, none⟩ = some (.int .i64 e3) := by rw [cell_of_row _ _ _ _ _ _ hx6]; rfl
              have q6 : w6.cell? ⟨w2.heap.size, 3, none⟩ = some (.int .i64 e4) := by rw [cell_of_row _ _ _ _ _ _ hx6]; rfl
              have H6 := Lib.hid (And.intro (HT.out.up (H5.out.2.1.trans (hb6.mono H5.out.2.1.size))) (And.intro (H5.out.2.1.trans (hb6.mono H5.out.2.1.size)) (And.intro hx6 hl6)))
              clear hb6 hx6
              try dsimp only
              go_wp2_with fail
              refine (k4.out w6 H6.out.1).mono ?_
              rintro e w7 ⟨rfl, hb7⟩
              have hx7 : w7.heap[w2.heap.size]? = some (.cells #[.int .i64 e1, .int .i64 e2, .int .i64 e3, .int .i64 e4] 24) := by rw [hb7.block _ H6.out.2.2.2]; exact H6.out.2.2.1
              have hl7 := World.block_lt_of_cell? w7 ⟨w2.heap.size, 0, none⟩ (by rw [cell_of_row _ _ _ _ _ _ hx7]; rfl)
              have p7 : w7.cell? ⟨w2.heap.size, 2, none⟩ = some (.int .i64 e3) := by rw [cell_of_row _ _ _ _ _ _ hx7]; rfl
              have q7 : w7.cell? ⟨w2.heap.size, 3, none⟩ = some (.int .i64 e4) := by rw [cell_of_row _ _ _ _ _ _ hx7]; rfl
              have H7 := Lib.hid (And.intro (H6.out.2.1.trans (hb7.mono H6.out.2.1.size)) (And.intro hx7 hl7))
              clear hb7 hx7
              try dsimp only
              go_wp2
              go_quiet (fail)
              go_wp2
              go_roundw
              case rel => exact ⟨k + 1, e3, e4, by omega, by go_num, rfl, rfl, (show Aside _ from ⟨HX.out.1, H7.out.1.trans (drewN_below _ _ _)⟩)⟩
              case measure => simp [intOf]; omega
          · have hlt2I : ¬ (k : Int) < n2 := by omega
            obtain ⟨hp, hbw⟩ := hrel.out
            have hN := Lib.hid (next_f st ev 0 wr (HT.out.up hbw))
            have hq := next_eq st ev 0
            obtain ⟨o, ho⟩ : ∃ o, nextQ st ev 0 = o := ⟨_, rfl⟩
            rw [ho] at hN hq
            cases o with
            | none =>
              have HX := Lib.hid (And.intro hp hbw)
              clear hrel hp hbw hq ho
              go_wp2_with fail
              refine hN.out.mono ?_
              rintro e w2 ⟨rfl, hb2⟩
              have H2 := Lib.hid (HX.out.2.trans (hb2.mono HX.out.2.size))
              clear hb2
              try dsimp only [edOf, Ed.vals, Option.isSome]
              go_wp2
              go_roundw
              case rel => exact ⟨k + 1, st, rs, by omega, by go_num, rfl, rfl, (show Aside _ from ⟨HX.out.1, H2.out.trans ((alloc_below w2 _).mono H2.out.size)⟩)⟩
              case measure => simp [intOf]; omega
            | some s =>
              obtain ⟨s', e0, hmem, hfr, hev, _, hto, hrs⟩ := hq.2 rfl
              obtain rfl := Option.some.inj e0
              have hmy := may_of hmem (rs := rs) (by rw [hfr]; exact hp.1)
              have hgd := Es_good s hmem
              rw [hfr] at hmy
              obtain ⟨e1, e2, e3, e4⟩ := s
              dsimp only at hmy hgd
              have k1 := Lib.hid (fun (W : World) (h : Tb W) => by have := may_f st rs e3 e4 W h; rw [hmy] at this; exact this)
              have k2 := Lib.hid (fun (W : World) (h : Tb W) => by have := path_f 0 0 e3 e4 W h; rw [hgd.1] at this; exact this)
              have k3 := Lib.hid (fun (W : World) (h : Tb W) => by have := right_f e3 e4 W h; rw [hgd.1] at this; exact this)
              have k4 := Lib.hid (fun (W : World) (h : Tb W) => by have := path_f e3 e4 0 0 W h; rw [hgd.2.1] at this; exact this)
              have HX := Lib.hid (And.intro (show PairOk e3 e4 from ⟨hgd.2.2, hgd.1⟩) hbw)
              clear hrel hp hbw hq ho hmem hfr hev hto hrs hmy hgd e0
              go_wp2_with fail
              refine hN.out.mono ?_
              rintro e w2 ⟨rfl, hb2⟩
              have hc2 := HX.out.2.trans (hb2.mono HX.out.2.size)
              have HV2 := Lib.hid hc2
              clear hb2 hc2
              try dsimp only [edOf, Ed.vals, Option.isSome]
              go_wp2_with fail
              obtain ⟨V, hV⟩ : ∃ V, w2.alloc (.cells #[.int .i64 e1, .int .i64 e2, .int .i64 e3, .int .i64 e4] 24) = V := ⟨_, rfl⟩
              rw [hV]
              have hvx : V.heap[w2.heap.size]? = some (.cells #[.int .i64 e1, .int .i64 e2, .int .i64 e3, .int .i64 e4] 24) := by rw [← hV]; exact heap_alloc_new w2 _
              have hvs : w2.heap.size < V.heap.size := by rw [← hV, alloc_size]; omega
              have hcV : Below w.heap.size w V := by rw [← hV]; exact HV2.out.trans ((alloc_below w2 _).mono HV2.out.size)
              have H3 := Lib.hid (And.intro (HT.out.up hcV) hcV)
              have HV := Lib.hid (And.intro hvx hvs)
              clear hvx hvs hcV hV
              refine (k1.out V H3.out.1).mono ?_
              rintro e w4 ⟨rfl, hb4⟩
              have hx4 : w4.heap[w2.heap.size]? = some (.cells #[.int .i64 e1, .int .i64 e2, .int .i64 e3, .int .i64 e4] 24) := by rw [hb4.block _ HV.out.2]; exact HV.out.1
              have hl4 := World.block_lt_of_cell? w4 ⟨w2.heap.size, 0, none⟩ (by rw [cell_of_row _ _ _ _ _ _ hx4]; rfl)
              have p4 : w4.cell? ⟨w2.heap.size, 2, none⟩ = some (.int .i64 e3) := by rw [cell_of_row _ _ _ _ _ _ hx4]; rfl
              have q4 : w4.cell? ⟨w2.heap.size, 3, none⟩ = some (.int .i64 e4) := by rw [cell_of_row _ _ _ _ _ _ hx4]; rfl
              have H4 := Lib.hid (And.intro (HT.out.up (H3.out.2.trans (hb4.mono H3.out.2.size))) (And.intro (H3.out.2.trans (hb4.mono H3.out.2.size)) (And.intro hx4 hl4)))
              clear hb4 hx4
              try dsimp only
              go_wp2_with fail
              refine (k2.out w4 H4.out.1).mono ?_
              rintro e w5 ⟨rfl, hb5⟩
              have hx5 : w5.heap[w2.heap.size]? = some (.cells #[.int .i64 e1, .int .i64 e2, .int .i64 e3, .int .i64 e4] 24) := by rw [hb5.block _ H4.out.2.2.2]; exact H4.out.2.2.1
              have hl5 := World.block_lt_of_cell? w5 ⟨w2.heap.size, 0, none⟩ (by rw [cell_of_row _ _ _ _ _ _ hx5]; rfl)
              have p5 : w5.cell? ⟨w2.heap.size, 2, none⟩ = some (.int .i64 e3) := by rw [cell_of_row _ _ _ _ _ _ hx5]; rfl
              have q5 : w5.cell? ⟨w2.heap.size, 3, none⟩ = some (.int .i64 e4) := by rw [cell_of_row _ _ _ _ _ _ hx5]; rfl
              have H5 := Lib.hid (And.intro (HT.out.up (H4.out.2.1.trans (hb5.mono H4.out.2.1.size))) (And.intro (H4.out.2.1.trans (hb5.mono H4.out.2.1.size)) (And.intro hx5 hl5)))
              clear hb5 hx5
              try dsimp only
              go_wp2_with fail
              refine (k3.out w5 H5.out.1).mono ?_
              rintro e w6 ⟨rfl, hb6⟩
              have hx6 : w6.heap[w2.heap.size]? = some (.cells #[.int .i64 e1, .int .i64 e2, .int .i64 e3, .int .i64 e4] 24) := by rw [hb6.block _ H5.out.2.2.2]; exact H5.out.2.2.1
              have hl6 := World.block_lt_of_cell? w6 ⟨w2.heap.size, 0, none⟩ (by rw [cell_of_row _ _ _ _ _ _ hx6]; rfl)
              have p6 : w6.cell? ⟨w2.heap.size, 2, none⟩ = some (.int .i64 e3) := by rw [cell_of_row _ _ _ _ _ _ hx6]; rfl
              have q6 : w6.cell? ⟨w2.heap.size, 3, none⟩ = some (.int .i64 e4) := by rw [cell_of_row _ _ _ _ _ _ hx6]; rfl
              have H6 := Lib.hid (And.intro (HT.out.up (H5.out.2.1.trans (hb6.mono H5.out.2.1.size))) (And.intro (H5.out.2.1.trans (hb6.mono H5.out.2.1.size)) (And.intro hx6 hl6)))
              clear hb6 hx6
              try dsimp only
              go_wp2_with fail
              refine (k4.out w6 H6.out.1).mono ?_
              rintro e w7 ⟨rfl, hb7⟩
              have hx7 : w7.heap[w2.heap.size]? = some (.cells #[.int .i64 e1, .int .i64 e2, .int .i64 e3, .int .i64 e4] 24) := by rw [hb7.block _ H6.out.2.2.2]; exact H6.out.2.2.1
              have hl7 := World.block_lt_of_cell? w7 ⟨w2.heap.size, 0, none⟩ (by rw [cell_of_row _ _ _ _ _ _ hx7]; rfl)
              have p7 : w7.cell? ⟨w2.heap.size, 2, none⟩ = some (.int .i64 e3) := by rw [cell_of_row _ _ _ _ _ _ hx7]; rfl
              have q7 : w7.cell? ⟨w2.heap.size, 3, none⟩ = some (.int .i64 e4) := by rw [cell_of_row _ _ _ _ _ _ hx7]; rfl
              have H7 := Lib.hid (And.intro (H6.out.2.1.trans (hb7.mono H6.out.2.1.size)) (And.intro hx7 hl7))
              clear hb7 hx7
              try dsimp only
              go_wp2
              go_quiet (fail)
              go_wp2
              go_roundw
              case rel => exact ⟨k + 1, e3, e4, by omega, by go_num, rfl, rfl, (show Aside _ from ⟨HX.out.1, H7.out.1.trans (drewN_below _ _ _)⟩)⟩
              case measure => simp [intOf]; omega
        · have hltI : ¬ (k : Int) < n1 := by omega
          have hR := Lib.hid (right_f st rs wr (HT.out.up hrel.out.2))
          rw [hrel.out.1.2] at hR
          have h4 := pair_four hrel.out.1.1
          have HX := Lib.hid hrel.out.2
          clear hrel
          rcases h4 with rfl | rfl | rfl | rfl
          all_goals
            go_wp2_with fail
            refine hR.out.mono ?_
            rintro e w2 ⟨rfl, hb2⟩
            have H2 := Lib.hid (HX.out.trans (hb2.mono HX.out.size))
            clear hb2
            try dsimp only
            go_wp2_with fail
            refine (name_f _ w2).mono ?_
            rintro e w' ⟨rfl, hw'⟩; rw [hw']; clear hw'
            try dsimp only [nameQ]
            go_wp2
            go_ret
            exact ⟨by first | rfl | decide, H2.out⟩
    · have gI1 : ¬ (100 : Int) < n1 := by omega
      have gI2 : (100 : Int) < n2 := by omega
      go_enter Tryd.func5, Tryd.ntmps5
      go_wp2_with fail
      refine ha.out.mono ?_
      rintro e w1 ⟨rfl, hb1⟩
      try dsimp only
      go_wp2
      go_ret
      exact ⟨rfl, hb1⟩
  · have gI1 : (100 : Int) < n1 := by omega
    go_enter Tryd.func5, Tryd.ntmps5
    go_wp2_with fail
    refine ha.out.mono ?_
    rintro e w1 ⟨rfl, hb1⟩
    try dsimp only
    go_wp2
    go_ret
    exact ⟨rfl, hb1⟩
end Go.Proofs.YtcaipmljlhjlcaaDoor
