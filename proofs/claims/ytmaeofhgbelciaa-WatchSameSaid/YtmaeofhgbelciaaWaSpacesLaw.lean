/-
  The law WatchSpaces.
-/
import Derived.Test.YtmaeofhgbelciaaWaArgs
import Derived.Test.YtmaeofhgbelciaaWaOne
import Derived.Test.YtmaeofhgbelciaaRel2
import Derived.Deep.Cut
import Derived.Deep.CutRange
import Derived.Deep.CutBlock
namespace Go.Proofs.Ytmaeofhgbelciaa
open Go.RowKit
set_option maxRecDepth 100000
set_option linter.unusedVariables false
set_option linter.unusedSimpArgs false
def spq (c : Cq) (u last seq : Int) : Wq := ⟨1, [1], [3, 0, 9], c, nq u, last, seq⟩
theorem clamp_id {i : Int} (h : 0 ≤ i ∧ i ≤ 1000) : clampQ i = i := by unfold clampQ; omega
theorem sp_pass {c : Cq} {u last seq m i : Int} (hi : 0 ≤ i ∧ i ≤ 1000) : passQ [nq m] (clampQ i) 0 [spq c u last seq] = if dueQ c (nq u) last (nq m) i = true then ([spq c m i ((seq + 1) % 16777216)], [spq c m i ((seq + 1) % 16777216)]) else ([spq c u last seq], []) := by
  rw [clamp_id hi]
  rfl
theorem sp_fresh {seq last i : Int} (h : 0 ≤ seq ∧ seq < 16777216) : freshQ seq ((seq + 1) % 16777216) last i = true := by
  unfold freshQ
  apply decide_eq_true
  left
  unfold farQ
  omega
theorem sp_due {c : Cq} {u v : Vq} {last i : Int} (h : dueQ c u last v i = true) : ¬ i - last < 1 ∧ (c.ha = true → ¬ i - last < c.a) := by
  unfold dueQ at h
  by_cases h1 : i - last < 1 ∨ (c.ha = true ∧ i - last < c.a)
  · rw [if_pos h1] at h; cases h
  · exact ⟨fun h2 => h1 (.inl h2), fun h2 h3 => h1 (.inr ⟨h2, h3⟩)⟩
theorem sp_still {c : Cq} {u v : Vq} {last i : Int} (h : dueQ c u last v i = false) (hl : last < i) (hc : ¬ (c.ha = true ∧ c.hb = true ∧ 0 < c.b ∧ c.b < c.a)) : ¬ (c.hb = true ∧ 0 < c.b ∧ c.b ≤ i - last) := by
  rintro ⟨h1, h2, h3⟩
  unfold dueQ at h
  by_cases h4 : i - last < 1 ∨ (c.ha = true ∧ i - last < c.a)
  · rcases h4 with h4 | ⟨h4, h5⟩
    · omega
    · exact hc ⟨h4, h1, h2, by omega⟩
  · rw [if_neg h4, if_pos ⟨h1, h2, h3⟩] at h
    cases h
def SpS (b : Nat) (c : Cq) (u : Int) (bt bp : Nat) : Wr := ⟨⟨1, [1], [3, 0, 9], c, nq u, 0, 0⟩, some ⟨bt, 0, none⟩, 1, 1, some ⟨bp, 0, none⟩, 3, 3, none, 0, 0⟩
/-- What the line's operations leave. -/
def SpR (tb : Nat) (c : Cq) (b off n cp : Nat) (m : Int) : Nat → World → Value → Prop
  | 0, _, v => v = .pointer (some ⟨tb, 0, none⟩)
  | 1, W, v => ∃ g fr, v = .slice (some ⟨g, 0, none⟩) 1 1 ∧ tb < g ∧ W.heap[g]? = some (.cells #[.int .u8 1] 5 fr)
  | 2, W, v => ∃ g fr, v = .slice (some ⟨g, 0, none⟩) 3 3 ∧ tb < g ∧ W.heap[g]? = some (.cells #[.int .i64 3, .int .i64 0, .int .i64 9] 3 fr)
  | 3, _, v => v = .agg c.vals.toArray
  | 4, _, v => v = .slice (some ⟨b, off, none⟩) n cp
  | 5, _, v => v = .pointer (some ⟨b, off, none⟩)
  | 6, _, v => v = .int .i64 m
  | 7, _, v => v = .agg #[.int .i64 1, .int .i64 m, .string ⟨#[]⟩, .slice none 0 0, .int .i64 0, .int .i64 0]
  | 8, W, v => ∃ g1 f1 g2 f2, v = .agg (SpS 0 c m g1 g2).vals.toArray ∧ (tb < g1 ∧ W.heap[g1]? = some (.cells #[.int .u8 1] 5 f1)) ∧ tb < g2 ∧ W.heap[g2]? = some (.cells #[.int .i64 3, .int .i64 0, .int .i64 9] 3 f2)
  | 9, W, v => v = .int .i64 0 ∧ AddS tb (spq c m 0 0) W
  | 10, W, v => v = .bool false ∧ AddS tb (spq c m 0 0) W
  | _, _, _ => True
theorem SpR.keep {tb : Nat} {c : Cq} {b off n cp : Nat} {m : Int} (i : Nat) (w w' : World) (v : Value) (hT : AdT tb (spq c m 0 0) w w') (h : SpR tb c b off n cp m i w v) : SpR tb c b off n cp m i w' v := by
  match i, h with
  | 0, h => exact h
  | 1, ⟨g, fr, h1, h2, h3⟩ => exact ⟨g, fr, h1, h2, hT.1 g _ _ _ h2 (by decide) h3⟩
  | 2, ⟨g, fr, h1, h2, h3⟩ => exact ⟨g, fr, h1, h2, hT.1 g _ _ _ h2 (by decide) h3⟩
  | 3, h => exact h
  | 4, h => exact h
  | 5, h => exact h
  | 6, h => exact h
  | 7, h => exact h
  | 8, ⟨g1, f1, g2, f2, h1, ⟨h2, h3⟩, h4, h5⟩ => exact ⟨g1, f1, g2, f2, h1, ⟨h2, hT.1 g1 _ _ _ h2 (by decide) h3⟩, h4, hT.1 g2 _ _ _ h4 (by decide) h5⟩
  | 9, h => exact ⟨h.1, hT.2 h.2⟩
  | 10, h => exact ⟨h.1, hT.2 h.2⟩
  | i + 11, _ => trivial
theorem sp_rd {W : World} {tb g1 g2 : Nat} {f1 f2 : Nat × Nat} (c : Cq) (m : Int) (h1 : W.heap[g1]? = some (.cells #[.int .u8 1] 5 f1)) (h2 : W.heap[g2]? = some (.cells #[.int .i64 3, .int .i64 0, .int .i64 9] 3 f2)) : Wrd W W.heap.size (SpS tb c m g1 g2) := by
  refine ⟨⟨rfl, fun _ => ⟨g1, 0, rfl, (Array.getElem?_eq_some_iff.1 h1).1, fun j u hu => ?_⟩⟩, ⟨rfl, fun _ => ⟨g2, 0, rfl, (Array.getElem?_eq_some_iff.1 h2).1, fun i s hs j u hj => ?_⟩⟩, Bs.empty _ _ _⟩
  · rw [Nat.zero_add, cell_of_row _ _ _ _ _ _ h1]
    have hj : j = 0 := by have := (List.getElem?_eq_some_iff.1 hu).1; simp [SpS] at this; omega
    subst hj
    obtain rfl := Option.some.inj hu
    rfl
  · have hj0 : j = 0 := by have := (List.getElem?_eq_some_iff.1 hj).1; simp [inK] at this; omega
    subst hj0
    rw [cell_of_row _ _ _ _ _ _ h2]
    have hi : i = 0 ∨ i = 1 ∨ i = 2 := by have := (List.getElem?_eq_some_iff.1 hs).1; simp [SpS] at this; omega
    rcases hi with rfl | rfl | rfl
    all_goals
      obtain rfl := Option.some.inj hs
      obtain rfl := Option.some.inj hj
      rfl
theorem sp_vals (tb : Nat) (c : Cq) (m : Int) (g1 g2 : Nat) : (SpS tb c m g1 g2).vals.toArray = #[.int .i64 1, .slice (some ⟨g1, 0, none⟩) 1 1, .slice (some ⟨g2, 0, none⟩) 3 3, .int .i64 c.a, .int .i64 c.b, .bool c.ha, .bool c.hb, .int .i64 c.g, .int .i64 c.l, .int .i64 c.s, .bool c.hg, .bool c.hl, .bool c.hs, .int .i64 1, .int .i64 m, .string ⟨#[]⟩, .slice none 0 0, .int .i64 0, .int .i64 0, .int .i64 0, .int .i64 0] := rfl
theorem sp_sm (tb : Nat) (c : Cq) (m : Int) (g1 g2 : Nat) : Wsm (SpS tb c m g1 g2) := ⟨(show ((1 : Nat) : Int) ≤ 1048576 by decide), (show ((3 : Nat) : Int) ≤ 1048576 by decide), (show ((0 : Nat) : Int) ≤ 1048576 by decide), (show (0 : Nat) ≤ 1048576 by decide)⟩
theorem size_cq : (Try.prog.info? 25).map (·.size) = some 10 := by kernel_rfl
set_option maxHeartbeats 16000000 in
theorem wspaces_law (c : Cq) (A : Option Addr) (n cp : Nat) (ts : List Int) (w : World) (hT : Ts w w.heap.size A n ts) (hc : n ≤ cp) (hm : cp ≤ maxLen) (ha : In64 c.a) (hb : In64 c.b) :
    Calls Try.prog 4 #[.agg c.vals.toArray, .slice A n cp] w fun e w' => e = .returned (.bool true) ∧ Below w.heap.size w w' := by
  obtain ⟨W, hW⟩ : ∃ W, w.alloc (.cells c.vals.toArray 25) = W := ⟨_, rfl⟩
  have hbW : Below w.heap.size w W := by rw [← hW]; exact alloc_below w _
  have hWs : W.heap.size = w.heap.size + 1 := by rw [← hW, alloc_size]
  have hcb : W.heap[w.heap.size]? = some (.cells c.vals.toArray 25) := by rw [← hW]; exact heap_alloc_new w _
  have HA := Lib.hid (walive_f W)
  have HN := Lib.hid hT
  unfold maxLen at hm
  have HC := Lib.hid (And.intro ha hb)
  obtain ⟨ca, cb, cha, chb, cg, cl, cs, chg, chl, chs⟩ := c
  dsimp only [Cq.vals] at *
  clear hT ha hb
  by_cases g1 : n ≤ 80
  · by_cases g2 : n = 0
    · subst g2
      go_enter Try.func4, Try.ntmps4
      go_wp2_with fail
      refine HA.out.mono ?_
      rintro e w1 ⟨rfl, hb1⟩
      have H1 := Lib.hid (hbW.trans (hb1.mono hbW.size))
      clear hb1 hcb hbW hW
      try dsimp only
      go_wp2
      go_ret
      exact ⟨rfl, H1.out⟩
    · by_cases g3 : cha = true ∧ chb = true ∧ 0 < cb ∧ cb < ca
      · obtain ⟨rfl, rfl, h5, h6⟩ := g3
        have gI1 : ¬ (80 : Int) < n := by omega
        have gI2 : ¬ (n : Int) = 0 := by omega
        go_enter Try.func4, Try.ntmps4
        go_wp2_with fail
        refine HA.out.mono ?_
        rintro e w1 ⟨rfl, hb1⟩
        have hk : w1.heap[w.heap.size]? = some (.cells #[.int .i64 ca, .int .i64 cb, .bool true, .bool true, .int .i64 cg, .int .i64 cl, .int .i64 cs, .bool chg, .bool chl, .bool chs] 25) := by rw [hb1.block _ (by omega)]; exact hcb
        have k0 : w1.cell? ⟨w.heap.size, 0, none⟩ = some (.int .i64 ca) := by rw [cell_of_row _ _ _ _ _ _ hk]; rfl
        have k1 : w1.cell? ⟨w.heap.size, 1, none⟩ = some (.int .i64 cb) := by rw [cell_of_row _ _ _ _ _ _ hk]; rfl
        have k2 : w1.cell? ⟨w.heap.size, 2, none⟩ = some (.bool true) := by rw [cell_of_row _ _ _ _ _ _ hk]; rfl
        have k3 : w1.cell? ⟨w.heap.size, 3, none⟩ = some (.bool true) := by rw [cell_of_row _ _ _ _ _ _ hk]; rfl
        clear hk
        have H1 := Lib.hid (hbW.trans (hb1.mono hbW.size))
        clear hb1 hcb hbW hW
        try dsimp only
        go_wp2
        go_ret
        exact ⟨rfl, H1.out⟩
      · have gI1 : ¬ (80 : Int) < n := by omega
        have gI2 : ¬ (n : Int) = 0 := by omega
        go_enter Try.func4, Try.ntmps4
        go_wp2_with fail
        refine HA.out.mono ?_
        rintro e w1 ⟨rfl, hb1⟩
        have hk : w1.heap[w.heap.size]? = some (.cells #[.int .i64 ca, .int .i64 cb, .bool cha, .bool chb, .int .i64 cg, .int .i64 cl, .int .i64 cs, .bool chg, .bool chl, .bool chs] 25) := by rw [hb1.block _ (by omega)]; exact hcb
        have k0 : w1.cell? ⟨w.heap.size, 0, none⟩ = some (.int .i64 ca) := by rw [cell_of_row _ _ _ _ _ _ hk]; rfl
        have k1 : w1.cell? ⟨w.heap.size, 1, none⟩ = some (.int .i64 cb) := by rw [cell_of_row _ _ _ _ _ _ hk]; rfl
        have k2 : w1.cell? ⟨w.heap.size, 2, none⟩ = some (.bool cha) := by rw [cell_of_row _ _ _ _ _ _ hk]; rfl
        have k3 : w1.cell? ⟨w.heap.size, 3, none⟩ = some (.bool chb) := by rw [cell_of_row _ _ _ _ _ _ hk]; rfl
        have H1 := Lib.hid (And.intro hk (And.intro (hbW.trans (hb1.mono hbW.size)) hb1.size))
        clear hb1 hcb hk hbW hW
        try dsimp only
        have hg3 : cha = false ∨ (cha = true ∧ chb = false) ∨ (cha = true ∧ chb = true ∧ ¬ 0 < cb) ∨ (cha = true ∧ chb = true ∧ 0 < cb ∧ ¬ cb < ca) := by
          cases cha
          · exact .inl rfl
          · cases chb
            · exact .inr (.inl ⟨rfl, rfl⟩)
            · by_cases h5 : 0 < cb
              · exact .inr (.inr (.inr ⟨rfl, rfl, h5, fun h6 => g3 ⟨rfl, rfl, h5, h6⟩⟩))
              · exact .inr (.inr (.inl ⟨rfl, rfl, h5⟩))
        go_upto_region 3 with fail
        go_cut [41] from 14 to 42 (fun v41 wx => v41 = .bool false ∧ wx = w1)
        case first =>
          rcases hg3 with rfl | ⟨rfl, rfl⟩ | ⟨rfl, rfl, h5⟩ | ⟨rfl, rfl, h5, h6⟩
          all_goals
            go_wp2
            go_meet
            case rel => exact ⟨by rw [show (decide ((80 : Int) < (n : Int)) || ((n : Int) == 0)) = false from by simp; omega], rfl⟩
        case rest =>
          obtain ⟨rfl, hwc⟩ := hcut
          rw [hwc]
          clear hwc
          go_wp2_with fail
          refine (wnew_f _).mono ?_
          rintro e w2 ⟨rfl, t2, b2, z2⟩
          try dsimp only
          go_upto_region 6 with fail
          obtain ⟨b, off, rfl, hbb, hcs⟩ := HN.out.place (by omega)
          obtain ⟨m0, hm0⟩ : ∃ m0, ts[0]? = some m0 := ⟨_, List.getElem?_eq_getElem (by have := HN.out.len; omega)⟩
          have hm64 := Lib.hid (HN.out.each m0 (List.mem_of_getElem? hm0))
          have HM := Lib.hid (show w1.cell? ⟨b, off, none⟩ = some (.int .i64 m0) by have := hcs 0 m0 hm0; rw [Nat.add_zero] at this; rw [H1.out.2.1.cell (p := ⟨b, off, none⟩) hbb]; exact this)
          have hb0 := Lib.hid hbb
          have hn0 : (0 : Int) < n := by omega
          go_cut [53] from 43 to 54 (fun v53 wx => v53 = .bool false ∧ AdS w1 (spq ⟨ca, cb, cha, chb, cg, cl, cs, chg, chl, chs⟩ m0 0 0) wx ∧ AddS w1.heap.size (spq ⟨ca, cb, cha, chb, cg, cl, cs, chg, chl, chs⟩ m0 0 0) wx)
          case first =>
            refine wp_region_rel (fun W => AdS w1 (spq ⟨ca, cb, cha, chb, cg, cl, cs, chg, chl, chs⟩ m0 0 0) W) (fun W W' => AdT w1.heap.size (spq ⟨ca, cb, cha, chb, cg, cl, cs, chg, chl, chs⟩ m0 0 0) W W') (SpR w1.heap.size ⟨ca, cb, cha, chb, cg, cl, cs, chg, chl, chs⟩ b off n cp m0) [(1, .slice (some ⟨b, off, none⟩) n cp), (2, .pointer (some ⟨w.heap.size, 0, none⟩)), (5, .pointer (some ⟨w1.heap.size, 0, none⟩))] (by kernel_rfl) (by kernel_rfl) (by kernel_rfl) ?base (AdS.below (W := w2) ⟨b2, _, _, t2, .inl rfl⟩ (drewN_below _ _ 1)) (fun i x x' v hT h => SpR.keep i x x' v hT h) ?steps ?fin
            case base =>
              intro x hx
              simp only [List.mem_cons, List.not_mem_nil, or_false] at hx
              rcases hx with rfl | rfl | rfl <;> exact ⟨rfl, rfl⟩
            case steps =>
              refine steps_cons ?_ (steps_cons ?_ (steps_cons ?_ (steps_cons ?_ (steps_cons ?_ (steps_cons ?_ (steps_cons ?_ (steps_cons ?_ (steps_cons ?_ (steps_cons ?_ (steps_cons ?_ steps_nil))))))))))
              · intro a wx K hS hB hR hK
                rw [if_pos (wanted_none rfl)]
                have h5 := tmp_is (hB.2.2.1)
                go_simp
                exact hK (.pointer (some ⟨w1.heap.size, 0, none⟩)) wx hS (AdT.refl _ _ _) rfl
              · intro a wx K hS hB hR hK
                rw [if_pos (wanted_none rfl)]
                go_simp
                exact hK (.slice (some ⟨wx.heap.size, 0, none⟩) 1 1) _ (hS.below (alloc_below wx _)) (AdT.below (alloc_below wx _)) ⟨wx.heap.size, _, rfl, hS.size, heap_alloc_new wx _⟩
              · intro a wx K hS hB hR hK
                rw [if_pos (wanted_none rfl)]
                go_simp
                exact hK (.slice (some ⟨wx.heap.size, 0, none⟩) 3 3) _ (hS.below (alloc_below wx _)) (AdT.below (alloc_below wx _)) ⟨wx.heap.size, _, rfl, hS.size, heap_alloc_new wx _⟩
              · intro a wx K hS hB hR hK
                rw [if_pos (wanted_none rfl)]
                have hrg : wx.rangeAt w.heap.size 0 (Cq.vals ⟨ca, cb, cha, chb, cg, cl, cs, chg, chl, chs⟩) := fun j u hj => by rw [hS.1.cell (p := ⟨w.heap.size, 0 + j, none⟩) (show w.heap.size < w1.heap.size by have := H1.out.2.2; omega), Nat.zero_add, cell_of_row _ _ _ _ _ _ H1.out.1, ← Array.getElem?_toList]; exact hj
                refine wp_load_mid 25 (.tmp 2) (by rfl) w.heap.size 0 (hB.2.1) (Cq.vals ⟨ca, cb, cha, chb, cg, cl, cs, chg, chl, chs⟩) _ hrg Try.underlying25 rfl size_cq ?_
                exact hK _ wx hS (AdT.refl _ _ _) rfl
              · intro a wx K hS hB hR hK
                rw [if_pos (wanted_none rfl)]
                have h1 := tmp_is (hB.1)
                go_simp
                exact hK (.slice (some ⟨b, off, none⟩) n cp) wx hS (AdT.refl _ _ _) rfl
              · intro a wx K hS hB hR hK
                rw [if_pos (wanted_none rfl)]
                have h47 := tmp_is (hR.1)
                have hn00 : 0 < n := by omega
                go_simp
                exact hK (.pointer (some ⟨b, off, none⟩)) wx hS (AdT.refl _ _ _) rfl
              · intro a wx K hS hB hR hK
                rw [if_pos (wanted_none rfl)]
                have h48 := tmp_is (hR.1)
                have hcl : wx.cell? ⟨b, off, none⟩ = some (.int .i64 m0) := by rw [hS.1.cell (p := ⟨b, off, none⟩) (show b < w1.heap.size by have := H1.out.2.2; omega)]; exact HM.out
                go_simp
                exact hK (.int .i64 m0) wx hS (AdT.refl _ _ _) rfl
              · intro a wx K hS hB hR hK
                rw [if_pos (wanted_none rfl)]
                have h49 := tmp_is (hR.1)
                go_simp
                refine (num_f m0 wx).mono ?_
                rintro e w' ⟨rfl, hb⟩
                exact hK _ _ (hS.below hb) (AdT.below hb) rfl
              · intro a wx K hS hB hR hK
                rw [if_pos (wanted_none rfl)]
                obtain ⟨g1, f1, e1, h1, h2⟩ := hR.1
                obtain ⟨g2, f2, e2, h3, h4⟩ := hR.2.1
                have h44 := tmp_is e1
                have h45 := tmp_is e2
                have h50 := tmp_is (hR.2.2.2.1)
                have h46 : a.tmps[46]?.getD undef = .agg #[.int .i64 ca, .int .i64 cb, .bool cha, .bool chb, .int .i64 cg, .int .i64 cl, .int .i64 cs, .bool chg, .bool chl, .bool chs] := tmp_is (hR.2.2.1)
                have H88 := Lib.hid (And.intro hS (And.intro hK (And.intro h2 h4)))
                clear hB hR hS hK h2 h4 e1 e2
                go_simp
                have hk8 := H88.out.2.1 (.agg (SpS 0 ⟨ca, cb, cha, chb, cg, cl, cs, chg, chl, chs⟩ m0 g1 g2).vals.toArray) wx H88.out.1 (AdT.refl _ _ _) ⟨g1, f1, g2, f2, rfl, ⟨h1, H88.out.2.2.1⟩, h3, H88.out.2.2.2⟩
                rw [sp_vals] at hk8
                exact hk8
              · intro a wx K hS hB hR hK
                rw [if_pos (wanted_none rfl)]
                have h43 := tmp_is (hR.1)
                obtain ⟨g1, f1, g2, f2, e1, ⟨h1, h2⟩, h3, h4⟩ := hR.2.1
                have h51 := tmp_is e1
                have hcall := add_once (s := SpS 0 ⟨ca, cb, cha, chb, cg, cl, cs, chg, chl, chs⟩ m0 g1 g2) hS (sp_rd _ m0 h2 h4) (Nat.le_refl _) (sp_sm _ _ _ _ _) hm64.out (show ([1] : List UInt8).length ≤ 8 by decide) (show rightP [3, 0, 9] = true by decide)
                go_simp
                refine hcall.mono ?_
                rintro e w' ⟨rfl, hS', hA', hT'⟩
                exact hK _ _ hS' hT' ⟨rfl, hA'⟩
              · intro a wx K hS hB hR hK
                rw [if_pos (wanted_none rfl)]
                have h52 := tmp_is (hR.1.1)
                go_simp
                exact hK (.bool false) wx hS (AdT.refl _ _ _) ⟨rfl, hR.1.2⟩

            case fin =>
              intro a wx hS ha hR
              have hst : SpR w1.heap.size ⟨ca, cb, cha, chb, cg, cl, cs, chg, chl, chs⟩ b off n cp m0 10 wx _ := deps_mem _ hR 10 (by decide)
              simp only [pin] at ha
              rw [ha]
              simp only [List.setIfInBounds_toArray, List.set_cons_zero, List.set_cons_succ]
              clear hR
              go_wp2_with fail
              go_meet
              case rel => exact ⟨hst.1, hS, hst.2⟩
          case rest =>
            obtain ⟨rfl, hS, hA⟩ := hcut
            have HS := Lib.hid (And.intro hS.1 hA)
            clear hS hA
            go_wp2
            go_loopw [6, 7, 8] (fun v6 v7 v8 wr => ∃ (i : Nat) (last seq u : Int), 1 ≤ i ∧ i ≤ n ∧ v6 = .int .i64 last ∧ v7 = .int .i64 seq ∧ v8 = .int .i64 (i : Int) ∧ Aside ((0 ≤ last ∧ last < i ∧ 0 ≤ seq ∧ seq < 16777216) ∧ Below w1.heap.size w1 wr ∧ AddS w1.heap.size (spq ⟨ca, cb, cha, chb, cg, cl, cs, chg, chl, chs⟩ u last seq) wr)) (fun _ _ v8 _ => n - (intOf v8).toNat)
            case atStart => exact ⟨1, 0, 0, m0, by decide, by omega, rfl, rfl, rfl, (show Aside _ from ⟨⟨by decide, by decide, by decide, by decide⟩, HS.out⟩)⟩
            case round =>
              obtain ⟨i, last, seq, u, hi1, hin, rfl, rfl, rfl, hrel⟩ := hrel
              obtain ⟨⟨hl0, hli, hs0, hs1⟩, hbw, v, vs, hW, hvs⟩ := hrel.out
              clear hrel
              by_cases hlt : i < n
              · have hltI : (i : Int) < n := by omega
                have hi0 : (0 : Int) ≤ i := by omega
                obtain ⟨m, hmi⟩ : ∃ m, ts[i]? = some m := ⟨_, List.getElem?_eq_getElem (by have := HN.out.len; omega)⟩
                have hm6 := Lib.hid (HN.out.each m (List.mem_of_getElem? hmi))
                have hcl : wr.cell? ⟨b, off + i, none⟩ = some (.int .i64 m) := by
                  rw [hbw.cell (p := ⟨b, off + i, none⟩) (show b < w1.heap.size by have := H1.out.2.2; have := hb0.out; omega), H1.out.2.1.cell (p := ⟨b, off + i, none⟩) hb0.out]
                  exact hcs i m hmi
                have hps := sp_pass (c := ⟨ca, cb, cha, chb, cg, cl, cs, chg, chl, chs⟩) (u := u) (last := last) (seq := seq) (m := m) (i := (i : Int)) ⟨by omega, by omega⟩
                have HW := Lib.hid (And.intro hW (And.intro hvs (And.intro hbw hps)))
                clear hW hvs hbw hps hmi
                go_wp2_with fail
                refine (num_f m _).mono ?_
                rintro e w5 ⟨rfl, hb5⟩
                have cd := due_num (HW.out.1.below hb5) m hm6.out (i : Int)
                have H5 := Lib.hid (And.intro (HW.out.2.2.1.trans (hb5.mono HW.out.2.2.1.size)) (HW.out.1.below hb5))
                rw [HW.out.2.1] at cd
                clear hb5
                try dsimp only
                go_wp2_with fail
                refine cd.mono ?_
                rintro e w6 ⟨A6, n6, c6, X6, vs6, rfl, hT6, hX6, hW6, hq6, hF6⟩
                rw [HW.out.2.2.2] at hX6 hq6
                have hF := Fx.lowT H5.out.2 H5.out.1 hF6
                have z0 : w6.cell? ⟨w.heap.size, 0, none⟩ = some (.int .i64 ca) := by rw [hF.cell (p := ⟨w.heap.size, 0, none⟩) (show w.heap.size < w1.heap.size by have := H1.out.2.2; omega)]; exact k0
                have z1 : w6.cell? ⟨w.heap.size, 1, none⟩ = some (.int .i64 cb) := by rw [hF.cell (p := ⟨w.heap.size, 1, none⟩) (show w.heap.size < w1.heap.size by have := H1.out.2.2; omega)]; exact k1
                have z2 : w6.cell? ⟨w.heap.size, 2, none⟩ = some (.bool cha) := by rw [hF.cell (p := ⟨w.heap.size, 2, none⟩) (show w.heap.size < w1.heap.size by have := H1.out.2.2; omega)]; exact k2
                have z3 : w6.cell? ⟨w.heap.size, 3, none⟩ = some (.bool chb) := by rw [hF.cell (p := ⟨w.heap.size, 3, none⟩) (show w.heap.size < w1.heap.size by have := H1.out.2.2; omega)]; exact k3
                have z9 : w6.cell? ⟨b, off + i, none⟩ = some (.int .i64 m) := by
                  rw [hF.cell (p := ⟨b, off + i, none⟩) (show b < w1.heap.size by have := H1.out.2.2; have := hb0.out; omega), ← HW.out.2.2.1.cell (p := ⟨b, off + i, none⟩) (show b < w1.heap.size by have := H1.out.2.2; have := hb0.out; omega)]
                  exact hcl
                have zl := World.block_lt_of_cell? w6 ⟨w.heap.size, 0, none⟩ z0
                have zb := World.block_lt_of_cell? w6 ⟨b, off + i, none⟩ z9
                clear cd hcl hF6
                obtain ⟨D, hD⟩ : ∃ D, dueQ ⟨ca, cb, cha, chb, cg, cl, cs, chg, chl, chs⟩ (nq u) last (nq m) (i : Int) = D := ⟨_, rfl⟩
                rw [hD] at hX6 hq6
                cases D with
                | false =>
                  obtain rfl := told_none hT6 hX6
                  have hst := sp_still hD hli g3
                  have H6 := Lib.hid (And.intro hF (And.intro hW6 hq6))
                  clear hD hT6 hX6 hF hW6 hq6
                  cases chb with
                  | false =>
                    go_wp2
                    go_roundw
                    case rel => exact ⟨i + 1, last, seq, u, by omega, by omega, rfl, rfl, by go_num, (show Aside _ from ⟨⟨by omega, by omega, by omega, by omega⟩, H6.out.1, _, _, H6.out.2.1, H6.out.2.2⟩)⟩
                    case measure => simp [intOf]; omega
                  | true =>
                    by_cases hb0 : 0 < cb
                    · have hbl : ¬ cb ≤ (i : Int) - last := fun h => hst ⟨rfl, hb0, h⟩
                      have hov : IntKind.i64.wrap ((i : Int) - last) = (i : Int) - last := by rw [IntKind.wrap_i64]; omega
                      go_wp2
                      go_roundw
                      case rel => exact ⟨i + 1, last, seq, u, by omega, by omega, rfl, rfl, by go_num, (show Aside _ from ⟨⟨by omega, by omega, by omega, by omega⟩, H6.out.1, _, _, H6.out.2.1, H6.out.2.2⟩)⟩
                      case measure => simp [intOf]; omega
                    · go_wp2
                      go_roundw
                      case rel => exact ⟨i + 1, last, seq, u, by omega, by omega, rfl, rfl, by go_num, (show Aside _ from ⟨⟨by omega, by omega, by omega, by omega⟩, H6.out.1, _, _, H6.out.2.1, H6.out.2.2⟩)⟩
                      case measure => simp [intOf]; omega
                | true =>
                  obtain ⟨hn6, hc6, g6, x6, rfl, hx6, hg6, hr6⟩ := told_one hT6 hX6
                  subst hn6
                  have hdu := sp_due hD
                  have H6 := Lib.hid (And.intro hF (And.intro hW6 hq6))
                  have hc6I : (1 : Int) ≤ c6 := by omega
                  have hfr := sp_fresh (last := last) (i := (i : Int)) ⟨hs0, hs1⟩
                  have hFr := Lib.hid (fun W => fresh_f seq ((seq + 1) % 16777216) last (i : Int) W)
                  rw [hfr] at hFr
                  obtain ⟨sq, hsq⟩ : ∃ sq, (seq + 1) % 16777216 = sq := ⟨_, rfl⟩
                  have hsq0 : 0 ≤ sq ∧ sq < 16777216 := by omega
                  rw [hsq] at hx6 hFr H6
                  have hov : IntKind.i64.wrap ((i : Int) - last) = (i : Int) - last := by rw [IntKind.wrap_i64]; omega
                  have hthn : (w6.alloc (.cells #[.int .i64 0, .slice none 0 0, .slice none 0 0, .int .i64 0, .int .i64 0, .bool false, .bool false, .int .i64 0, .int .i64 0, .int .i64 0, .bool false, .bool false, .bool false, .int .i64 0, .int .i64 0, .string ⟨#[]⟩, .slice none 0 0, .int .i64 0, .int .i64 0, .int .i64 0, .int .i64 0] 37)).there w6.heap.size 0 21 := there_new w6 _ _ rfl
                  have hal := alloc_below w6 (.cells #[.int .i64 0, .slice none 0 0, .slice none 0 0, .int .i64 0, .int .i64 0, .bool false, .bool false, .int .i64 0, .int .i64 0, .int .i64 0, .bool false, .bool false, .bool false, .int .i64 0, .int .i64 0, .string ⟨#[]⟩, .slice none 0 0, .int .i64 0, .int .i64 0, .int .i64 0, .int .i64 0] 37)
                  have HA9 := Lib.hid (And.intro (hal.trans (below_setCells (Below.refl w6.heap.size (w6.alloc (.cells #[.int .i64 0, .slice none 0 0, .slice none 0 0, .int .i64 0, .int .i64 0, .bool false, .bool false, .int .i64 0, .int .i64 0, .int .i64 0, .bool false, .bool false, .bool false, .int .i64 0, .int .i64 0, .string ⟨#[]⟩, .slice none 0 0, .int .i64 0, .int .i64 0, .int .i64 0, .int .i64 0] 37))) (b := w6.heap.size) (Nat.le_refl _) x6.vals 0)) (range_stored (vs := x6.vals) hthn))
                  clear hfr hsq hal hT6 hX6 hF hW6 hq6 hD
                  cases cha with
                  | false =>
                    go_upto_region 19 with fail
                    go_cut [91, 92, 93, 11] from 91 to 94 (fun v91 v92 v93 v11 wx => v11 = .pointer (some ⟨w6.heap.size, 0, none⟩) ∧ Below w6.heap.size w6 wx ∧ wx.rangeAt w6.heap.size 0 x6.vals)
                    case first =>
                      go_wp2_with (first
                        | (refine wpList_load_mid rfl 37 (.tmp 92) rfl g6 0 rfl x6.vals _ hr6 Try.underlying37 rfl size_wr ?_)
                        | (refine wpList_store_mid rfl 37 (.tmp 11) (.tmp 93) rfl w6.heap.size 0 x6.vals.toArray rfl rfl hthn size_wr (all_oneCell_toArray (wK.one x6)) ?_
                           refine gen_world (F := fun W => wpList Try.prog _ _ _ _ W) (fun W => Below w6.heap.size w6 W ∧ W.rangeAt w6.heap.size 0 x6.vals) HA9.out ?_
                           rintro w9 ⟨b9, r9⟩))
                      go_meet
                      case rel => exact ⟨rfl, b9, r9⟩
                    case rest =>
                      obtain ⟨rfl, b9, r9⟩ := hcut
                      obtain ⟨w9, hw9⟩ : ∃ w9, wc = w9 := ⟨_, rfl⟩
                      rw [hw9] at b9 r9 ⊢
                      have p19 : w9.cell? ⟨w6.heap.size, 19, none⟩ = some (.int .i64 (i : Int)) := by have := r9 19 _ rfl; rw [hx6] at this; exact this
                      have p14 : w9.cell? ⟨w6.heap.size, 14, none⟩ = some (.int .i64 m) := by have := r9 14 _ rfl; rw [hx6] at this; exact this
                      have p20 : w9.cell? ⟨w6.heap.size, 20, none⟩ = some (.int .i64 sq) := by have := r9 20 _ rfl; rw [hx6] at this; exact this
                      have o0 : w9.cell? ⟨w.heap.size, 0, none⟩ = some (.int .i64 ca) := by rw [b9.cell (p := ⟨w.heap.size, 0, none⟩) zl]; exact z0
                      have o2 : w9.cell? ⟨w.heap.size, 2, none⟩ = some (.bool false) := by rw [b9.cell (p := ⟨w.heap.size, 2, none⟩) zl]; exact z2
                      have o9 : w9.cell? ⟨b, off + i, none⟩ = some (.int .i64 m) := by rw [b9.cell (p := ⟨b, off + i, none⟩) zb]; exact z9
                      have H9 := Lib.hid (And.intro (H6.out.1.trans (b9.mono H6.out.1.size)) (And.intro (H6.out.2.1.below b9) H6.out.2.2))
                      clear b9 r9 z0 z1 z2 z3 z9 hw9
                      go_wp2_with fail
                      go_quiet ((go_at_call 8; exact Calls.quiet_of_same (hFr.out _)))
                      go_wp2
                      go_quiet (fail)
                      go_wp2
                      go_roundw
                      case rel => exact ⟨i + 1, i, sq, m, by omega, by omega, rfl, rfl, by go_num, (show Aside _ from ⟨⟨by omega, by omega, by omega, by omega⟩, H9.out.1.trans (drewN_below _ _ _), _, _, H9.out.2.1.below (drewN_below _ _ _), H9.out.2.2⟩)⟩
                      case measure => simp [intOf]; omega
                  | true =>
                    have hna := hdu.2 rfl
                    go_upto_region 19 with fail
                    go_cut [91, 92, 93, 11] from 91 to 94 (fun v91 v92 v93 v11 wx => v11 = .pointer (some ⟨w6.heap.size, 0, none⟩) ∧ Below w6.heap.size w6 wx ∧ wx.rangeAt w6.heap.size 0 x6.vals)
                    case first =>
                      go_wp2_with (first
                        | (refine wpList_load_mid rfl 37 (.tmp 92) rfl g6 0 rfl x6.vals _ hr6 Try.underlying37 rfl size_wr ?_)
                        | (refine wpList_store_mid rfl 37 (.tmp 11) (.tmp 93) rfl w6.heap.size 0 x6.vals.toArray rfl rfl hthn size_wr (all_oneCell_toArray (wK.one x6)) ?_
                           refine gen_world (F := fun W => wpList Try.prog _ _ _ _ W) (fun W => Below w6.heap.size w6 W ∧ W.rangeAt w6.heap.size 0 x6.vals) HA9.out ?_
                           rintro w9 ⟨b9, r9⟩))
                      go_meet
                      case rel => exact ⟨rfl, b9, r9⟩
                    case rest =>
                      obtain ⟨rfl, b9, r9⟩ := hcut
                      obtain ⟨w9, hw9⟩ : ∃ w9, wc = w9 := ⟨_, rfl⟩
                      rw [hw9] at b9 r9 ⊢
                      have p19 : w9.cell? ⟨w6.heap.size, 19, none⟩ = some (.int .i64 (i : Int)) := by have := r9 19 _ rfl; rw [hx6] at this; exact this
                      have p14 : w9.cell? ⟨w6.heap.size, 14, none⟩ = some (.int .i64 m) := by have := r9 14 _ rfl; rw [hx6] at this; exact this
                      have p20 : w9.cell? ⟨w6.heap.size, 20, none⟩ = some (.int .i64 sq) := by have := r9 20 _ rfl; rw [hx6] at this; exact this
                      have o0 : w9.cell? ⟨w.heap.size, 0, none⟩ = some (.int .i64 ca) := by rw [b9.cell (p := ⟨w.heap.size, 0, none⟩) zl]; exact z0
                      have o2 : w9.cell? ⟨w.heap.size, 2, none⟩ = some (.bool true) := by rw [b9.cell (p := ⟨w.heap.size, 2, none⟩) zl]; exact z2
                      have o9 : w9.cell? ⟨b, off + i, none⟩ = some (.int .i64 m) := by rw [b9.cell (p := ⟨b, off + i, none⟩) zb]; exact z9
                      have H9 := Lib.hid (And.intro (H6.out.1.trans (b9.mono H6.out.1.size)) (And.intro (H6.out.2.1.below b9) H6.out.2.2))
                      clear b9 r9 z0 z1 z2 z3 z9 hw9
                      go_wp2_with fail
                      go_quiet ((go_at_call 8; exact Calls.quiet_of_same (hFr.out _)))
                      go_wp2
                      go_quiet (fail)
                      go_wp2
                      go_roundw
                      case rel => exact ⟨i + 1, i, sq, m, by omega, by omega, rfl, rfl, by go_num, (show Aside _ from ⟨⟨by omega, by omega, by omega, by omega⟩, H9.out.1.trans (drewN_below _ _ _), _, _, H9.out.2.1.below (drewN_below _ _ _), H9.out.2.2⟩)⟩
                      case measure => simp [intOf]; omega
              · have hltI : ¬ (i : Int) < n := by omega
                have hfin := H1.out.2.1.trans (hbw.mono H1.out.2.1.size)
                clear hW hvs hbw
                go_wp2
                go_ret
                exact ⟨rfl, hfin⟩
  · have gI1 : (80 : Int) < n := by omega
    go_enter Try.func4, Try.ntmps4
    go_wp2_with fail
    refine HA.out.mono ?_
    rintro e w1 ⟨rfl, hb1⟩
    have H1 := Lib.hid (hbW.trans (hb1.mono hbW.size))
    clear hb1 hcb hbW hW
    try dsimp only
    go_wp2
    go_ret
    exact ⟨rfl, H1.out⟩
end Go.Proofs.Ytmaeofhgbelciaa
