/-
  ExchTimes: an exchange is sent at its times, five times at the most, or till it is stopped.
-/
import Derived.Test.YtkhikpbchimodaaExTimes
import Derived.Deep.CutRange
import Derived.Deep.CutBlock
namespace Go.Proofs.Ytkhikpbchimodaa
open Go.RowKit
set_option maxRecDepth 100000
set_option maxRecDepth 100000
set_option linter.unusedVariables false
theorem due_from {l : List UInt8} {F W : Int} (hF : 0 ≤ F ∧ F ≤ 549755813888) (hW : 20 ≤ W ∧ W ≤ 30) : F < (EX l F W 0).u := by
  have := (EX.due l hF hW).1
  omega
/-- What a pass answers, stopped or not. -/
theorem pass_st {l : List UInt8} {F W now : Int} {g : Nat} {st : Bool} (hg : g ≤ 5) (hdue : 0 < g → (EX l F W (g - 1)).u ≤ now) : ∃ G, g ≤ G ∧ G ≤ 5 ∧ passed (if st then [] else EQ l F W g) now = ((List.range' g (G - g)).map (sentX l), if st then [] else EQ l F W G) ∧ (st = false → G < 5 → now < (EX l F W G).u) ∧ (0 < G → (EX l F W (G - 1)).u ≤ now) ∧ (st = true → G = g) := by
  cases st with
  | true => exact ⟨g, Nat.le_refl _, hg, by rw [Nat.sub_self]; rfl, (fun h => by cases h), hdue, fun _ => rfl⟩
  | false =>
    obtain ⟨G, h1, h2, h3, h4, h5⟩ := pass_ex l F W now (5 - g) g (by omega)
    refine ⟨G, h1, h2, h3, fun _ => h4, fun h0 => ?_, fun h => by cases h⟩
    by_cases e : g = G
    · subst e; exact hdue h0
    · exact h5 (by omega)
set_option maxHeartbeats 32000000 in
theorem extimes_law (A : Option Addr) (n c : Nat) (l : List UInt8) (F rand : Int) (A2 : Option Addr) (n2 c2 : Nat) (ts : List Int) (stop : Int) (w : World) (h : Bs w w.heap.size A n l) (hc : n ≤ c) (hm : c ≤ maxLen) (h2 : Ts w w.heap.size A2 n2 ts) (hc2 : n2 ≤ c2) (hm2 : c2 ≤ maxLen) :
    Calls Try.prog 4 #[.slice A n c, .int .i64 F, .int .i64 rand, .slice A2 n2 c2, .int .i64 stop] w fun e w' => e = .returned (.bool true) ∧ Below w.heap.size w w' := by
  have hlen := h.len
  have HB := Lib.hid h
  have HT := Lib.hid h2
  have hnc : (n : Int) ≤ c := by omega
  have hnc2 : (n2 : Int) ≤ c2 := by omega
  have hc63 : (c : Int) ≤ 9223372036854775807 := by unfold maxLen at hm; omega
  have hc263 : (c2 : Int) ≤ 9223372036854775807 := by unfold maxLen at hm2; omega
  have hn63 : (n : Int) ≤ 9223372036854775807 := by omega
  have hn263 : (n2 : Int) ≤ 9223372036854775807 := by omega
  clear h h2 hm hm2
  by_cases h200 : 200 < n
  · have h200I : (200 : Int) < n := by omega
    go_enter Try.func4, Try.ntmps4
    go_wp2_with (go_at_call 7; refine (exalive_any _).mono ?_; rintro e w1 ⟨rfl, b1⟩; have H1 := Lib.hid b1; clear b1)
    go_ret
    exact ⟨rfl, H1.out⟩
  have h200I : ¬ (200 : Int) < n := by omega
  by_cases h40 : 40 < n2
  · have h40I : (40 : Int) < n2 := by omega
    go_enter Try.func4, Try.ntmps4
    go_wp2_with (go_at_call 7; refine (exalive_any _).mono ?_; rintro e w1 ⟨rfl, b1⟩; have H1 := Lib.hid b1; clear b1)
    go_ret
    exact ⟨rfl, H1.out⟩
  have h40I : ¬ (40 : Int) < n2 := by omega
  by_cases hF0 : F < 0
  · go_enter Try.func4, Try.ntmps4
    go_wp2_with (go_at_call 7; refine (exalive_any _).mono ?_; rintro e w1 ⟨rfl, b1⟩; have H1 := Lib.hid b1; clear b1)
    go_ret
    exact ⟨rfl, H1.out⟩
  by_cases hF9 : 549755813888 < F
  · go_enter Try.func4, Try.ntmps4
    go_wp2_with (go_at_call 7; refine (exalive_any _).mono ?_; rintro e w1 ⟨rfl, b1⟩; have H1 := Lib.hid b1; clear b1)
    go_ret
    exact ⟨rfl, H1.out⟩
  have hF : 0 ≤ F ∧ F ≤ 549755813888 := by omega
  have hr63 := and63_ stop
  have hr63b : 0 ≤ stop % 64 ∧ stop % 64 < 64 := by omega
  generalize stop % 64 = r63 at hr63 hr63b
  obtain ⟨mr, hmr⟩ : ∃ mr, max rand 0 = mr := ⟨_, rfl⟩
  have hmr0 : 0 ≤ mr := by omega
  obtain ⟨W, hW⟩ : ∃ W, waitT rand = W := ⟨_, rfl⟩
  have hWb : 20 ≤ W ∧ W ≤ 30 := hW ▸ waitT_in rand
  have hwait : 20 + mr % 11 = W := by rw [← hW, ← hmr]; rfl
  have hst : startQ (List.map Xr.q []) (tellT 0 F) 3 9 l rand = (EQ l F W 0, 0) := by
    have e : tellT 0 F = F := by unfold tellT; omega
    rw [e, ← hW]; rfl
  have htl : tellT 0 F = F := by unfold tellT; omega
  have HST := Lib.hid (And.intro hst htl)
  clear hst htl hW
  go_enter Try.func4, Try.ntmps4
  go_wp2_with (go_at_call 7; refine (exalive_any _).mono ?_; rintro e w1 ⟨rfl, b1⟩; have H1 := Lib.hid b1; clear b1)
  refine (exnew_f w1).mono ?_
  rintro e w2 ⟨rfl, ht2, b2, s2⟩
  have htb : w.heap.size ≤ w1.heap.size := H1.out.size
  have H2 := Lib.hid (And.intro ht2 (And.intro (H1.out.trans (b2.mono htb)) (show w1.heap.size < w2.heap.size by omega)))
  obtain ⟨tb, htbe⟩ : ∃ tb, w1.heap.size = tb := ⟨_, rfl⟩
  rw [htbe] at htb H2
  rw [htbe]
  clear ht2 b2 s2 htbe
  go_wp2_with fail
  refine (rcopy_any A n c l w2 _ ((HB.out.below H2.out.2.1).more H2.out.2.1.size) (Nat.le_refl _) (by omega)).mono ?_
  rintro e w3 ⟨v3, rfl, ho3, b3⟩
  obtain ⟨A3, c3, rfl, hc3, _⟩ := Bs.of_own ho3
  rw [hlen] at ho3 hc3
  rw [hlen]
  have H3 := Lib.hid (And.intro (H2.out.1.below b3) (And.intro (H2.out.2.1.trans (b3.mono H2.out.2.1.size)) (show Ob w3 w2.heap.size A3 n c3 l from ⟨ho3, by omega⟩)))
  clear ho3 b3
  go_wp2_with fail
  refine (exstart2_f H3.out.1 3 9 A3 n c3 l (fun W hW => Ob.bs (B := w2.heap.size) (c := c3) ⟨hW.row_ H3.out.2.2.1 (own_low H3.out.2.2.1 H2.out.2.2) (own_no _), H3.out.2.2.2⟩) (by omega) F rand).mono ?_
  rintro e w4 ⟨rfl, v4, vs4, ht4, hm4, _, hf4, hown4⟩
  rw [HST.out.1]
  rw [HST.out.1] at hm4
  rw [HST.out.2] at ht4
  have hob4 : Ob w4 w2.heap.size A3 n c3 l := ⟨hf4.row_ H3.out.2.2.1 (own_low H3.out.2.2.1 H2.out.2.2) (own_no _), H3.out.2.2.2⟩
  have hoff : ∀ s ∈ vs4, (Value.slice s.A s.n s.c).ownBlock = none ∨ (Value.slice s.A s.n s.c).ownBlock ≠ (Value.slice A3 n c3).ownBlock := fun s hs => by
    rcases hown4 s hs with h | h
    · cases h
    · cases hk : (Value.slice s.A s.n s.c).ownBlock with
      | none => exact .inl rfl
      | some k =>
        refine .inr (fun e => ?_)
        have h1 := (h.1.lt k hk).1
        have h2 := (H3.out.2.2.1.lt k e.symm).2
        omega
  have H4 := Lib.hid (And.intro ht4 (And.intro hm4 (And.intro (Fx.up H3.out.2.1 H3.out.1 htb hf4) (And.intro hob4 hoff))))
  clear ht4 hm4 hf4 hown4 hob4 hoff
  try dsimp only
  go_wp2
  go_loopw [54] (fun iv wz => ∃ j : Nat, j ≤ n ∧ iv = .int .i64 (j : Int) ∧ Aside (MyB wz w2.heap.size A3 n c3 ∧ w4.grownBy wz (Value.slice A3 n c3).ownBlock)) (fun iv _ => n - (intOf iv).toNat)
  case atStart => exact ⟨0, Nat.zero_le _, rfl, MyB.of H4.out.2.2.2.1.1, World.grownBy.refl _ _⟩
  case round =>
    obtain ⟨j, hjm, rfl, hrel⟩ := hrel
    by_cases hjl : j < n
    · obtain ⟨g, rfl, hg, hgc, hfz, hcell⟩ := hrel.out.1.open_ (by omega)
      obtain ⟨z, hz⟩ := hcell j hjl
      have hfj := hfz j
      have hjI : (j : Int) < n := by omega
      have hset := fun y => hrel.out.1.set j y
      have HS := Lib.hid (And.intro hset hrel.out.2)
      clear hrel hfz hcell hset
      go_wp2
      go_roundw
      case rel => exact ⟨j + 1, by omega, by go_num, (show Aside _ from ⟨(HS.out.1 _).1, rk_trans HS.out.2 (HS.out.1 _).2⟩)⟩
      case measure => simp [intOf]; omega
    · obtain rfl : n = j := by omega
      have hjI : ¬ (n : Int) < n := by omega
      have htm : TmR w tb l F W r63 0 F 0 false wr := ⟨⟨v4, vs4, H4.out.1.off H4.out.2.2.2.1.1 H4.out.2.2.2.2 hrel.out.2, H4.out.2.1⟩, rk_in' H4.out.2.2.1 (rk_mono H4.out.2.2.2.1.1 H2.out.2.1.size) hrel.out.2 H4.out.2.2.1.size, fun h => absurd h (by omega), fun h => by cases h⟩
      have HTM := Lib.hid htm
      clear hrel htm
      go_wp2
      go_loopw [15, 16, 17, 71] (fun v15 v16 v17 iv wz => ∃ (k : Nat) (now : Int) (g : Nat) (st : Bool), k ≤ n2 ∧ iv = .int .i64 (k : Int) ∧ v15 = .int .i64 now ∧ v16 = .int .i64 (g : Int) ∧ v17 = .bool st ∧ F ≤ now ∧ now ≤ F + 255 * k ∧ g ≤ 5 ∧ Aside (TmR w tb l F W r63 k now g st wz)) (fun _ _ _ iv _ => n2 - (intOf iv).toNat)
      case atStart => exact ⟨0, F, 0, false, Nat.zero_le _, rfl, rfl, rfl, rfl, by omega, by omega, by omega, HTM.out⟩
      case round =>
        obtain ⟨k, now, g, st, hk, rfl, rfl, rfl, rfl, hn0, hn1, hg5, hrel⟩ := hrel
        by_cases hkt : k < n2
        · obtain ⟨t, ht⟩ : ∃ t, ts[k]? = some t := ⟨_, List.getElem?_eq_getElem (by rw [HT.out.len]; exact hkt)⟩
          obtain ⟨b2, off2, rfl, hb2, hat2⟩ := HT.out.place (by omega)
          have hcell : wr.cell? ⟨b2, off2 + k, none⟩ = some (.int .i64 t) := (hrel.out.bel.cell (p := ⟨b2, off2 + k, none⟩) hb2).trans (hat2 k t ht)
          have hkI : (k : Int) < n2 := by omega
          have hkc : (k : Int) < c2 := by omega
          have hk40 : (k : Int) < 40 := by omega
          obtain ⟨r, hr⟩ : ∃ r, t % 256 = r := ⟨_, rfl⟩
          have hr0 : 0 ≤ r ∧ r < 256 := by omega
          have hand : bits .and .i64 t 255 = r := by rw [and255_]; exact hr
          obtain ⟨v, vs, htab, hvq⟩ := hrel.out.tab
          have HE := Lib.hid (And.intro htab (And.intro hvq (And.intro hrel.out.bel (And.intro hrel.out.due hrel.out.end_))))
          clear hrel htab hvq hat2 ht hr
          go_wp2_with fail
          refine (expass_f HE.out.1 (now + r)).mono ?_
          rintro e w6 ⟨A6, c6, ss6, v6, vs6, rfl, hss6, hms6, ht6, hm6, hv6, hf6⟩
          obtain ⟨now', hnow⟩ : ∃ now', now + r = now' := ⟨_, rfl⟩
          have htn : tellT now (now + r) = now' := by unfold tellT; omega
          obtain ⟨G, hgG, hG5, hpass, hlate, hdue, hsame⟩ := pass_st (l := l) (F := F) (W := W) (now := now') (st := st) hg5 (fun h => Int.le_trans (HE.out.2.2.2.1 h) (by omega))
          rw [htn, HE.out.2.1, hpass] at hms6 hm6
          rw [htn] at ht6
          have hM : List.length ss6 = G - g := by rw [sr_len hms6, List.length_map, List.length_range']
          have hb6 := Fx.up HE.out.2.2.1 HE.out.1 htb hf6
          have H6 := Lib.hid (And.intro hss6 (And.intro hms6 (And.intro ht6 (And.intro hm6 (And.intro hb6 (And.intro hlate (And.intro hdue (And.intro hM hsame))))))))
          obtain ⟨M, hMe⟩ : ∃ M, G - g = M := ⟨_, rfl⟩
          have hMG : g + M = G := by omega
          have hM5 : (M : Int) ≤ 5 := by omega
          obtain ⟨A', c', hv, hnc6, hcm6, hat6, _⟩ := RowK.At.of_own hss6.row
          injection hv with g1 g2 g3
          subst g1 g3
          rw [hM, hMe] at hat6 hnc6
          rw [hM, hMe, hnow]
          have hc6I : (c6 : Int) ≤ 9223372036854775807 := by simp only [maxLen] at hcm6; omega
          have hMcI : (M : Int) ≤ c6 := by omega
          have HA := Lib.hid hat6
          clear hss6 hms6 ht6 hm6 hv6 hf6 hpass hlate hdue hsame hM hb6 htn hand hcell g2 hcm6 hat6
          try dsimp only
          go_wp2
          go_loopw [16, 84] (fun v16 iv wz => ∃ i : Nat, i ≤ M ∧ iv = .int .i64 (i : Int) ∧ v16 = .int .i64 ((g : Int) + i) ∧ Aside (Below w6.heap.size w6 wz)) (fun _ iv _ => M - (intOf iv).toNat)
          case atStart => exact ⟨0, Nat.zero_le _, rfl, by go_num, Below.refl _ _⟩
          case round =>
            obtain ⟨i, hi, rfl, rfl, hrel⟩ := hrel
            by_cases hil : i < M
            · obtain rfl : st = false := by
                cases st with
                | false => rfl
                | true => have := H6.out.2.2.2.2.2.2.2.2 rfl; omega
              have hwr := HA.out.below hrel.out
              obtain ⟨s, hs⟩ := HA.out.get hil
              obtain ⟨b, off, rfl, hb, _⟩ := HA.out.place (by omega)
              have hrg := hwr.range hs
              have hsq : s.q = sentX l (g + i) := by
                have e1 : (ss6.map Sr.q)[i]? = some s.q := by rw [List.getElem?_map, hs]; rfl
                rw [H6.out.2.1, List.getElem?_map, List.getElem?_range' (by omega)] at e1
                rw [Nat.one_mul] at e1
                exact (Option.some.inj e1).symm
              have hobs := (H6.out.1.each s (List.mem_of_getElem? hs)).below hrel.out
              have hil5 : g + i < 5 := by omega
              obtain ⟨q, sA, sn, sc⟩ := s
              dsimp only at hsq hobs
              subst hsq
              have hnc2 : (sn : Int) ≤ 9223372036854775807 := by have := hobs.2; omega
              have hiI : (i : Int) < M := by omega
              have hic : (i : Int) < c6 := by omega
              obtain ⟨lo, hlo⟩ : ∃ lo, decide (g + i = 4) = lo := ⟨_, rfl⟩
              have hlo5 : ((g : Int) + i + 1 == 5) = lo := by
                rw [← hlo]
                by_cases e : g + i = 4
                · rw [decide_eq_true e]; exact beq_iff_eq.2 (by omega)
                · rw [decide_eq_false e]; exact beq_eq_false_iff_ne.2 (by omega)
              have hll : (lo != lo) = false := by cases lo <;> rfl
              obtain ⟨σ, hσ⟩ : ∃ σ, (g : Int) + i = σ := ⟨_, rfl⟩
              have hσb : 0 ≤ σ ∧ σ < 5 := by omega
              simp only [srK, Sr.vals, sentX, hlo] at hrg
              rw [hσ] at hlo5 ⊢
              have HR := Lib.hid (And.intro hrel.out (And.intro hobs hσ))
              have hsz := hrel.out.size
              clear hrel hwr hs hobs hlo hσ
              go_upto_region 25 with (refine wpList_load_mid rfl 55 (.tmp 86) rfl b (off + i * 4) rfl [.int .i64 3, .int .i64 9, .slice sA sn sc, .bool lo] _ hrg Try.underlying55 rfl size_sent ?_)
              refine wp_at_world (F := fun W => Below wr.heap.size wr W ∧ W.heap[wr.heap.size]? = some (.cells #[.int .i64 3, .int .i64 9, .slice sA sn sc, .bool lo] 55)) ⟨alloc_below _ _, heap_alloc_new _ _⟩ fun wy ⟨by_, xy⟩ => ?_
              have hrv := range_here [.int .i64 3, .int .i64 9, .slice sA sn sc, .bool lo] xy rfl
              have e0 := hrv 0 _ rfl
              have e1 := hrv 1 _ rfl
              have e2 := hrv 2 _ rfl
              have e3 := hrv 3 _ rfl
              have hby : Below w6.heap.size w6 wy := HR.out.1.trans (by_.mono hsz)
              have hsame := same_any sA A sn sc n c l l wy _ _ (HR.out.2.1.below by_).bs (HB.out.below (H6.out.2.2.2.2.1.trans (hby.mono H6.out.2.2.2.2.1.size))) hnc2 hn63
              rw [decide_eq_true rfl] at hsame
              have hwy : wr.heap.size < wy.heap.size := (Array.getElem?_eq_some_iff.1 xy).1
              have HY := Lib.hid (And.intro hby hsame)
              clear by_ xy hrv hby hsame hrg
              have HE3 := Lib.hid (And.intro e3 hwy)
              clear e3 hwy
              go_wp2_with fail
              refine HY.out.2.mono ?_
              rintro e wx ⟨rfl, m, hwx⟩
              have HX := Lib.hid (show Below w6.heap.size w6 wx by rw [hwx]; exact HY.out.1.trans ((drewN_below _ _ m).mono HY.out.1.size))
              have f3 : wx.cell? ⟨wr.heap.size, 3, none⟩ = some (.bool lo) := by
                rw [hwx]
                exact ((drewN_below _ _ m).cell (p := ⟨wr.heap.size, 3, none⟩) HE3.out.2).trans HE3.out.1
              clear hwx
              go_wp2
              go_roundw
              case rel => exact ⟨i + 1, by omega, by go_num, by rw [← HR.out.2.2]; go_num, (show Aside _ from HX.out)⟩
              case measure => simp [intOf]; omega
            · obtain rfl : i = M := by omega
              have hiI : ¬ (i : Int) < i := by omega
              have hGI : (g : Int) + i = G := by omega
              rw [hGI]
              have htm : TbAt wr tb v6 now' vs6 ∧ vs6.map Xr.q = (if st then [] else EQ l F W G) ∧ Below w.heap.size w wr := ⟨H6.out.2.2.1.below (hrel.out), H6.out.2.2.2.1, H6.out.2.2.2.2.1.trans (hrel.out.mono H6.out.2.2.2.2.1.size)⟩
              have H7 := Lib.hid htm
              clear hrel htm
              go_wp2
              go_loopw [22, 23, 24] (fun v22 v23 v24 wz => ∃ κ at_ : Int, v22 = .int .i64 κ ∧ v23 = .int .i64 at_ ∧ v24 = .int .i64 κ ∧ ((κ = 0 ∧ at_ = F + W) ∨ (κ = 1 ∧ at_ = F + W * 3 ∧ F + W ≤ now') ∨ (κ = 2 ∧ at_ = F + W * 7 ∧ F + W * 3 ≤ now') ∨ (κ = 3 ∧ at_ = F + W * 15 ∧ F + W * 7 ≤ now') ∨ (κ = 4 ∧ at_ = F + W * 31 ∧ F + W * 15 ≤ now') ∨ (κ = 5 ∧ F + W * 31 ≤ now')) ∧ Aside (TbAt wz tb v6 now' vs6 ∧ vs6.map Xr.q = (if st then [] else EQ l F W G) ∧ Below w.heap.size w wz)) (fun _ _ iv _ => 5 - (intOf iv).toNat)
              case atStart => exact ⟨0, F + W, rfl, rfl, rfl, .inl ⟨rfl, rfl⟩, H7.out⟩
              case round =>
                obtain ⟨κ, at_, rfl, rfl, rfl, hdis, hrel⟩ := hrel
                have H8 := Lib.hid hrel.out
                clear hrel
                by_cases hx : κ = 5 ∨ now' < at_
                · cases st with
                  | true =>
                    have hany : (vs6.map Xr.q).any (hitX 3 9) = false := by rw [H8.out.2.1]; rfl
                    have hhas := exhas_f H8.out.1 3 9
                    rw [hany] at hhas
                    have HH := Lib.hid hhas
                    have hkr : ((k : Int) == r63) = false := beq_eq_false_iff_ne.2 (by have := HE.out.2.2.2.2 rfl; omega)
                    have hkr2 : ¬ (k : Int) = r63 := beq_eq_false_iff_ne.1 hkr
                    clear hany hhas
                    by_cases h5 : κ = 5
                    · subst h5
                      go_wp2_with (go_at_call 22; refine HH.out.mono ?_; rintro e wx ⟨rfl, bx⟩; have HX := Lib.hid bx; clear bx)
                      go_roundw
                      case rel => exact ⟨k + 1, now', G, true, by omega, by go_num, rfl, rfl, rfl, by omega, by omega, hG5, (show Aside _ from ⟨⟨v6, vs6, H8.out.1.below HX.out, H8.out.2.1⟩, H8.out.2.2.trans (HX.out.mono H8.out.2.2.size), H6.out.2.2.2.2.2.2.1, fun _ => by have := HE.out.2.2.2.2 (by trivial); omega⟩)⟩
                      case measure => simp [intOf]; omega
                    · have hk5 : κ < 5 := by omega
                      have hna : ¬ at_ ≤ now' := by omega
                      go_wp2_with (go_at_call 22; refine HH.out.mono ?_; rintro e wx ⟨rfl, bx⟩; have HX := Lib.hid bx; clear bx)
                      go_roundw
                      case rel => exact ⟨k + 1, now', G, true, by omega, by go_num, rfl, rfl, rfl, by omega, by omega, hG5, (show Aside _ from ⟨⟨v6, vs6, H8.out.1.below HX.out, H8.out.2.1⟩, H8.out.2.2.trans (HX.out.mono H8.out.2.2.size), H6.out.2.2.2.2.2.2.1, fun _ => by have := HE.out.2.2.2.2 (by trivial); omega⟩)⟩
                      case measure => simp [intOf]; omega
                  | false =>
                    have hκ := want_is hF hWb hG5 (H6.out.2.2.2.2.2.1 rfl) H6.out.2.2.2.2.2.2.1 hdis hx
                    have hany : (vs6.map Xr.q).any (hitX 3 9) = decide (G < 5) := by rw [H8.out.2.1]; exact EQ.any G
                    have hhas := exhas_f H8.out.1 3 9
                    have hstop := exstop_f H8.out.1 3 9
                    rw [hany] at hhas
                    have hGG : ((G : Int) != (G : Int)) = false := bne_self_eq_false _
                    by_cases hG : G < 5
                    · have hGI5 : (G : Int) < 5 := by omega
                      have hna : ¬ at_ ≤ now' := by omega
                      rw [decide_eq_true hG] at hhas hany
                      have HH := Lib.hid (And.intro hhas hany)
                      subst hκ
                      clear hhas hany hdis hx hstop
                      by_cases hkr : (k : Int) = r63
                      · have hkr2 : ((k : Int) == r63) = true := beq_iff_eq.2 hkr
                        go_wp2_with (go_at_call 22; refine HH.out.1.mono ?_; rintro e wx ⟨rfl, bx⟩; have HX := Lib.hid bx; clear bx)
                        refine (exstop_f (H8.out.1.below HX.out) 3 9).mono ?_
                        rintro e w9 ⟨rfl, v9, vs9, ht9, hm9, _, hf9⟩
                        rw [HH.out.2]
                        have hb9 := Fx.up (H8.out.2.2.trans (HX.out.mono H8.out.2.2.size)) (H8.out.1.below HX.out) htb hf9
                        have hq9 : vs9.map Xr.q = [] := by rw [hm9, H8.out.2.1]; exact EQ.stop G
                        have H9 := Lib.hid (And.intro ht9 (And.intro hq9 hb9))
                        clear ht9 hm9 hf9 hq9 hb9
                        try dsimp only
                        go_wp2
                        go_roundw
                        case rel => exact ⟨k + 1, now', G, true, by omega, by go_num, rfl, rfl, rfl, by omega, by omega, hG5, (show Aside _ from ⟨⟨v9, vs9, H9.out.1, H9.out.2.1⟩, H9.out.2.2, H6.out.2.2.2.2.2.2.1, fun _ => by omega⟩)⟩
                        case measure => first | (simp only [intOf]; omega) | (show n2 - ((k : Int) + 1).toNat < n2 - (k : Int).toNat; omega) | (simp [intOf]; omega)
                      · have hkr2 : ((k : Int) == r63) = false := beq_eq_false_iff_ne.2 hkr
                        go_wp2_with (go_at_call 22; refine HH.out.1.mono ?_; rintro e wx ⟨rfl, bx⟩; have HX := Lib.hid bx; clear bx)
                        go_roundw
                        case rel => exact ⟨k + 1, now', G, false, by omega, by go_num, rfl, rfl, rfl, by omega, by omega, hG5, (show Aside _ from ⟨⟨v6, vs6, H8.out.1.below HX.out, H8.out.2.1⟩, H8.out.2.2.trans (HX.out.mono H8.out.2.2.size), H6.out.2.2.2.2.2.2.1, fun h => by cases h⟩)⟩
                        case measure => first | (simp only [intOf]; omega) | (show n2 - ((k : Int) + 1).toNat < n2 - (k : Int).toNat; omega) | (simp [intOf]; omega)
                    · have hGI5 : ¬ (G : Int) < 5 := by omega
                      rw [decide_eq_false hG] at hhas hany
                      have HH := Lib.hid (And.intro hhas hany)
                      subst hκ
                      clear hhas hany hdis hx hstop
                      by_cases hkr : (k : Int) = r63
                      · have hkr2 : ((k : Int) == r63) = true := beq_iff_eq.2 hkr
                        go_wp2_with (go_at_call 22; refine HH.out.1.mono ?_; rintro e wx ⟨rfl, bx⟩; have HX := Lib.hid bx; clear bx)
                        go_roundw
                        case rel => exact ⟨k + 1, now', G, false, by omega, by go_num, rfl, rfl, rfl, by omega, by omega, hG5, (show Aside _ from ⟨⟨v6, vs6, H8.out.1.below HX.out, H8.out.2.1⟩, H8.out.2.2.trans (HX.out.mono H8.out.2.2.size), H6.out.2.2.2.2.2.2.1, fun h => by cases h⟩)⟩
                        case measure => first | (simp only [intOf]; omega) | (show n2 - ((k : Int) + 1).toNat < n2 - (k : Int).toNat; omega) | (simp [intOf]; omega)
                      · have hkr2 : ((k : Int) == r63) = false := beq_eq_false_iff_ne.2 hkr
                        go_wp2_with (go_at_call 22; refine HH.out.1.mono ?_; rintro e wx ⟨rfl, bx⟩; have HX := Lib.hid bx; clear bx)
                        go_roundw
                        case rel => exact ⟨k + 1, now', G, false, by omega, by go_num, rfl, rfl, rfl, by omega, by omega, hG5, (show Aside _ from ⟨⟨v6, vs6, H8.out.1.below HX.out, H8.out.2.1⟩, H8.out.2.2.trans (HX.out.mono H8.out.2.2.size), H6.out.2.2.2.2.2.2.1, fun h => by cases h⟩)⟩
                        case measure => first | (simp only [intOf]; omega) | (show n2 - ((k : Int) + 1).toNat < n2 - (k : Int).toNat; omega) | (simp [intOf]; omega)
                · have hle : at_ ≤ now' := by omega
                  have hk5 : κ < 5 := by omega
                  rcases hdis with ⟨rfl, rfl⟩ | ⟨rfl, rfl, _⟩ | ⟨rfl, rfl, _⟩ | ⟨rfl, rfl, _⟩ | ⟨rfl, rfl, _⟩ | ⟨rfl, _⟩
                  · go_wp2
                    go_roundw
                    case rel => exact ⟨1, F + W * 3, by go_num, by go_num, by go_num, .inr (.inl ⟨rfl, rfl, hle⟩), (show Aside _ from H8.out)⟩
                    case measure => first | decide | (simp [intOf]; done)
                  · go_wp2
                    go_roundw
                    case rel => exact ⟨2, F + W * 7, by go_num, by go_num, by go_num, .inr (.inr (.inl ⟨rfl, rfl, hle⟩)), (show Aside _ from H8.out)⟩
                    case measure => first | decide | (simp [intOf]; done)
                  · go_wp2
                    go_roundw
                    case rel => exact ⟨3, F + W * 15, by go_num, by go_num, by go_num, .inr (.inr (.inr (.inl ⟨rfl, rfl, hle⟩))), (show Aside _ from H8.out)⟩
                    case measure => first | decide | (simp [intOf]; done)
                  · go_wp2
                    go_roundw
                    case rel => exact ⟨4, F + W * 31, by go_num, by go_num, by go_num, .inr (.inr (.inr (.inr (.inl ⟨rfl, rfl, hle⟩)))), (show Aside _ from H8.out)⟩
                    case measure => first | decide | (simp [intOf]; done)
                  · go_wp2
                    go_roundw
                    case rel => exact ⟨5, F + W * 63, by go_num, by go_num, by go_num, .inr (.inr (.inr (.inr (.inr ⟨rfl, hle⟩)))), (show Aside _ from H8.out)⟩
                    case measure => first | decide | (simp [intOf]; done)
                  · omega
        · obtain rfl : k = n2 := by omega
          have hkI : ¬ (k : Int) < k := by omega
          have HF := Lib.hid hrel.out.bel
          clear hrel
          go_wp2
          go_ret
          exact ⟨rfl, HF.out⟩
end Go.Proofs.Ytkhikpbchimodaa
