/-
  ExchSteps: in one pass or in many, the same is sent.
-/
import Derived.Test.YtkhikpbchimodaaExInts
import Derived.Deep.CutRange
import Derived.Deep.CutBlock
namespace Go.Proofs.Ytkhikpbchimodaa
open Go.RowKit
set_option maxRecDepth 100000
set_option maxRecDepth 100000
set_option linter.unusedVariables false
/-- What stands at the head of each round of passes. -/
def SpR (w : World) (ta tb : Nat) (T : Int) (vb : Value) (ys : List Xr) (k : Nat) (cur : Int) (v : Value) (n : Nat) (W : World) : Prop :=
  ∃ va xs ss m, TwS w ta tb (tellT T cur) T va vb xs ys W ∧ SsAt W w.heap.size 55 v ss ∧ List.length ss = n ∧ m ≤ tellT T cur ∧ ss.map Sr.q = (passed (ys.map Xr.q) m).1 ∧ xs.map Xr.q = (passed (ys.map Xr.q) m).2 ∧ (0 < k → m = tellT T cur)
set_option maxHeartbeats 32000000 in
theorem exsteps_law (A : Option Addr) (n c : Nat) (os : List Opx) (A2 : Option Addr) (n2 c2 : Nat) (ts : List Int) (w : World) (h : Opxs w w.heap.size A n os) (hc : n ≤ c) (hm : c ≤ maxLen) (h2 : Ts w w.heap.size A2 n2 ts) (hc2 : n2 ≤ c2) (hm2 : c2 ≤ maxLen) :
    Calls Try.prog 5 #[.slice A n c, .slice A2 n2 c2] w fun e w' => e = .returned (.bool true) ∧ Below w.heap.size w w' := by
  have hsm := fun W (hb : Below w.heap.size w W) => small12_f A n c os W _ (h.below hb (Nat.le_refl _)) hb.size hc hm
  have hnc2 : (n2 : Int) ≤ c2 := by omega
  have hc263 : (c2 : Int) ≤ 9223372036854775807 := by unfold maxLen at hm2; omega
  have hn263 : (n2 : Int) ≤ 9223372036854775807 := by omega
  obtain ⟨b, hb⟩ : ∃ b, smallOx os = b := ⟨_, rfl⟩
  rw [hb] at hsm
  have HS := Lib.hid hsm
  clear hsm
  cases b with
  | false =>
    go_enter Try.func5, Try.ntmps5
    go_wp2_with (first
      | (go_at_call 7; refine (exalive_any _).mono ?_; rintro e w1 ⟨rfl, b1⟩; have H1 := Lib.hid b1; clear b1)
      | (go_at_call 8; refine (HS.out _ H1.out).mono ?_; rintro e w2 ⟨rfl, b2⟩; have H2 := Lib.hid b2; clear b2))
    go_ret
    exact ⟨rfl, H1.out.trans (H2.out.mono H1.out.size)⟩
  | true =>
    obtain ⟨h60, h200⟩ := smallOx_is hb
    have hl := h.len
    have HO := Lib.hid (And.intro h (And.intro h60 (And.intro h200 hl)))
    have HT := Lib.hid h2
    have hnI : (n : Int) ≤ 60 := by omega
    have hncI : (n : Int) ≤ c := by omega
    have hcI : (c : Int) ≤ 9223372036854775807 := by unfold maxLen at hm; omega
    clear h h2 hb h60 h200
    by_cases h10 : 10 < n2
    · have h10I : (10 : Int) < n2 := by omega
      go_enter Try.func5, Try.ntmps5
      go_wp2_with (first
        | (go_at_call 7; refine (exalive_any _).mono ?_; rintro e w1 ⟨rfl, b1⟩; have H1 := Lib.hid b1; clear b1)
        | (go_at_call 8; refine (HS.out _ H1.out).mono ?_; rintro e w2 ⟨rfl, b2⟩; have H2 := Lib.hid (H1.out.trans (b2.mono H1.out.size)); clear b2))
      go_ret
      exact ⟨rfl, H2.out⟩
    have h10I : ¬ (10 : Int) < n2 := by omega
    by_cases h0 : n2 = 0
    · have h0I : (n2 : Int) = 0 := by omega
      go_enter Try.func5, Try.ntmps5
      go_wp2_with (first
        | (go_at_call 7; refine (exalive_any _).mono ?_; rintro e w1 ⟨rfl, b1⟩; have H1 := Lib.hid b1; clear b1)
        | (go_at_call 8; refine (HS.out _ H1.out).mono ?_; rintro e w2 ⟨rfl, b2⟩; have H2 := Lib.hid (H1.out.trans (b2.mono H1.out.size)); clear b2))
      go_ret
      exact ⟨rfl, H2.out⟩
    have h0I : ¬ (n2 : Int) = 0 := by omega
    have h0b : ((n2 : Int) == 0) = false := beq_eq_false_iff_ne.2 h0I
    go_enter Try.func5, Try.ntmps5
    go_wp2_with (first
      | (go_at_call 7; refine (exalive_any _).mono ?_; rintro e w1 ⟨rfl, b1⟩; have H1 := Lib.hid b1; clear b1)
      | (go_at_call 8; refine (HS.out _ H1.out).mono ?_; rintro e w2 ⟨rfl, b2⟩; have H2 := Lib.hid (H1.out.trans (b2.mono H1.out.size)); clear b2))
    refine (exnew_f w2).mono ?_
    rintro e w3 ⟨rfl, ht3, b3, s3⟩
    have htb : w.heap.size ≤ w2.heap.size := H2.out.size
    have H3 := Lib.hid (And.intro ht3 (H2.out.trans (b3.mono htb)))
    obtain ⟨ta, htae⟩ : ∃ ta, w2.heap.size = ta := ⟨_, rfl⟩
    rw [htae] at htb H3 s3
    rw [htae]
    clear ht3 b3 htae
    go_wp2_with fail
    refine (exnew_f w3).mono ?_
    rintro e w4 ⟨rfl, ht4, b4, s4⟩
    obtain ⟨tb, htbe⟩ : ∃ tb, w3.heap.size = tb := ⟨_, rfl⟩
    have hne : ta ≠ tb := by omega
    have htc : w.heap.size ≤ tb := by omega
    have H4 := Lib.hid (TwS.mk (H3.out.1.below b4) ht4 (fun k e => by cases e) (H3.out.2.trans (b4.mono H3.out.2.size)) : TwS w ta w3.heap.size 0 0 (.slice none 0 0) (.slice none 0 0) [] [] w4)
    rw [htbe] at H4
    rw [htbe]
    clear ht4 b4 s4 s3 htbe H3
    go_wp2
    go_loopw [33] (fun iv wr => ∃ k : Nat, k ≤ n ∧ iv = .int .i64 (k : Int) ∧ Aside (∃ T va vb xs ys, TwS w ta tb T T va vb xs ys wr ∧ xs.map Xr.q = ys.map Xr.q)) (fun iv _ => n - (intOf iv).toNat)
    case atStart => exact ⟨0, Nat.zero_le _, rfl, _, _, _, _, _, H4.out, rfl⟩
    case round =>
      obtain ⟨k, hk, rfl, hrel⟩ := hrel
      by_cases hlt : k < n
      · obtain ⟨s, hs⟩ := opx_get (os := os) (k := k) (by rw [hl]; exact hlt)
        obtain ⟨b, off, rfl, hb, hat⟩ := HO.out.1.place (by omega)
        obtain ⟨T, va, vb, xs, ys, htw, heq⟩ := hrel.out
        have hop := (hat k s hs).keep hb (fun p hp => htw.bel.cell (p := p) (by omega))
        have hrg := hop.range
        simp only [Opx.vals] at hrg
        have hkI : (k : Int) < n := by omega
        obtain ⟨r, hr⟩ : ∃ r, s.t % 1024 = r := ⟨_, rfl⟩
        have hr0 : 0 ≤ r ∧ r < 1024 := by omega
        have hand : bits .and .i64 s.t 1023 = r := by rw [and1023_]; exact hr
        have HE := Lib.hid (And.intro htw (And.intro heq (And.intro (hat k s hs).bs (HO.out.2.2.1 s (List.mem_of_getElem? hs)))))
        clear hrel hs hat hop htw heq hr
        go_upto_region 9 with (refine wpList_load_mid rfl 32 (.tmp 35) rfl b (off + k * 6) rfl [.int .i64 s.k, .int .i64 s.a, .int .i64 s.b, .slice s.A s.n s.c, .int .i64 s.t, .int .i64 s.r] _ hrg Try.underlying32 rfl size_opx ?_)
        refine wp_at_world (F := fun W => TwS w ta tb T T va vb xs ys W ∧ BoxX W wr.heap.size s) ⟨HE.out.1.below (alloc_below _ _), heap_alloc_new _ _⟩ fun w5 ⟨h5, x5⟩ => ?_
        obtain ⟨gb, hgb⟩ : ∃ gb, wr.heap.size = gb := ⟨_, rfl⟩
        rw [hgb] at x5 ⊢
        clear hgb
        have e1 := x5.range 1 _ rfl
        have e2 := x5.range 2 _ rfl
        have e3 := x5.range 3 _ rfl
        have e4 := x5.range 4 _ rfl
        have e5 := x5.range 5 _ rfl
        have H5 := Lib.hid (And.intro h5 x5)
        clear h5 x5 hrg
        go_wp2_with fail
        refine (exstart_f H5.out.1.a s.a s.b s.A s.n s.c s.l (fun W hW => (HE.out.2.2.1.below (Fx.up H5.out.1.bel H5.out.1.a htb hW)).more (Fx.up H5.out.1.bel H5.out.1.a htb hW).size) (by have := HE.out.2.2.2; omega) r s.r).mono ?_
        rintro e w6 ⟨rfl, v6, vs6, ht6, hm6, hrf6, hf6⟩
        have hx6 : BoxX w6 gb s := typ_fx hf6 H5.out.1.a.blk H5.out.1.a.row H5.out.2 (by decide) (by decide)
        have H6 := Lib.hid (And.intro (H5.out.1.left hne htb hf6 ht6 hrf6) (And.intro hm6 hx6))
        have d1 := hx6.range 1 _ rfl
        have d2 := hx6.range 2 _ rfl
        have d3 := hx6.range 3 _ rfl
        have d5 := hx6.range 5 _ rfl
        clear ht6 hm6 hrf6 hf6 hx6 e1 e2 e3 e4 e5
        go_wp2_with fail
        refine (exstart_f H6.out.1.b s.a s.b s.A s.n s.c s.l (fun W hW => (HE.out.2.2.1.below (Fx.up H6.out.1.bel H6.out.1.b htc hW)).more (Fx.up H6.out.1.bel H6.out.1.b htc hW).size) (by have := HE.out.2.2.2; omega) r s.r).mono ?_
        rintro e w7 ⟨rfl, v7, vs7, ht7, hm7, hrf7, hf7⟩
        have H7 := Lib.hid (And.intro (H6.out.1.swap.left (fun e => hne e.symm) htc hf7 ht7 hrf7).swap (show vs6.map Xr.q = vs7.map Xr.q by rw [hm7, H6.out.2.1, HE.out.2.1]))
        clear ht7 hm7 hrf7 hf7 d1 d2 d3 d5
        go_wp2
        go_roundw
        case rel => exact ⟨k + 1, by omega, by go_num, (show Aside _ from ⟨_, v6, v7, vs6, vs7, H7.out.1, H7.out.2⟩)⟩
        case measure => simp [intOf]; omega
      · obtain rfl : k = n := by omega
        have hkI : ¬ (k : Int) < k := by omega
        obtain ⟨T, va, vb, xs, ys, htw, heq⟩ := hrel.out
        have HW := Lib.hid (And.intro htw heq)
        have hszr : w.heap.size ≤ wr.heap.size := htw.bel.size
        clear hrel htw heq
        go_upto_region 14 with fail
        refine wp_at_world (F := fun W => TwS w ta tb T T va vb xs ys W ∧ W.ownsRow w.heap.size 55 4 (.slice (some ⟨wr.heap.size, 0, none⟩) 0 0) 0 []) ⟨HW.out.1.below (alloc_below _ _), rk_empty wr _ hszr _ _⟩ fun w5 ⟨h5, o5⟩ => ?_
        have H5 := Lib.hid (And.intro h5 o5)
        have hT := h5.a.nw
        have hpot : pot (ys.map Xr.q) ≤ 20 := by
          have h1 := pot_le (qs := ys.map Xr.q)
          have h2 := h5.b.good.few
          omega
        have htl : tellT T 0 = T := by unfold tellT; omega
        have hsp : SpR w ta tb T vb ys 0 0 (.slice (some ⟨wr.heap.size, 0, none⟩) 0 0) 0 w5 := by
          have hn := passed_none (qs := ys.map Xr.q) (now := -1) (fun q hq => by have := (h5.b.good.ok q hq).1; omega)
          refine ⟨va, xs, [], -1, by rw [htl]; exact h5, ⟨o5, fun s hs => by cases hs⟩, rfl, by rw [htl]; omega, by rw [hn]; rfl, by rw [hn]; exact HW.out.2, fun h => absurd h (by omega)⟩
        have HG := Lib.hid h5.b.good
        have HSP := Lib.hid hsp
        obtain ⟨i0, hi0, hz0, hz1, hz2⟩ := info_parts info_sent
        clear h5 o5 hsp htl
        go_wp2
        go_loopw [10, 11, 66] (fun v10 v11 iv wz => ∃ (k : Nat) (A3 : Option Addr) (L c3 : Nat) (cur : Int), k ≤ n2 ∧ iv = .int .i64 (k : Int) ∧ v10 = .slice A3 L c3 ∧ v11 = .int .i64 cur ∧ 0 ≤ cur ∧ cur ≤ 511 * k ∧ Aside (SpR w ta tb T vb ys k cur (.slice A3 L c3) L wz)) (fun _ _ iv _ => n2 - (intOf iv).toNat)
        case atStart => exact ⟨0, _, _, _, 0, Nat.zero_le _, rfl, rfl, rfl, by omega, by omega, HSP.out⟩
        case round =>
          obtain ⟨j, A3, L, c3, cur, hj, rfl, rfl, rfl, hcu0, hcu1, hrel⟩ := hrel
          by_cases hjt : j < n2
          · obtain ⟨t, ht⟩ : ∃ t, ts[j]? = some t := ⟨_, List.getElem?_eq_getElem (by rw [HT.out.len]; exact hjt)⟩
            obtain ⟨b2, off2, rfl, hb2, hat2⟩ := HT.out.place (by omega)
            obtain ⟨va', xs', ss, m, htw, hss, hL, hm1, hm2', hm3, hm4⟩ := hrel.out
            have hcell : wr.cell? ⟨b2, off2 + j, none⟩ = some (.int .i64 t) := (htw.bel.cell (p := ⟨b2, off2 + j, none⟩) hb2).trans (hat2 j t ht)
            have hjI : (j : Int) < n2 := by omega
            have hjc : (j : Int) < c2 := by omega
            obtain ⟨r, hr⟩ : ∃ r, t % 512 = r := ⟨_, rfl⟩
            have hr0 : 0 ≤ r ∧ r < 512 := by omega
            have hand : bits .and .i64 t 511 = r := by rw [and511_]; exact hr
            have HE := Lib.hid (And.intro htw (And.intro hss (And.intro hL (And.intro hm1 (And.intro hm2' hm3)))))
            have hj10 : (j : Int) ≤ 10 := by omega
            clear hrel htw hss hL hm1 hm2' hm3 hm4 hat2 ht hr
            go_wp2_with fail
            refine (expass_f HE.out.1.a (cur + r)).mono ?_
            rintro e w6 ⟨A6, c6, ss6, v6, vs6, rfl, hss6, hms6, ht6, hm6, hv6, hf6⟩
            rw [tell_two (T := T) (show cur ≤ cur + r by omega)] at hms6 ht6 hm6
            rw [HE.out.2.2.2.2.2] at hms6 hm6
            have hp2 := passed_two HG.out (show m ≤ tellT T (cur + r) from Int.le_trans HE.out.2.2.2.1 (tell_le (by omega)))
            have hpp := passed_pot (tellT T (cur + r)) HG.out
            have htw6 := HE.out.1.left hne htb hf6 ht6 (row_same hv6)
            have hso6 := HE.out.2.1.fx hf6 HE.out.1.a.blk HE.out.1.a.row (by decide) (by decide)
            obtain ⟨M, hM⟩ : ∃ M, List.length ss6 = M := ⟨_, rfl⟩
            have hLM : L + M ≤ 20 := by
              rw [hp2, List.length_append, ← HE.out.2.2.2.2.1, ← hms6, List.length_map, List.length_map, HE.out.2.2.1, hM] at hpp
              omega
            have hr10 := hso6.row
            have hr6 := hss6.row
            rw [HE.out.2.2.1] at hr10
            rw [hM] at hr6
            rw [hM]
            have hsz6 := htw6.bel.size
            have H6 := Lib.hid (And.intro htw6 (And.intro hso6 (And.intro (hss6.mono HE.out.1.bel.size) (And.intro hM (And.intro hr10 (And.intro hr6 (And.intro (show (ss ++ ss6).map Sr.q = (passed (ys.map Xr.q) (tellT T (cur + r))).1 by rw [List.map_append, hp2, HE.out.2.2.2.2.1, hms6]) (show vs6.map Xr.q = (passed (ys.map Xr.q) (tellT T (cur + r))).2 by rw [hp2, hm6]))))))))
            clear hss6 hms6 ht6 hm6 hv6 hf6 hp2 hpp htw6 hso6 hM hr10 hr6
            try dsimp only
            rename_i hKK
            refine hKK _ _ ?_
            refine srK.append_row w6 rfl (.tmp 74) (.tmp 77) 40 rfl w.heap.size 55 i0 _ 48 Try.underlying40 hi0 hz0 hz1 hz2 rfl (.slice A3 L c3) L ss rfl H6.out.2.2.2.2.1 _ 55 (.slice A6 M c6) M ss6 rfl H6.out.2.2.2.2.2.1 (by omega) (by unfold maxLen; omega) hsz6 ?_
            intro A7 c7 w7 hown hgr
            have H7 := Lib.hid (And.intro hown (And.intro (H6.out.1.grown H6.out.2.2.2.2.1 hgr) hgr))
            clear hown hgr
            go_wp2
            go_roundw
            case rel =>
              refine ⟨j + 1, A7, L + M, c7, cur + r, by omega, by go_num, rfl, rfl, by omega, by omega, (show Aside _ from ⟨v6, vs6, ss ++ ss6, tellT T (cur + r), H7.out.2.1, ⟨?_, fun y hy => ?_⟩, by rw [List.length_append, HE.out.2.2.1, H6.out.2.2.2.1], Int.le_refl _, H6.out.2.2.2.2.2.2.1, H6.out.2.2.2.2.2.2.2, fun _ => rfl⟩)⟩
              · rw [List.length_append, HE.out.2.2.1, H6.out.2.2.2.1]; exact H7.out.1
              · have hob : Ob w6 w.heap.size y.A y.n y.c y.q.l := by
                  rcases List.mem_append.1 hy with h1 | h1
                  · exact H6.out.2.1.each y h1
                  · exact H6.out.2.2.1.each y h1
                exact ⟨hob.1.kept H7.out.2.2 (rk_apart hob.1 H6.out.2.2.2.2.1 (by decide)), hob.2⟩
            case measure => simp [intOf]; omega
          · obtain rfl : j = n2 := by omega
            have hjI : ¬ (j : Int) < j := by omega
            obtain ⟨va', xs', ss, m, htw, hss, hL, hm1, hm2', hm3, hm4⟩ := hrel.out
            obtain rfl := hm4 (by omega)
            have hl20 : List.length ss ≤ 20 := by
              have hpp := passed_pot (tellT T cur) HG.out
              rw [← hm2', List.length_map] at hpp
              omega
            have has := as12_f A3 L c3 ss wr 0 (hss.mono (Nat.zero_le _)) (Nat.zero_le _) (by omega)
            have HE := Lib.hid (And.intro htw (And.intro hm2' (And.intro hm3 (And.intro hL has))))
            clear hrel htw hss hL hm1 hm2' hm3 hm4 has
            go_wp2_with fail
            refine HE.out.2.2.2.2.mono ?_
            rintro e w6 ⟨A6, c6, he, hs6, b6⟩
            rw [HE.out.2.2.2.1] at he hs6
            obtain rfl := he
            have H6 := Lib.hid (And.intro (HE.out.1.below b6) hs6)
            clear hs6 b6
            go_wp2_with fail
            refine (expass_f H6.out.1.b cur).mono ?_
            rintro e w7 ⟨A7, c7, ss7, v7, vs7, rfl, hss7, hms7, ht7, hm7, hv7, hf7⟩
            have hl7 : List.length ss7 ≤ 20 := by
              have hpp := passed_pot (tellT T cur) HG.out
              rw [← hms7, List.length_map] at hpp
              omega
            have has7 := as12_f A7 (List.length ss7) c7 ss7 w7 0 (hss7.mono (Nat.zero_le _)) (Nat.zero_le _) (by omega)
            have htw7 := (H6.out.1.swap.left (fun e => hne e.symm) htc hf7 ht7 (row_same hv7)).swap
            have hs7 := H6.out.2.fx hf7 H6.out.1.b.blk H6.out.1.b.row (by decide) (by decide)
            obtain ⟨M, hM⟩ : ∃ M, List.length ss7 = M := ⟨_, rfl⟩
            rw [hM] at has7
            rw [hM]
            have hxl : List.length xs' = List.length vs7 := by
              have := congrArg List.length (HE.out.2.2.1.trans hm7.symm)
              rwa [List.length_map, List.length_map] at this
            have H7 := Lib.hid (And.intro htw7 (And.intro hs7 (And.intro has7 (And.intro hM (And.intro (HE.out.2.1.trans hms7.symm) hxl)))))
            clear hss7 hms7 ht7 hm7 hv7 hf7 hl7 has7 htw7 hs7 hM hxl
            try dsimp only
            go_wp2_with fail
            refine H7.out.2.2.1.mono ?_
            rintro e w8 ⟨A8, c8, he, hs8, b8⟩
            rw [H7.out.2.2.2.1] at he hs8
            obtain rfl := he
            have hsm := rsame12_f A6 A8 L M c6 c8 ss ss7 w8 0 0 (H7.out.2.1.below b8) hs8 H7.out.2.2.2.2.1
            have H8 := Lib.hid (And.intro (H7.out.1.below b8) hsm)
            clear hs8 b8 hsm
            go_wp2_with fail
            refine H8.out.2.mono ?_
            rintro e w9 ⟨rfl, b9⟩
            have H9 := Lib.hid (H8.out.1.below b9)
            clear b9
            have hla := exlen_f H9.out.a
            have hlb := exlen_f H9.out.b
            rw [H7.out.2.2.2.2.2] at hla
            obtain ⟨q, hq⟩ : ∃ q, List.length vs7 = q := ⟨_, rfl⟩
            rw [hq] at hla hlb
            have HLA := Lib.hid hla
            have HLB := Lib.hid hlb
            have hqq : ((q : Int) == (q : Int)) = true := beq_self_eq_true _
            clear hla hlb hq
            go_wp2_with (first
              | (go_at_call 21; refine HLA.out.mono ?_; rintro e wx ⟨rfl, hwx⟩; obtain rfl := hwx.symm)
              | (go_at_call 21; refine HLB.out.mono ?_; rintro e wx ⟨rfl, hwx⟩; obtain rfl := hwx.symm))
            go_ret
            exact ⟨rfl, H9.out.bel⟩
end Go.Proofs.Ytkhikpbchimodaa
