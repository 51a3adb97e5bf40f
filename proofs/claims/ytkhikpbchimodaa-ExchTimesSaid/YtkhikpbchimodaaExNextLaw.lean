/-
  ExchNext: nothing is sent ahead of the next time, and something at it.
-/
import Derived.Test.YtkhikpbchimodaaExAlive
import Derived.Test.YtkhikpbchimodaaExSmall
import Derived.Deep.CutRange
import Derived.Deep.CutBlock
namespace Go.Proofs.Ytkhikpbchimodaa
open Go.RowKit
set_option maxRecDepth 100000
set_option maxRecDepth 100000
set_option linter.unusedVariables false
theorem sr_len {ss : List Sr} {l : List Sq} (h : ss.map Sr.q = l) : List.length ss = List.length l := by rw [← h, List.length_map]
theorem vs_len {vs : List Xr} {l : List Xq} (h : vs.map Xr.q = l) : List.length vs = List.length l := by rw [← h, List.length_map]
theorem fst_none {qs : List Xq} (h : qs[fstQ qs]? = none) : qs = [] := by
  cases qs with
  | nil => rfl
  | cons a qs =>
    have := fstQ_lt (qs := a :: qs) (by simp)
    rw [List.getElem?_eq_getElem this] at h; cases h
/-- What stands at the head of each round. -/
def NxR (w : World) (tb : Nat) (k : Nat) (W : World) : Prop := ∃ now v vs, ExS w tb now (vs.map Xr.q) v vs W ∧ 1024 ≤ now ∧ (∀ q ∈ vs.map Xr.q, now < q.u) ∧ pot (vs.map Xr.q) + k ≤ 20
set_option maxHeartbeats 16000000 in
theorem exnext_law (A : Option Addr) (n c : Nat) (os : List Opx) (w : World) (h : Opxs w w.heap.size A n os) (hc : n ≤ c) (hm : c ≤ maxLen) :
    Calls Try.prog 6 #[.slice A n c] w fun e w' => e = .returned (.bool true) ∧ Below w.heap.size w w' := by
  have hsm := fun W (hb : Below w.heap.size w W) => small12_f A n c os W _ (h.below hb (Nat.le_refl _)) hb.size hc hm
  obtain ⟨b, hb⟩ : ∃ b, smallOx os = b := ⟨_, rfl⟩
  rw [hb] at hsm
  have HS := Lib.hid hsm
  clear hsm
  cases b with
  | false =>
    go_enter Try.func6, Try.ntmps6
    go_wp2_with (first
      | (go_at_call 7; refine (exalive_any _).mono ?_; rintro e w1 ⟨rfl, b1⟩; have H1 := Lib.hid b1; clear b1)
      | (go_at_call 8; refine (HS.out _ H1.out).mono ?_; rintro e w2 ⟨rfl, b2⟩; have H2 := Lib.hid b2; clear b2))
    go_ret
    exact ⟨rfl, H1.out.trans (H2.out.mono H1.out.size)⟩
  | true =>
    obtain ⟨h60, h200⟩ := smallOx_is hb
    have hl := h.len
    have HO := Lib.hid (And.intro h (And.intro h60 (And.intro h200 hl)))
    have hnI : (n : Int) ≤ 60 := by omega
    have hncI : (n : Int) ≤ c := by omega
    have hcI : (c : Int) ≤ 9223372036854775807 := by unfold maxLen at hm; omega
    clear h hb h60 h200
    go_enter Try.func6, Try.ntmps6
    go_wp2_with (first
      | (go_at_call 7; refine (exalive_any _).mono ?_; rintro e w1 ⟨rfl, b1⟩; have H1 := Lib.hid b1; clear b1)
      | (go_at_call 8; refine (HS.out _ H1.out).mono ?_; rintro e w2 ⟨rfl, b2⟩; have H2 := Lib.hid (H1.out.trans (b2.mono H1.out.size)); clear b2)
      | (go_at_call 9; refine (exnew_f w2).mono ?_; rintro e w3 ⟨rfl, ht3, b3, s3⟩; have H3 := Lib.hid (And.intro ht3 b3); clear ht3 b3 s3))
    have htb : w.heap.size ≤ w2.heap.size := H2.out.size
    have h0 : ExS w w2.heap.size 0 (([] : List Xr).map Xr.q) (.slice none 0 0) [] w3 := ⟨H3.out.1, rfl, H2.out.trans (H3.out.2.mono htb)⟩
    have H0 := Lib.hid h0
    clear h0
    obtain ⟨tb, htbe⟩ : ∃ tb, w2.heap.size = tb := ⟨_, rfl⟩
    rw [htbe] at htb H0
    rw [htbe]
    clear htbe H3
    go_loopw [18] (fun iv wr => ∃ k : Nat, k ≤ n ∧ iv = .int .i64 (k : Int) ∧ Aside (∃ now v vs, ExS w tb now (List.map Xr.q vs) v vs wr)) (fun iv _ => n - (intOf iv).toNat)
    case atStart => exact ⟨0, Nat.zero_le _, rfl, _, _, _, H0.out⟩
    case round =>
      obtain ⟨k, hk, rfl, hrel⟩ := hrel
      by_cases hlt : k < n
      · obtain ⟨s, hs⟩ := opx_get (os := os) (k := k) (by rw [hl]; exact hlt)
        obtain ⟨b, off, rfl, hb, hat⟩ := HO.out.1.place (by omega)
        obtain ⟨now, v, vs, hex⟩ := hrel.out
        have hop := (hat k s hs).keep hb (fun p hp => hex.b.cell (p := p) (by omega))
        have hrg := hop.range
        simp only [Opx.vals] at hrg
        have hkI : (k : Int) < n := by omega
        have HE := Lib.hid (And.intro hex (And.intro (hat k s hs).bs (HO.out.2.2.1 s (List.mem_of_getElem? hs))))
        clear hrel hs hat hop hex
        go_upto_region 9 with (refine wpList_load_mid rfl 32 (.tmp 20) rfl b (off + k * 6) rfl [.int .i64 s.k, .int .i64 s.a, .int .i64 s.b, .slice s.A s.n s.c, .int .i64 s.t, .int .i64 s.r] _ hrg Try.underlying32 rfl size_opx ?_)
        refine wp_at_world (F := fun W => Below wr.heap.size wr W ∧ W.heap[wr.heap.size]? = some (.cells #[.int .i64 s.k, .int .i64 s.a, .int .i64 s.b, .slice s.A s.n s.c, .int .i64 s.t, .int .i64 s.r] 32)) ⟨alloc_below _ _, heap_alloc_new _ _⟩ fun w5 ⟨b5, x5⟩ => ?_
        have hrv := range_here [.int .i64 s.k, .int .i64 s.a, .int .i64 s.b, .slice s.A s.n s.c, .int .i64 s.t, .int .i64 s.r] x5 rfl
        have e1 := hrv 1 _ rfl
        have e2 := hrv 2 _ rfl
        have e3 := hrv 3 _ rfl
        have e4 := hrv 4 _ rfl
        have e5 := hrv 5 _ rfl
        have h5 : ExS w tb now (vs.map Xr.q) v vs w5 := ⟨HE.out.1.t.below b5, HE.out.1.m, HE.out.1.b.trans (b5.mono HE.out.1.b.size)⟩
        have H5 := Lib.hid h5
        clear b5 x5 h5 hrg hrv
        go_wp2_with fail
        refine (exstart_f H5.out.t s.a s.b s.A s.n s.c s.l (fun W hW => (HE.out.2.1.below (Fx.up H5.out.b H5.out.t htb hW)).more (Fx.up H5.out.b H5.out.t htb hW).size) (by have := HE.out.2.2; omega) _ _).mono ?_
        rintro e w6 ⟨rfl, v6, vs6, ht6, hm6, _, hf6⟩
        have H6 := Lib.hid (And.intro ht6 (Fx.up H5.out.b H5.out.t htb hf6))
        clear ht6 hm6 hf6 e1 e2 e3 e4 e5
        go_wp2
        go_roundw
        case rel => exact ⟨k + 1, by omega, by go_num, (show Aside _ from ⟨_, v6, vs6, H6.out.1, rfl, H6.out.2⟩)⟩
        case measure => simp [intOf]; omega
      · obtain rfl : k = n := by omega
        have hkI : ¬ (k : Int) < k := by omega
        obtain ⟨now, v, vs, hex⟩ := hrel.out
        have HE := Lib.hid hex
        clear hrel hex
        go_wp2_with fail
        refine (expass_f HE.out.t 1024).mono ?_
        rintro e w6 ⟨A6, c6, ss6, v6, vs6, rfl, _, _, ht6, hm6, _, hf6⟩
        have hnx : NxR w tb 0 w6 := by
          refine ⟨_, v6, vs6, ⟨ht6, rfl, Fx.up HE.out.b HE.out.t htb hf6⟩, by unfold tellT; omega, by rw [hm6]; exact passed_late _ HE.out.t.good, ?_⟩
          rw [hm6]
          have h1 := passed_pot (tellT now 1024) HE.out.t.good
          have h2 := pot_le (qs := vs.map Xr.q)
          have h3 := HE.out.t.good.few
          omega
        have H6 := Lib.hid hnx
        clear ht6 hm6 hf6 hnx
        go_wp2
        go_loopw [38] (fun iv wz => ∃ j : Nat, j ≤ 30 ∧ iv = .int .i64 (j : Int) ∧ Aside (NxR w tb j wz)) (fun iv _ => 30 - (intOf iv).toNat)
        case atStart => exact ⟨0, by omega, rfl, H6.out⟩
        case round =>
          obtain ⟨j, hj, rfl, hrel⟩ := hrel
          obtain ⟨now, v, vs, hex, hn1, hn2, hpot⟩ := hrel.out
          have hj20 : j ≤ 20 := by omega
          have hjI : (j : Int) < 30 := by omega
          have hnext := exnext_f hex.t
          have HE2 := Lib.hid (And.intro hex (And.intro hn1 (And.intro hn2 hpot)))
          have HN := Lib.hid hnext
          clear hrel hex hn1 hn2 hpot hnext
          go_wp2_with fail
          refine HN.out.mono ?_
          rintro e w7 ⟨he, b7⟩
          have h7 : ExS w tb now (vs.map Xr.q) v vs w7 := ⟨HE2.out.1.t.below b7, rfl, HE2.out.1.b.trans (b7.mono HE2.out.1.b.size)⟩
          have H7 := Lib.hid h7
          clear b7 h7
          cases hq : (vs.map Xr.q)[fstQ (vs.map Xr.q)]? with
          | none =>
            rw [hq] at he
            obtain rfl : e = .returned (.tuple #[.int .i64 0, .bool false]) := he
            have hnil := fst_none hq
            obtain rfl : vs = [] := List.map_eq_nil_iff.1 hnil
            have hlen := exlen_f H7.out.t
            have HL := Lib.hid hlen
            clear hq hnil hlen
            try dsimp only
            go_wp2_with (go_at_call 21; refine HL.out.mono ?_; rintro e w8 ⟨rfl, hw⟩; obtain rfl := hw.symm)
            go_ret
            exact ⟨rfl, H7.out.b⟩
          | some q =>
            rw [hq] at he
            obtain rfl : e = .returned (.tuple #[.int .i64 q.u, .bool true]) := he
            have hqm := List.mem_of_getElem? hq
            have hqu := HE2.out.2.2.1 q hqm
            have hqk := H7.out.t.good.ok q hqm
            have hle := fstQ_le hq
            obtain ⟨hu0, hu1, _⟩ := hqk
            have hn0 := H7.out.t.nw
            have hn1 := HE2.out.2.1
            have hT1 : tellT now (q.u - 1) = q.u - 1 := by unfold tellT; omega
            have hp1 := expass_f H7.out.t (q.u - 1)
            have hno : passed (vs.map Xr.q) (q.u - 1) = ([], vs.map Xr.q) := passed_none (fun p hp => by have := hle p hp; omega)
            rw [hT1] at hp1
            have HP1 := Lib.hid (And.intro hp1 (And.intro hno (And.intro hq hle)))
            have huI : ¬ q.u ≤ 1024 := by omega
            clear hp1 hno hq hqm hle hT1
            try dsimp only
            go_wp2_with fail
            refine HP1.out.1.mono ?_
            rintro e w8 ⟨A8, c8, ss8, v8, vs8, rfl, _, hm8, ht8, hn8, _, hf8⟩
            rw [HP1.out.2.1] at hm8 hn8
            obtain rfl : ss8 = [] := List.map_eq_nil_iff.1 hm8
            have hp2 := expass_f ht8 q.u
            have hT2 : tellT (q.u - 1) q.u = q.u := by unfold tellT; omega
            rw [hT2, hn8] at hp2
            have H8 := Lib.hid (And.intro ht8 (And.intro (Fx.up H7.out.b H7.out.t htb hf8) hn8))
            have HP2 := Lib.hid hp2
            clear hm8 ht8 hn8 hf8 hp2 hT2
            go_wp2_with fail
            refine HP2.out.mono ?_
            rintro e w9 ⟨A9, c9, ss9, v9, vs9, rfl, _, hm9, ht9, hn9, _, hf9⟩
            have hgo := passed_go (now := q.u) H7.out.t.good.g HP1.out.2.2.1 (Int.le_refl _)
            have hpos : 0 < List.length ss9 := by rw [sr_len hm9, hgo]; exact Nat.succ_pos _
            have hpt := passed_pot q.u H7.out.t.good
            have hl20 : List.length ss9 ≤ 20 := by rw [sr_len hm9]; have := HE2.out.2.2.2; omega
            have hnx : NxR w tb (j + 1) w9 := by
              refine ⟨_, v9, vs9, ⟨ht9, rfl, Fx.up H8.out.2.1 H8.out.1 htb hf9⟩, by omega, by rw [hn9]; exact passed_late _ H7.out.t.good, ?_⟩
              rw [hn9]
              have h1 := HE2.out.2.2.2
              rw [← sr_len hm9] at hpt
              omega
            have hlate : ∀ p ∈ vs9.map Xr.q, q.u < p.u := by rw [hn9]; exact passed_late _ H7.out.t.good
            have hnext := exnext_f ht9
            obtain ⟨L, hL⟩ : ∃ L, List.length ss9 = L := ⟨_, rfl⟩
            rw [hL] at hpos hl20
            rw [hL]
            have hL0 : ((L : Int) == 0) = false := beq_eq_false_iff_ne.2 (by omega)
            have H9 := Lib.hid (And.intro hnx hlate)
            have HN9 := Lib.hid hnext
            clear hm9 ht9 hn9 hf9 hgo hpt hnx hlate hnext hL
            go_wp2_with fail
            refine HN9.out.mono ?_
            rintro e w10 ⟨he, b10⟩
            have h10 : NxR w tb (j + 1) w10 := by
              obtain ⟨now', v', vs', g1, g2, g3, g4⟩ := H9.out.1
              exact ⟨now', v', vs', ⟨g1.t.below b10, rfl, g1.b.trans (b10.mono g1.b.size)⟩, g2, g3, g4⟩
            have H10 := Lib.hid h10
            clear h10 b10
            cases hq9 : (vs9.map Xr.q)[fstQ (vs9.map Xr.q)]? with
            | none =>
              rw [hq9] at he
              obtain rfl : e = .returned (.tuple #[.int .i64 0, .bool false]) := he
              clear hq9
              try dsimp only
              go_wp2
              go_roundw
              case rel => exact ⟨j + 1, by omega, by go_num, H10.out⟩
              case measure => simp [intOf]; omega
            | some p =>
              rw [hq9] at he
              obtain rfl : e = .returned (.tuple #[.int .i64 p.u, .bool true]) := he
              have hpu := H9.out.2 p (List.mem_of_getElem? hq9)
              have hpI : ¬ p.u ≤ q.u := by omega
              clear hq9
              try dsimp only
              go_wp2
              go_roundw
              case rel => exact ⟨j + 1, by omega, by go_num, H10.out⟩
              case measure => simp [intOf]; omega
end Go.Proofs.Ytkhikpbchimodaa
