/-
  MsgShort: an empty answer, and a reset, of an ID are four bytes, read as it.
-/
import Derived.Test.YtihicplembaoeaaMsgRound
import Derived.Test.YtihicplembaoeaaMsgAlive
namespace Go.Proofs.Ytihicplembaoeaa
open Go.RowKit
set_option maxRecDepth 100000
set_option linter.unusedVariables false
theorem short_ok (k : Nat) (hk : k ≤ 3) (id : Int) (h0 : 0 ≤ id) (h1 : id ≤ 65535) : (mwr k 0 id [] [] []).2 = 0 ∧ (mwr k 0 id [] [] []).1.length = 4 ∧ rdM (mwr k 0 id [] [] []).1 = (⟨k, 0, id, [], [], []⟩, 0) := by
  have hr : rngB k 0 id = true := by unfold rngB; exact decide_eq_true (by omega)
  have he : wrP [] = ([], 0) := by decide +kernel
  have hm : mwr k 0 id [] [] [] = (mwHd k 0 id.toNat 0 ++ ([] ++ ([] ++ [])), 0) := by
    unfold mwr
    rw [if_neg (by rintro (e | ⟨_, e⟩); rw [hr] at e; cases e; simp at e), if_neg (by simp), he, if_neg (by simp)]
    rfl
  have h2 : (mwr k 0 id [] [] []).2 = 0 := by rw [hm]
  refine ⟨h2, by rw [hm]; rfl, ?_⟩
  have := rd_mw h2
  rw [this]
  rfl
theorem short_no (k : Nat) (id : Int) (h : id < 0 ∨ 65535 < id) : mwr k 0 id [] [] [] = ([], 1) := by
  have hr : rngB k 0 id = false := by unfold rngB; exact decide_eq_false (by omega)
  unfold mwr
  rw [if_pos (.inl hr)]
theorem mqB_refl (m : Mq) : mqB m m = true := decide_eq_true ⟨rfl, rfl, rfl, rfl, rfl, rfl⟩
/-- Two messages just laid in a row. -/
def twelve (id : Int) : List Value := [.int .i64 2, .int .i64 0, .int .i64 id, .slice none 0 0, .slice none 0 0, .slice none 0 0, .int .i64 3, .int .i64 0, .int .i64 id, .slice none 0 0, .slice none 0 0, .slice none 0 0]
theorem twelve_at {w : World} {b : Nat} {id : Int} (h : w.rangeAt b 0 (twelve id)) (i : Nat) (hi : i < 2) : w.rangeAt b (i * 6) [.int .i64 ((2 + i : Nat) : Int), .int .i64 0, .int .i64 id, .slice none 0 0, .slice none 0 0, .slice none 0 0] := by
  intro j v hv
  match i, hi with
  | 0, _ => exact h j v (by match j, hv with | 0, hv | 1, hv | 2, hv | 3, hv | 4, hv | 5, hv => exact hv | j + 6, hv => simp at hv)
  | 1, _ =>
    have := h (6 + j) v (by match j, hv with | 0, hv | 1, hv | 2, hv | 3, hv | 4, hv | 5, hv => exact hv | j + 6, hv => simp at hv)
    rwa [Nat.zero_add] at this
set_option maxHeartbeats 4000000 in
theorem short_law (kd cd id0 : Int) (tA : Option Addr) (tn tc : Nat) (oA : Option Addr) (on oc : Nat) (bA : Option Addr) (bn bc : Nat) (vs : List Sv) (tok : List UInt8) (ps : List (Int × List UInt8)) (body : List UInt8) (id : Int) (w : World)
    (hm : Ms w w.heap.size tA tn oA on vs bA bn tok ps body) (hon : on ≤ maxLen) :
    Calls Try.prog 13 #[.agg #[.int .i64 kd, .int .i64 cd, .int .i64 id0, .slice tA tn tc, .slice oA on oc, .slice bA bn bc], .int .i64 id] w fun e w' => e = .returned (.bool true) ∧ Below w.heap.size w w' := by
  have hb0 := alloc_below w (.cells #[.int .i64 kd, .int .i64 cd, .int .i64 id0, .slice tA tn tc, .slice oA on oc, .slice bA bn bc] 51)
  obtain ⟨W0, hW0⟩ : ∃ W0, w.alloc (.cells #[.int .i64 kd, .int .i64 cd, .int .i64 id0, .slice tA tn tc, .slice oA on oc, .slice bA bn bc] 51) = W0 := ⟨_, rfl⟩
  have hs0 : W0.heap.size = w.heap.size + 1 := by rw [← hW0, alloc_size]
  have hr0 : W0.rangeAt w.heap.size 0 [.int .i64 kd, .int .i64 cd, .int .i64 id0, .slice tA tn tc, .slice oA on oc, .slice bA bn bc] := hW0 ▸ range_newA w _ 51 rfl
  rw [hW0] at hb0
  have hal := malive_any W0
  have hrg : ∀ W, Below W0.heap.size W0 W → W.rangeAt w.heap.size 0 [.int .i64 kd, .int .i64 cd, .int .i64 id0, .slice tA tn tc, .slice oA on oc, .slice bA bn bc] := fun W h => range_below hr0 h (by omega)
  have hfew := fun W (h : Below W0.heap.size W0 W) => few9_f kd cd id0 tA tn tc oA on oc bA bn bc vs tok ps body W ((hm.below (hb0.trans (h.mono (by omega)))).more (by have := h.size; omega)) (by simp only [maxLen] at hon; omega)
  obtain ⟨fw, hfw⟩ : ∃ fw, fewM ⟨kd, cd, id0, tok, ps, body⟩ = fw := ⟨_, rfl⟩
  rw [hfw] at hfew
  have ht0 : W0.there w.heap.size 0 6 := hW0 ▸ there_new w _ 51 rfl
  have HA := Lib.hid (And.intro hal (And.intro hrg (And.intro hfew (And.intro hb0 (And.intro hs0 ht0)))))
  have HW := Lib.hid hW0
  clear hb0 hW0 hs0 hr0 ht0 hal hrg hfew hfw hm hon
  cases fw with
  | false =>
    go_enter Try.func13, Try.ntmps13
    go_wp2_with fail
    rw [HW.out]
    refine HA.out.1.mono ?_
    rintro e w1 ⟨rfl, b1⟩
    obtain ⟨c0, c1, c2, c3, c4, c5⟩ := six (HA.out.2.1 w1 b1)
    have H1 := Lib.hid b1
    clear b1
    go_wp2_with fail
    refine (HA.out.2.2.1 w1 H1.out).mono ?_
    rintro e w2 ⟨rfl, b2⟩
    have H2 := Lib.hid (H1.out.trans (b2.mono H1.out.size))
    clear b2 c0 c1 c2 c3 c4 c5
    go_wp2
    go_ret
    exact ⟨rfl, HA.out.2.2.2.1.trans (H2.out.mono (by have := HA.out.2.2.2.2.1; omega))⟩
  | true =>
    go_enter Try.func13, Try.ntmps13
    go_wp2_with fail
    rw [HW.out]
    refine HA.out.1.mono ?_
    rintro e w1 ⟨rfl, b1⟩
    obtain ⟨c0, c1, c2, c3, c4, c5⟩ := six (HA.out.2.1 w1 b1)
    have H1 := Lib.hid b1
    clear b1
    go_wp2_with fail
    refine (HA.out.2.2.1 w1 H1.out).mono ?_
    rintro e w2 ⟨rfl, b2⟩
    have B2 := H1.out.trans (b2.mono H1.out.size)
    obtain ⟨d0, d1, d2, d3, d4, d5⟩ := six (HA.out.2.1 w2 B2)
    have H2 := Lib.hid B2
    clear b2 B2 c0 c1 c2 c3 c4 c5
    have hfz := (there_below (there_below HA.out.2.2.2.2.2 H2.out (by have := HA.out.2.2.2.2.1; omega)) (Below.refl w2.heap.size w2) (by have := H2.out.size; have := HA.out.2.2.2.2.1; omega) 2 (by omega)).2
    rw [Nat.zero_add] at hfz
    have hbw : Below w.heap.size w w2 := HA.out.2.2.2.1.trans (H2.out.mono (by have := HA.out.2.2.2.2.1; omega))
    have hsc : Below w.heap.size w (w2.setCell ⟨w.heap.size, 2, none⟩ (.int .i64 id)) := hbw.setCell (p := ⟨w.heap.size, 2, none⟩) (Nat.le_refl _) _
    have H2b := Lib.hid hsc
    clear hbw hsc
    go_wp2_with fail
    refine calls_at_world (F := fun W => Below w.heap.size w W) H2b.out fun W3 b3 => ?_
    refine (ack_f kd cd id tA tn tc oA on oc bA bn bc W3).mono ?_
    rintro e w4 ⟨rfl, b4⟩
    have H4 := Lib.hid (b3.trans (b4.mono b3.size))
    clear b3 b4 hfz d0 d1 d2 d3 d4 d5
    go_wp2_with fail
    refine (reset_f id w4).mono ?_
    rintro e w5 ⟨rfl, b5⟩
    have H5 := Lib.hid (H4.out.trans (b5.mono H4.out.size))
    clear b5
    go_wp2_with fail
    refine wp_at_world (F := fun W => Below w.heap.size w W ∧ W.rangeAt w5.heap.size 0 (twelve id) ∧ w5.heap.size + 1 ≤ W.heap.size) ⟨H5.out.alloc H5.out.size _, range_newA w5 _ _ rfl, by rw [alloc_size]; exact Nat.le_refl _⟩ fun W6 ⟨b6, r6, s6⟩ => ?_
    have H6 := Lib.hid (And.intro b6 (And.intro r6 s6))
    have hR : w.heap.size ≤ w5.heap.size := H5.out.size
    generalize w5.heap.size = R at *
    clear b6 r6 s6
    go_loopw [24] (fun i wr => ∃ k : Nat, k ≤ 2 ∧ i = .int .i64 k ∧ Aside (Below w.heap.size w wr ∧ wr.rangeAt R 0 (twelve id) ∧ R + 1 ≤ wr.heap.size)) (fun i _ => 2 - (intOf i).toNat)
    case atStart => exact ⟨0, by omega, rfl, H6.out⟩
    case round =>
      obtain ⟨k, hk, rfl, HR⟩ := hrel
      by_cases hlt : k < 2
      · have hltI : (k : Int) < 2 := by omega
        have hk0 : (0 : Int) ≤ (k : Int) := by omega
        have hr := twelve_at HR.out.2.1 k hlt
        go_wp2_with (refine wpList_load_mid rfl 51 (.tmp 26) rfl R (k * 6) rfl _ _ hr Try.underlying51 rfl size_msg ?_)
        refine calls_at_world (F := fun W => Below wr.heap.size wr W ∧ wr.heap.size + 1 ≤ W.heap.size ∧ W.rangeAt wr.heap.size 0 [.int .i64 ((2 + k : Nat) : Int), .int .i64 0, .int .i64 id, .slice none 0 0, .slice none 0 0, .slice none 0 0]) ⟨alloc_below wr _, by rw [alloc_size]; exact Nat.le_refl _, range_newA wr _ _ rfl⟩ fun W7 ⟨b7, s7, r7⟩ => ?_
        have hw7 := mwrite_f ((2 + k : Nat) : Int) 0 id none 0 0 none 0 0 none 0 0 [] [] [] [] W7 (Ms.zero _ _) (by omega) (by omega) (by omega)
        have HRn := Lib.hid (HR.out.1.trans (b7.mono HR.out.1.size))
        have HRr := Lib.hid (range_below HR.out.2.1 b7 HR.out.2.2)
        have hst := HR.out.2.2
        by_cases hid : id < 0 ∨ 65535 < id
        · rw [short_no (2 + k) id hid] at hw7
          refine hw7.mono ?_
          rintro e w8 ⟨A8, n8, c8, rfl, ⟨hc8, hm8⟩, hn8, hb8, b8⟩
          obtain rfl : n8 = 0 := hn8.out
          have H8 := Lib.hid (And.intro (HRn.out.trans (b8.mono HRn.out.size)) (And.intro (range_below HRr.out b8 (by omega)) (show R + 1 ≤ w8.heap.size by have := b8.size; omega)))
          have hidI : id < 0 ∨ (¬ id < 0 ∧ 65535 < id) := by omega
          clear hw7 hc8 hm8 hn8 hb8 b8 hid b7 s7 r7 hr
          try dsimp only
          rcases hidI with h1 | ⟨h1, h2⟩
          all_goals
            go_wp2
            go_roundw
            case rel => exact ⟨k + 1, by omega, by go_num, H8.out⟩
            case measure => simp [intOf]; omega
        · obtain ⟨hz, hz4, hzr⟩ := short_ok (2 + k) (by omega) id (by omega) (by omega)
          obtain ⟨⟨L, er⟩, hL⟩ : ∃ r, mwr ((2 + k : Nat) : Int) 0 id [] [] [] = r := ⟨_, rfl⟩
          rw [hL] at hw7 hz hz4 hzr
          dsimp only at hz hz4 hzr
          subst hz
          refine hw7.mono ?_
          rintro e w8 ⟨A8, n8, c8, rfl, ⟨hc8, hm8⟩, hn8, hb8, b8⟩
          obtain rfl : n8 = 4 := hn8.out.trans hz4
          have hrd := mread_f A8 4 c8 L w8 _ hb8 (Nat.le_refl _) hc8 (by simp only [maxLen] at hm8; omega) (by omega)
          rw [hzr] at hrd
          have h1 : ¬ id < 0 := by omega
          have h2 : ¬ 65535 < id := by omega
          have r8 := range_below r7 b8 (by omega)
          have H8 := Lib.hid (And.intro (HRn.out.trans (b8.mono HRn.out.size)) (And.intro (range_below HRr.out b8 (by omega)) (And.intro (show wr.heap.size + 1 ≤ w8.heap.size by have := b8.size; omega) (And.intro hrd r8))))
          clear hw7 hc8 hm8 hn8 hb8 b8 hid b7 s7 r7 hr hrd hL hz4 hzr r8
          try dsimp only
          go_wp2_with fail
          refine H8.out.2.2.2.1.mono ?_
          rintro e w9 ⟨tA9, tn9, tc9, oA9, on9, oc9, bA9, bn9, bc9, us9, rfl, hcaps, hms, b9⟩
          obtain rfl : tn9 = 0 := hms.t.len.symm
          obtain rfl : on9 = 0 := hms.o.plen.symm
          obtain rfl : bn9 = 0 := hms.b.len.symm
          have H9 := Lib.hid (And.intro (H8.out.1.trans (b9.mono H8.out.1.size)) (And.intro (range_below H8.out.2.1 b9 (by have := H8.out.2.2.1; omega)) (And.intro (range_below H8.out.2.2.2.2 b9 (by have := H8.out.2.2.1; omega)) (And.intro hms (show wr.heap.size + 1 ≤ w9.heap.size by have := H8.out.2.2.1; have := b9.size; omega)))))
          clear hcaps hms b9
          try dsimp only
          have q := fun o => six (range_below H9.out.2.2.1 (alloc_below w9 o) (by have := H9.out.2.2.2.2; omega))
          have q0 := fun o => (q o).1
          have q1 := fun o => (q o).2.1
          have q2 := fun o => (q o).2.2.1
          have q3 := fun o => (q o).2.2.2.1
          have q4 := fun o => (q o).2.2.2.2.1
          have q5 := fun o => (q o).2.2.2.2.2
          clear q
          go_wp2_with fail
          refine calls_at_world (F := fun W => Below w9.heap.size w9 W ∧ w9.heap.size + 1 ≤ W.heap.size ∧ W.rangeAt w9.heap.size 0 [.int .i64 ((2 + k : Nat) : Int), .int .i64 0, .int .i64 id, .slice tA9 0 tc9, .slice oA9 0 oc9, .slice bA9 0 bc9]) ⟨alloc_below w9 _, by rw [alloc_size]; exact Nat.le_refl _, range_newA w9 _ _ rfl⟩ fun W10 ⟨b10, s10, r10⟩ => ?_
          have hsm := msame_f ⟨((2 + k : Nat) : Int), 0, id, [], [], []⟩ ⟨((2 + k : Nat) : Int), 0, id, [], [], []⟩ none none none tA9 oA9 bA9 0 0 0 0 0 0 0 tc9 0 oc9 0 bc9 [] us9 W10 (Ms.zero _ _) ((H9.out.2.2.2.1.below b10).more b10.size) (by omega) (by omega) (by intro x hx; cases hx) (by intro x hx; cases hx)
          rw [mqB_refl] at hsm
          have H10 := Lib.hid (And.intro (H9.out.1.trans (b10.mono H9.out.1.size)) (And.intro (range_below H9.out.2.1 b10 (by have := H9.out.2.2.2.2; omega)) (And.intro s10 r10)))
          clear q0 q1 q2 q3 q4 q5 b10 s10 r10
          refine hsm.mono ?_
          rintro e w11 ⟨rfl, b11⟩
          have hRw : R + 1 ≤ wr.heap.size := HR.out.2.2
          have r11 := range_below H10.out.2.2.2 b11 (by have := H10.out.2.2.1; omega)
          obtain ⟨c0, c1, c2, c3, c4, c5⟩ := six r11
          have H11 := Lib.hid (And.intro (H10.out.1.trans (b11.mono H10.out.1.size)) (And.intro (range_below H10.out.2.1 b11 (by have := H10.out.2.2.1; have := H9.out.2.2.2.2; omega)) (And.intro r11 (show w9.heap.size + 1 ≤ w11.heap.size by have := b11.size; have := H10.out.2.2.1; omega))))
          clear hsm b11 r11
          go_wp2_with fail
          refine (request_f ((2 + k : Nat) : Int) 0 id tA9 0 tc9 oA9 0 oc9 bA9 0 bc9 w11).mono ?_
          rw [show askB 0 = false from rfl]
          rintro e w12 ⟨rfl, b12⟩
          have r12 := range_below H11.out.2.2.1 b12 (by have := H11.out.2.2.2; omega)
          have H12 := Lib.hid (And.intro (H11.out.1.trans (b12.mono H11.out.1.size)) (And.intro (range_below H11.out.2.1 b12 (by have := H11.out.2.2.2; have := H9.out.2.2.2.2; omega)) (And.intro r12 (show w9.heap.size + 1 ≤ w12.heap.size by have := b12.size; have := H11.out.2.2.2; omega))))
          clear c0 c1 c2 c3 c4 c5 b12
          obtain ⟨c0, c1, c2, c3, c4, c5⟩ := six r12
          clear r12
          go_wp2_with fail
          refine (answer_f ((2 + k : Nat) : Int) 0 id tA9 0 tc9 oA9 0 oc9 bA9 0 bc9 w12).mono ?_
          rw [show ansB 0 = false from rfl]
          rintro e w13 ⟨rfl, b13⟩
          have r13 := range_below H12.out.2.2.1 b13 (by have := H12.out.2.2.2; omega)
          have H13 := Lib.hid (And.intro (H12.out.1.trans (b13.mono H12.out.1.size)) (And.intro (range_below H12.out.2.1 b13 (by have := H12.out.2.2.2; have := H9.out.2.2.2.2; omega)) (show R + 1 ≤ w13.heap.size by have := b13.size; have := H12.out.2.2.2; have := H9.out.2.2.2.2; omega)))
          clear c0 c1 c2 c3 c4 c5 b13
          obtain ⟨c0, c1, c2, c3, c4, c5⟩ := six r13
          have hii : (id != id) = false := bne_self_eq_false _
          clear r13
          go_wp2
          go_roundw
          case rel => exact ⟨k + 1, by omega, by go_num, H13.out⟩
          case measure => simp [intOf]; omega
      · have : k = 2 := by omega
        subst this
        go_wp2
        go_ret
        exact ⟨rfl, HR.out.1⟩
end Go.Proofs.Ytihicplembaoeaa
