/-
  MsgWrites: a message has the bytes, or the error, that the document says.
-/
import Derived.Test.YtihicplembaoeaaMsgRWrite
import Derived.Test.YtihicplembaoeaaMsgAlive
namespace Go.Proofs.Ytihicplembaoeaa
open Go.RowKit
set_option maxRecDepth 100000
set_option linter.unusedVariables false
theorem wrP_le (ps : List (Int × List UInt8)) : (wrP ps).1.length ≤ 7320 := wrP_len ps
theorem mwr_len (kd cd id : Int) (tok : List UInt8) (ps : List (Int × List UInt8)) (body : List UInt8) : (mwr kd cd id tok ps body).1.length ≤ 9000 := by
  unfold mwr
  split
  · exact Nat.zero_le _
  · split
    · exact Nat.zero_le _
    · rename_i h2
      split
      · exact Nat.zero_le _
      · have := wrP_le ps
        simp only [List.length_append, mwHd, List.length_cons, List.length_nil]
        split
        · simp only [List.length_nil]; omega
        · simp only [List.length_cons]; omega
theorem fewM_iff {m : Mq} (h : fewM m = true) : m.tok.length ≤ 100 ∧ m.body.length ≤ 2000 ∧ m.ps.length ≤ 40 ∧ ∀ x ∈ m.ps, x.2.length ≤ 400 := by
  unfold fewM at h
  simp only [Bool.and_eq_true, decide_eq_true_eq] at h
  have := (fewB_iff _).1 h.2
  exact ⟨h.1.1, h.1.2, this.1, this.2⟩
set_option maxHeartbeats 4000000 in
theorem mwrites_law (kd cd id : Int) (tA : Option Addr) (tn tc : Nat) (oA : Option Addr) (on oc : Nat) (bA : Option Addr) (bn bc : Nat) (vs : List Sv) (tok : List UInt8) (ps : List (Int × List UInt8)) (body : List UInt8) (w : World)
    (hm : Ms w w.heap.size tA tn oA on vs bA bn tok ps body) (hon : on ≤ maxLen) :
    Calls Try.prog 8 #[.agg #[.int .i64 kd, .int .i64 cd, .int .i64 id, .slice tA tn tc, .slice oA on oc, .slice bA bn bc]] w fun e w' => e = .returned (.bool true) ∧ Below w.heap.size w w' := by
  have hb0 := alloc_below w (.cells #[.int .i64 kd, .int .i64 cd, .int .i64 id, .slice tA tn tc, .slice oA on oc, .slice bA bn bc] 51)
  obtain ⟨W0, hW0⟩ : ∃ W0, w.alloc (.cells #[.int .i64 kd, .int .i64 cd, .int .i64 id, .slice tA tn tc, .slice oA on oc, .slice bA bn bc] 51) = W0 := ⟨_, rfl⟩
  have hs0 : W0.heap.size = w.heap.size + 1 := by rw [← hW0, alloc_size]
  have hr0 : W0.rangeAt w.heap.size 0 [.int .i64 kd, .int .i64 cd, .int .i64 id, .slice tA tn tc, .slice oA on oc, .slice bA bn bc] := hW0 ▸ range_newA w _ 51 rfl
  rw [hW0] at hb0
  have hal := malive_any W0
  have hrg : ∀ W, Below W0.heap.size W0 W → W.rangeAt w.heap.size 0 [.int .i64 kd, .int .i64 cd, .int .i64 id, .slice tA tn tc, .slice oA on oc, .slice bA bn bc] := fun W h => range_below hr0 h (by omega)
  have hms := fun W (h : Below W0.heap.size W0 W) => (hm.below (hb0.trans (h.mono (by omega)))).more (show w.heap.size ≤ W.heap.size by have := h.size; omega)
  have hfew := fun W (h : Below W0.heap.size W0 W) => few9_f kd cd id tA tn tc oA on oc bA bn bc vs tok ps body W (hms W h) (by simp only [maxLen] at hon; omega)
  have hlen := And.intro hm.t.len (And.intro hm.o.plen hm.b.len)
  obtain ⟨fw, hfw⟩ : ∃ fw, fewM ⟨kd, cd, id, tok, ps, body⟩ = fw := ⟨_, rfl⟩
  rw [hfw] at hfew
  have HA := Lib.hid (And.intro hal (And.intro hrg (And.intro hfew (And.intro hb0 hs0))))
  have HW := Lib.hid hW0
  have HB := Lib.hid (And.intro hms (And.intro hlen hfw))
  clear hb0 hW0 hs0 hr0 hal hrg hfew hfw hm hon hms hlen
  cases fw with
  | false =>
    go_enter Try.func8, Try.ntmps8
    go_wp2_with fail
    rw [HW.out]
    refine HA.out.1.mono ?_
    rintro e w1 ⟨rfl, b1⟩
    obtain ⟨c0, c1, c2, c3, c4, c5⟩ := six (HA.out.2.1 w1 b1)
    have H1 := Lib.hid b1
    clear b1
    go_wp2_with fail
    refine (HA.out.2.2.1 w1 H1.out).mono ?_
    rintro e w2 ⟨rfl, b2⟩
    have H2 := Lib.hid (H1.out.trans (b2.mono H1.out.size))
    clear b2 c0 c1 c2 c3 c4 c5
    go_wp2
    go_ret
    exact ⟨rfl, HA.out.2.2.2.1.trans (H2.out.mono (by have := HA.out.2.2.2.2; omega))⟩
  | true =>
    have hq := fewM_iff HB.out.2.2
    dsimp only at hq
    obtain ⟨⟨L, er⟩, hL⟩ : ∃ r, mwr kd cd id tok ps body = r := ⟨_, rfl⟩
    have hll := mwr_len kd cd id tok ps body
    have hw1 := fun W (h : Below W0.heap.size W0 W) => mwrite_f kd cd id tA tn tc oA on oc bA bn bc vs tok ps body W (HB.out.1 W h) (by have := HB.out.2.1; omega) (by have := HB.out.2.1; omega) (by have := HB.out.2.1; omega)
    have hw2 := fun W (h : Below W0.heap.size W0 W) => rwrite9_f kd cd id tA tn tc oA on oc bA bn bc vs tok ps body W (HB.out.1 W h) (by have := HB.out.2.1; omega) (by have := HB.out.2.1; omega) (by have := HB.out.2.1; omega)
    rw [hL] at hw1 hw2 hll
    have HC := Lib.hid (And.intro hw1 (And.intro hw2 hll))
    clear hq hw1 hw2 hll hL
    go_enter Try.func8, Try.ntmps8
    go_wp2_with fail
    rw [HW.out]
    refine HA.out.1.mono ?_
    rintro e w1 ⟨rfl, b1⟩
    obtain ⟨c0, c1, c2, c3, c4, c5⟩ := six (HA.out.2.1 w1 b1)
    have H1 := Lib.hid b1
    clear b1
    go_wp2_with fail
    refine (HA.out.2.2.1 w1 H1.out).mono ?_
    rintro e w2 ⟨rfl, b2⟩
    have B2 := H1.out.trans (b2.mono H1.out.size)
    obtain ⟨d0, d1, d2, d3, d4, d5⟩ := six (HA.out.2.1 w2 B2)
    have H2 := Lib.hid B2
    clear b2 B2 c0 c1 c2 c3 c4 c5
    go_wp2_with fail
    refine (HC.out.1 w2 H2.out).mono ?_
    rintro e w3 ⟨A3, n3, c3, rfl, hc3, hn3, hb3, b3⟩
    have B3 := H2.out.trans (b3.mono H2.out.size)
    obtain ⟨c0, c1, c2, c3', c4, c5⟩ := six (HA.out.2.1 w3 B3)
    have H3 := Lib.hid (And.intro hb3 (And.intro hn3.out B3))
    clear hc3 hn3 hb3 b3 B3 d0 d1 d2 d3 d4 d5
    try dsimp only
    go_wp2_with fail
    refine (HC.out.2.1 w3 H3.out.2.2).mono ?_
    rintro e w4 ⟨A4, n4, c4', rfl, hc4, hn4, hb4, b4⟩
    have hl3 : n3 = L.length := H3.out.2.1
    have hl4 : n4 = L.length := hn4.out
    have hll := HC.out.2.2
    have hs := same_any A3 A4 n3 c3 n4 c4' L L w4 _ _ (H3.out.1.below b4) hb4 (by omega) (by omega)
    rw [decide_eq_true rfl] at hs
    have H4 := Lib.hid (And.intro hs (H3.out.2.2.trans (b4.mono H3.out.2.2.size)))
    clear hc4 hn4 hb4 b4 hs hl3 hl4 hll c0 c1 c2 c3' c4 c5
    try dsimp only
    go_wp2_with fail
    refine H4.out.1.mono ?_
    rintro e w5 ⟨rfl, m5, hw5⟩
    have H5 : Hid (Below W0.heap.size W0 w5) := Lib.hid (H4.out.2.trans ((hw5 ▸ drewN_below _ _ m5 : Below w4.heap.size w4 w5).mono H4.out.2.size))
    clear hw5
    go_wp2
    go_ret
    exact ⟨rfl, HA.out.2.2.2.1.trans (H5.out.mono (by have := HA.out.2.2.2.2; omega))⟩
end Go.Proofs.Ytihicplembaoeaa
