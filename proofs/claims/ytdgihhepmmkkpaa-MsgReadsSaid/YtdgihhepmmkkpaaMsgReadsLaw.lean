/-
  MsgReads: all bytes are the message that the document says.
-/
import Derived.Test.YtdgihhepmmkkpaaMsgAlive
import Derived.Test.YtdgihhepmmkkpaaMsgRdLen
import Derived.Test.YtdgihhepmmkkpaaMsgSame2
import Derived.Test.YtdgihhepmmkkpaaMsgRR9
namespace Go.Proofs.Ytdgihhepmmkkpaa
open Go.RowKit
set_option maxRecDepth 100000
set_option linter.unusedVariables false
theorem mqB_self (m : Mq) : mqB m m = true := decide_eq_true ⟨rfl, rfl, rfl, rfl, rfl, rfl⟩
set_option maxHeartbeats 8000000 in
theorem mreads_law (A : Option Addr) (n c : Nat) (l : List UInt8) (w : World) (hb : Bs w w.heap.size A n l) (hc : n ≤ c) (hm : c ≤ maxLen) :
    Calls Try.prog 3 #[.slice A n c] w fun e w' => e = .returned (.bool true) ∧ Below w.heap.size w w' := by
  have hcI : (c : Int) ≤ 9223372036854775807 := by simp only [maxLen] at hm; omega
  have hA := malive_any w
  by_cases hn : (4000 : Int) < n
  · clear hm
    go_enter Try.func3, Try.ntmps3
    go_wp2_with (go_at_call 8; refine hA.mono ?_; rintro e w1 ⟨rfl, b1⟩)
    go_ret
    exact ⟨rfl, b1⟩
  · have h1 := fun W (b : Below w.heap.size w W) => mread_f A n c l W _ (hb.below b) b.size hc hcI (by omega)
    have h2 := fun W (b : Below w.heap.size w W) => rread9_f A n c l W _ (hb.below b) b.size hc hcI (by omega)
    have h3 := fun W (b : Below w.heap.size w W) => sniff_f A n c l W _ (hb.below b) hc
    have hlen := rdM_len l
    have hll := hb.len
    obtain ⟨⟨⟨kd, cd, id, tok, ps, body⟩, er⟩, hr⟩ : ∃ r, rdM l = r := ⟨_, rfl⟩
    rw [hr] at h1 h2 hlen
    dsimp only at hlen
    rw [hll] at hlen
    have hn4 : (n : Int) ≤ 4000 := by omega
    have hlen' : tok.length ≤ 4000 ∧ ps.length ≤ 4000 ∧ (∀ x ∈ ps, x.2.length ≤ 300) ∧ body.length ≤ 4000 := ⟨by omega, by omega, hlen.2.2.1, by omega⟩
    by_cases h4 : 4 ≤ n
    · obtain ⟨b, off, rfl, hbb, hcell⟩ := hb.at_ (by omega)
      have k0 := fun W (h : Below w.heap.size w W) => (h.cell (p := ⟨b, off, none⟩) (by show b < _; omega)).trans (hcell 0 (by omega))
      have k2 := fun W (h : Below w.heap.size w W) => (h.cell (p := ⟨b, off + 2, none⟩) (by show b < _; omega)).trans (hcell 2 (by omega))
      have k3 := fun W (h : Below w.heap.size w W) => (h.cell (p := ⟨b, off + 3, none⟩) (by show b < _; omega)).trans (hcell 3 (by omega))
      have l0 := bn0_lt l 0
      have l2 := bn0_lt l 2
      have l3 := bn0_lt l 3
      have a192 := and192 _ l0
      have a48 := and48 _ l0
      have h4I : (4 : Int) ≤ n := by omega
      have n0 : (0 : Int) < n := by omega
      have n2 : (2 : Int) < n := by omega
      have n3 : (3 : Int) < n := by omega
      by_cases hx : bn0 l 0 / 64 = 1
      · have hs : sniffP l = (((bn0 l 0 / 16 % 4 : Nat) : Int), ((bn0 l 2 * 256 + bn0 l 3 : Nat) : Int), true) := by unfold sniffP; rw [if_pos ⟨by omega, hx⟩]
        rw [hs] at h3
        generalize bn0 l 0 = x0 at *
        generalize bn0 l 2 = x2 at *
        generalize bn0 l 3 = x3 at *
        obtain ⟨k, hk⟩ : ∃ k, x0 / 16 % 4 = k := ⟨_, rfl⟩
        have hkI : (k : Int) < 4 := by omega
        rw [hk] at h3 a48
        obtain ⟨idn, hidn⟩ : ∃ idn, x2 * 256 + x3 = idn := ⟨_, rfl⟩
        rw [hidn] at h3
        have hidI : (x2 : Int) * 256 + (x3 : Int) = (idn : Int) := by omega
        have a48' : bits .and .u8 (x0 : Int) 48 = (k : Int) * 16 := by rw [a48]; omega
        rw [decide_eq_true hx] at a192
        have q2 : (x2 : Int) < 256 := by omega
        have q3 : (x3 : Int) < 256 := by omega
        have HA := Lib.hid (And.intro hA (And.intro h1 (And.intro h2 (And.intro h3 hlen'))))
        have HK := Lib.hid (And.intro k0 (And.intro k2 k3))
        clear h1 h2 h3 hlen hlen' hA hb hr hm hll hcell k0 k2 k3 l0 l2 l3 hx hk hidn a48 hs h4
        go_enter Try.func3, Try.ntmps3
        go_wp2_with fail
        refine HA.out.1.mono ?_
        rintro e w1 ⟨rfl, b1⟩
        have H1 := Lib.hid b1
        clear b1
        go_wp2_with fail
        refine (HA.out.2.1 w1 H1.out).mono ?_
        rintro e w2 ⟨tA, tn, tc, oA, on, oc, bA, bn, bc, us, rfl, hcaps, hms2, b2⟩
        have H2 := Lib.hid (And.intro hms2 (H1.out.trans (b2.mono H1.out.size)))
        clear hcaps hms2 b2
        try dsimp only
        go_wp2_with fail
        refine calls_at_world (F := fun W => Below w2.heap.size w2 W ∧ w2.heap.size + 1 ≤ W.heap.size ∧ W.rangeAt w2.heap.size 0 [.int .i64 kd, .int .i64 cd, .int .i64 id, .slice tA tn tc, .slice oA on oc, .slice bA bn bc]) ⟨alloc_below w2 _, by rw [alloc_size]; exact Nat.le_refl _, range_newA w2 _ _ rfl⟩ fun W3 ⟨b3, s3, r3⟩ => ?_
        have H3 := Lib.hid (And.intro b3 (And.intro s3 (And.intro r3 (H2.out.2.trans (b3.mono H2.out.2.size)))))
        clear b3 s3 r3
        refine (HA.out.2.2.1 W3 H3.out.2.2.2).mono ?_
        rintro e w4 ⟨xA, xn, xc, yA, yn, yc, zA, zn, zc, us', rfl, hcaps, hms4, b4⟩
        have H4 := Lib.hid (And.intro hms4 (And.intro b4 (H3.out.2.2.2.trans (b4.mono H3.out.2.2.2.size))))
        clear hcaps hms4 b4
        try dsimp only
        go_wp2_with fail
        refine calls_at_world (F := fun W => Below w4.heap.size w4 W ∧ w4.heap.size + 1 ≤ W.heap.size ∧ W.rangeAt w4.heap.size 0 [.int .i64 kd, .int .i64 cd, .int .i64 id, .slice xA xn xc, .slice yA yn yc, .slice zA zn zc]) ⟨alloc_below w4 _, by rw [alloc_size]; exact Nat.le_refl _, range_newA w4 _ _ rfl⟩ fun W5 ⟨b5, s5, r5⟩ => ?_
        have H5 := Lib.hid (And.intro b5 (And.intro s5 (And.intro r5 (H4.out.2.2.trans (b5.mono H4.out.2.2.size)))))
        clear b5 s5 r5
        refine (HA.out.2.2.2.1 W5 H5.out.2.2.2).mono ?_
        rintro e w6 ⟨rfl, m6, hw6⟩
        have b6 : Below W5.heap.size W5 w6 := hw6 ▸ drewN_below _ _ m6
        have b46 := H5.out.1.trans (b6.mono H5.out.1.size)
        have b36 := H4.out.2.1.trans (b46.mono H4.out.2.1.size)
        have b26 := H3.out.1.trans (b36.mono H3.out.1.size)
        have B6 := H5.out.2.2.2.trans (b6.mono H5.out.2.2.2.size)
        have hs4 := H4.out.2.1.size
        have hs5 := H5.out.2.1
        obtain ⟨c0, c1, c2, c3, c4, c5⟩ := six (range_below H3.out.2.2.1 b36 (by have := H3.out.2.1; omega))
        obtain ⟨d0, d1, d2, d3, d4, d5⟩ := six (range_below H5.out.2.2.1 b6 (by omega))
        have HM := Lib.hid fun W (h : Below w6.heap.size w6 W) =>
          have q2 := b26.trans (h.mono b26.size)
          have q4 := b46.trans (h.mono b46.size)
          And.intro (Ms.mk ((H2.out.1.t.below q2).more q2.size) ((H2.out.1.o.below q2).more q2.size) ((H2.out.1.b.below q2).more q2.size)) (And.intro (Ms.mk ((H4.out.1.t.below q4).more q4.size) ((H4.out.1.o.below q4).more q4.size) ((H4.out.1.b.below q4).more q4.size)) (B6.trans (h.mono B6.size)))
        have HN := Lib.hid (And.intro H2.out.1.t.len (And.intro H2.out.1.o.plen (And.intro H2.out.1.b.len (And.intro H4.out.1.t.len (And.intro H4.out.1.o.plen H4.out.1.b.len)))))
        clear b6 b46 b36 b26 hw6 hs4 hs5
        have HC := Lib.hid B6
        clear B6
        try dsimp only
        have k0 := HK.out.1 w6 HC.out
        have k2 := HK.out.2.1 w6 HC.out
        have k3 := HK.out.2.2 w6 HC.out
        go_wp2_with fail
        go_quiet (fail)
        go_wp2_with (go_at_call 12; refine (rmsame_f ⟨kd, cd, id, tok, ps, body⟩ ⟨kd, cd, id, tok, ps, body⟩ tA oA bA xA yA zA tn tc on oc bn bc xn xc yn yc zn zc us us' _ (HM.out _ (drewN_below _ _ _)).1 (HM.out _ (drewN_below _ _ _)).2.1 ⟨by have := HN.out; have := HA.out.2.2.2.2; omega, by have := HN.out; have := HA.out.2.2.2.2; omega, by have := HN.out; have := HA.out.2.2.2.2; omega⟩ ⟨by have := HN.out; have := HA.out.2.2.2.2; omega, by have := HN.out; have := HA.out.2.2.2.2; omega, by have := HN.out; have := HA.out.2.2.2.2; omega⟩ (fun x hx => Nat.le_trans (HA.out.2.2.2.2.2.2.1 x hx) (by omega)) (fun x hx => Nat.le_trans (HA.out.2.2.2.2.2.2.1 x hx) (by omega))).mono ?_; rintro e w7 ⟨rfl, b7⟩; have H7 := Lib.hid b7; clear b7)
        go_ret
        exact ⟨retB (mqB_self _), (HM.out _ (drewN_below _ _ _)).2.2.trans (H7.out.mono ((HM.out _ (drewN_below _ _ _)).2.2.size))⟩
      · have hs : sniffP l = (0, 0, false) := by unfold sniffP; rw [if_neg (fun h => hx h.2)]
        rw [hs] at h3
        generalize bn0 l 0 = x0 at *
        rw [decide_eq_false hx] at a192
        have HA := Lib.hid (And.intro hA (And.intro h1 (And.intro h2 (And.intro h3 hlen'))))
        have HK := Lib.hid k0
        clear h1 h2 h3 hlen hlen' hA hb hr hm hll hcell k0 k2 k3 l0 l2 l3 hx a48 hs h4 n2 n3
        go_enter Try.func3, Try.ntmps3
        go_wp2_with fail
        refine HA.out.1.mono ?_
        rintro e w1 ⟨rfl, b1⟩
        have H1 := Lib.hid b1
        clear b1
        go_wp2_with fail
        refine (HA.out.2.1 w1 H1.out).mono ?_
        rintro e w2 ⟨tA, tn, tc, oA, on, oc, bA, bn, bc, us, rfl, hcaps, hms2, b2⟩
        have H2 := Lib.hid (And.intro hms2 (H1.out.trans (b2.mono H1.out.size)))
        clear hcaps hms2 b2
        try dsimp only
        go_wp2_with fail
        refine calls_at_world (F := fun W => Below w2.heap.size w2 W ∧ w2.heap.size + 1 ≤ W.heap.size ∧ W.rangeAt w2.heap.size 0 [.int .i64 kd, .int .i64 cd, .int .i64 id, .slice tA tn tc, .slice oA on oc, .slice bA bn bc]) ⟨alloc_below w2 _, by rw [alloc_size]; exact Nat.le_refl _, range_newA w2 _ _ rfl⟩ fun W3 ⟨b3, s3, r3⟩ => ?_
        have H3 := Lib.hid (And.intro b3 (And.intro s3 (And.intro r3 (H2.out.2.trans (b3.mono H2.out.2.size)))))
        clear b3 s3 r3
        refine (HA.out.2.2.1 W3 H3.out.2.2.2).mono ?_
        rintro e w4 ⟨xA, xn, xc, yA, yn, yc, zA, zn, zc, us', rfl, hcaps, hms4, b4⟩
        have H4 := Lib.hid (And.intro hms4 (And.intro b4 (H3.out.2.2.2.trans (b4.mono H3.out.2.2.2.size))))
        clear hcaps hms4 b4
        try dsimp only
        go_wp2_with fail
        refine calls_at_world (F := fun W => Below w4.heap.size w4 W ∧ w4.heap.size + 1 ≤ W.heap.size ∧ W.rangeAt w4.heap.size 0 [.int .i64 kd, .int .i64 cd, .int .i64 id, .slice xA xn xc, .slice yA yn yc, .slice zA zn zc]) ⟨alloc_below w4 _, by rw [alloc_size]; exact Nat.le_refl _, range_newA w4 _ _ rfl⟩ fun W5 ⟨b5, s5, r5⟩ => ?_
        have H5 := Lib.hid (And.intro b5 (And.intro s5 (And.intro r5 (H4.out.2.2.trans (b5.mono H4.out.2.2.size)))))
        clear b5 s5 r5
        refine (HA.out.2.2.2.1 W5 H5.out.2.2.2).mono ?_
        rintro e w6 ⟨rfl, m6, hw6⟩
        have b6 : Below W5.heap.size W5 w6 := hw6 ▸ drewN_below _ _ m6
        have b46 := H5.out.1.trans (b6.mono H5.out.1.size)
        have b36 := H4.out.2.1.trans (b46.mono H4.out.2.1.size)
        have b26 := H3.out.1.trans (b36.mono H3.out.1.size)
        have B6 := H5.out.2.2.2.trans (b6.mono H5.out.2.2.2.size)
        have hs4 := H4.out.2.1.size
        have hs5 := H5.out.2.1
        obtain ⟨c0, c1, c2, c3, c4, c5⟩ := six (range_below H3.out.2.2.1 b36 (by have := H3.out.2.1; omega))
        obtain ⟨d0, d1, d2, d3, d4, d5⟩ := six (range_below H5.out.2.2.1 b6 (by omega))
        have HM := Lib.hid fun W (h : Below w6.heap.size w6 W) =>
          have q2 := b26.trans (h.mono b26.size)
          have q4 := b46.trans (h.mono b46.size)
          And.intro (Ms.mk ((H2.out.1.t.below q2).more q2.size) ((H2.out.1.o.below q2).more q2.size) ((H2.out.1.b.below q2).more q2.size)) (And.intro (Ms.mk ((H4.out.1.t.below q4).more q4.size) ((H4.out.1.o.below q4).more q4.size) ((H4.out.1.b.below q4).more q4.size)) (B6.trans (h.mono B6.size)))
        have HN := Lib.hid (And.intro H2.out.1.t.len (And.intro H2.out.1.o.plen (And.intro H2.out.1.b.len (And.intro H4.out.1.t.len (And.intro H4.out.1.o.plen H4.out.1.b.len)))))
        clear b6 b46 b36 b26 hw6 hs4 hs5
        have HC := Lib.hid B6
        clear B6
        try dsimp only
        have k0 := HK.out w6 HC.out
        go_wp2_with fail
        go_quiet (fail)
        go_wp2_with (go_at_call 12; refine (rmsame_f ⟨kd, cd, id, tok, ps, body⟩ ⟨kd, cd, id, tok, ps, body⟩ tA oA bA xA yA zA tn tc on oc bn bc xn xc yn yc zn zc us us' _ (HM.out _ (drewN_below _ _ _)).1 (HM.out _ (drewN_below _ _ _)).2.1 ⟨by have := HN.out; have := HA.out.2.2.2.2; omega, by have := HN.out; have := HA.out.2.2.2.2; omega, by have := HN.out; have := HA.out.2.2.2.2; omega⟩ ⟨by have := HN.out; have := HA.out.2.2.2.2; omega, by have := HN.out; have := HA.out.2.2.2.2; omega, by have := HN.out; have := HA.out.2.2.2.2; omega⟩ (fun x hx => Nat.le_trans (HA.out.2.2.2.2.2.2.1 x hx) (by omega)) (fun x hx => Nat.le_trans (HA.out.2.2.2.2.2.2.1 x hx) (by omega))).mono ?_; rintro e w7 ⟨rfl, b7⟩; have H7 := Lib.hid b7; clear b7)
        go_ret
        exact ⟨retB (mqB_self _), (HM.out _ (drewN_below _ _ _)).2.2.trans (H7.out.mono ((HM.out _ (drewN_below _ _ _)).2.2.size))⟩
    · have hs : sniffP l = (0, 0, false) := by unfold sniffP; rw [if_neg (fun h => by omega)]
      rw [hs] at h3
      have h4I : ¬ (4 : Int) ≤ n := by omega
      have HA := Lib.hid (And.intro hA (And.intro h1 (And.intro h2 (And.intro h3 hlen'))))
      clear h1 h2 h3 hlen hlen' hA hb hr hm hll hs h4
      go_enter Try.func3, Try.ntmps3
      go_wp2_with fail
      refine HA.out.1.mono ?_
      rintro e w1 ⟨rfl, b1⟩
      have H1 := Lib.hid b1
      clear b1
      go_wp2_with fail
      refine (HA.out.2.1 w1 H1.out).mono ?_
      rintro e w2 ⟨tA, tn, tc, oA, on, oc, bA, bn, bc, us, rfl, hcaps, hms2, b2⟩
      have H2 := Lib.hid (And.intro hms2 (H1.out.trans (b2.mono H1.out.size)))
      clear hcaps hms2 b2
      try dsimp only
      go_wp2_with fail
      refine calls_at_world (F := fun W => Below w2.heap.size w2 W ∧ w2.heap.size + 1 ≤ W.heap.size ∧ W.rangeAt w2.heap.size 0 [.int .i64 kd, .int .i64 cd, .int .i64 id, .slice tA tn tc, .slice oA on oc, .slice bA bn bc]) ⟨alloc_below w2 _, by rw [alloc_size]; exact Nat.le_refl _, range_newA w2 _ _ rfl⟩ fun W3 ⟨b3, s3, r3⟩ => ?_
      have H3 := Lib.hid (And.intro b3 (And.intro s3 (And.intro r3 (H2.out.2.trans (b3.mono H2.out.2.size)))))
      clear b3 s3 r3
      refine (HA.out.2.2.1 W3 H3.out.2.2.2).mono ?_
      rintro e w4 ⟨xA, xn, xc, yA, yn, yc, zA, zn, zc, us', rfl, hcaps, hms4, b4⟩
      have H4 := Lib.hid (And.intro hms4 (And.intro b4 (H3.out.2.2.2.trans (b4.mono H3.out.2.2.2.size))))
      clear hcaps hms4 b4
      try dsimp only
      go_wp2_with fail
      refine calls_at_world (F := fun W => Below w4.heap.size w4 W ∧ w4.heap.size + 1 ≤ W.heap.size ∧ W.rangeAt w4.heap.size 0 [.int .i64 kd, .int .i64 cd, .int .i64 id, .slice xA xn xc, .slice yA yn yc, .slice zA zn zc]) ⟨alloc_below w4 _, by rw [alloc_size]; exact Nat.le_refl _, range_newA w4 _ _ rfl⟩ fun W5 ⟨b5, s5, r5⟩ => ?_
      have H5 := Lib.hid (And.intro b5 (And.intro s5 (And.intro r5 (H4.out.2.2.trans (b5.mono H4.out.2.2.size)))))
      clear b5 s5 r5
      refine (HA.out.2.2.2.1 W5 H5.out.2.2.2).mono ?_
      rintro e w6 ⟨rfl, m6, hw6⟩
      have b6 : Below W5.heap.size W5 w6 := hw6 ▸ drewN_below _ _ m6
      have b46 := H5.out.1.trans (b6.mono H5.out.1.size)
      have b36 := H4.out.2.1.trans (b46.mono H4.out.2.1.size)
      have b26 := H3.out.1.trans (b36.mono H3.out.1.size)
      have B6 := H5.out.2.2.2.trans (b6.mono H5.out.2.2.2.size)
      have hs4 := H4.out.2.1.size
      have hs5 := H5.out.2.1
      obtain ⟨c0, c1, c2, c3, c4, c5⟩ := six (range_below H3.out.2.2.1 b36 (by have := H3.out.2.1; omega))
      obtain ⟨d0, d1, d2, d3, d4, d5⟩ := six (range_below H5.out.2.2.1 b6 (by omega))
      have HM := Lib.hid fun W (h : Below w6.heap.size w6 W) =>
        have q2 := b26.trans (h.mono b26.size)
        have q4 := b46.trans (h.mono b46.size)
        And.intro (Ms.mk ((H2.out.1.t.below q2).more q2.size) ((H2.out.1.o.below q2).more q2.size) ((H2.out.1.b.below q2).more q2.size)) (And.intro (Ms.mk ((H4.out.1.t.below q4).more q4.size) ((H4.out.1.o.below q4).more q4.size) ((H4.out.1.b.below q4).more q4.size)) (B6.trans (h.mono B6.size)))
      have HN := Lib.hid (And.intro H2.out.1.t.len (And.intro H2.out.1.o.plen (And.intro H2.out.1.b.len (And.intro H4.out.1.t.len (And.intro H4.out.1.o.plen H4.out.1.b.len)))))
      clear b6 b46 b36 b26 hw6 hs4 hs5
      have HC := Lib.hid B6
      clear B6
      try dsimp only
      go_wp2_with fail
      go_quiet (fail)
      go_wp2_with (go_at_call 12; refine (rmsame_f ⟨kd, cd, id, tok, ps, body⟩ ⟨kd, cd, id, tok, ps, body⟩ tA oA bA xA yA zA tn tc on oc bn bc xn xc yn yc zn zc us us' _ (HM.out _ (drewN_below _ _ _)).1 (HM.out _ (drewN_below _ _ _)).2.1 ⟨by have := HN.out; have := HA.out.2.2.2.2; omega, by have := HN.out; have := HA.out.2.2.2.2; omega, by have := HN.out; have := HA.out.2.2.2.2; omega⟩ ⟨by have := HN.out; have := HA.out.2.2.2.2; omega, by have := HN.out; have := HA.out.2.2.2.2; omega, by have := HN.out; have := HA.out.2.2.2.2; omega⟩ (fun x hx => Nat.le_trans (HA.out.2.2.2.2.2.2.1 x hx) (by omega)) (fun x hx => Nat.le_trans (HA.out.2.2.2.2.2.2.1 x hx) (by omega))).mono ?_; rintro e w7 ⟨rfl, b7⟩; have H7 := Lib.hid b7; clear b7)
      go_ret
      exact ⟨retB (mqB_self _), (HM.out _ (drewN_below _ _ _)).2.2.trans (H7.out.mono ((HM.out _ (drewN_below _ _ _)).2.2.size))⟩
end Go.Proofs.Ytdgihhepmmkkpaa
