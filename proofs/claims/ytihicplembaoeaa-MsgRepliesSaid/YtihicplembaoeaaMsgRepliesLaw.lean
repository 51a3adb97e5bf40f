/-
  MsgReplies: answers, and what asks or answers, are as the document says.
-/
import Derived.Test.YtihicplembaoeaaMsgReply
import Derived.Test.YtihicplembaoeaaMsgAlive
namespace Go.Proofs.Ytihicplembaoeaa
open Go.RowKit
set_option maxRecDepth 100000
set_option linter.unusedVariables false
theorem fewM_iff2 {m : Mq} (h : fewM m = true) : m.tok.length ≤ 100 ∧ m.body.length ≤ 2000 ∧ m.ps.length ≤ 40 ∧ ∀ x ∈ m.ps, x.2.length ≤ 400 := by
  unfold fewM at h
  simp only [Bool.and_eq_true, decide_eq_true_eq] at h
  have := (fewB_iff _).1 h.2
  exact ⟨h.1.1, h.1.2, this.1, this.2⟩
/-- A message's value. -/
def RMv (m : Mq) (w : World) (v : Value) : Prop :=
  ∃ (tA : Option Addr) (tn tc : Nat) (oA : Option Addr) (on oc : Nat) (bA : Option Addr) (bn bc : Nat) (vs : List Sv),
    v = .agg #[.int .i64 m.kd, .int .i64 m.cd, .int .i64 m.id, .slice tA tn tc, .slice oA on oc, .slice bA bn bc] ∧ Ms w w.heap.size tA tn oA on vs bA bn m.tok m.ps m.body
theorem RMv.grow {m : Mq} {w w' : World} {v : Value} (h : RMv m w v) (hb : Below w.heap.size w w') : RMv m w' v := by
  obtain ⟨tA, tn, tc, oA, on, oc, bA, bn, bc, vs, h1, h2⟩ := h
  exact ⟨tA, tn, tc, oA, on, oc, bA, bn, bc, vs, h1, (h2.below hb).more hb.size⟩
/-- What each operation of the last line leaves. -/
def ReR (M Y : Value) (m : Mq) (b : Nat) (cd code nid id : Int) (P Q : Value) (i : Nat) (w : World) (v : Value) : Prop :=
  match i with
  | 0 | 6 | 14 | 16 | 21 | 23 => v = M
  | 1 | 7 => v = .int .i64 code
  | 2 | 8 | 36 => v = .int .i64 nid
  | 3 | 9 => v = P
  | 4 | 10 => v = Q
  | 5 => RMv m w v
  | 11 => v = Y
  | 15 | 17 => v = .bool (askB cd)
  | 22 | 24 => v = .bool (ansB cd)
  | 28 | 31 => v = .agg #[.int .i64 2, .int .i64 0, .int .i64 id, .slice none 0 0, .slice none 0 0, .slice none 0 0]
  | 29 => v = .pointer (some ⟨b, 2, none⟩)
  | 30 => v = .int .i64 id
  | 35 | 37 => v = .agg #[.int .i64 3, .int .i64 0, .int .i64 nid, .slice none 0 0, .slice none 0 0, .slice none 0 0]
  | _ => v = .bool true
theorem ReR.grow {M Y : Value} {m : Mq} {b : Nat} {cd code nid id : Int} {P Q : Value} (i : Nat) (w w' : World) (v : Value) (hb : Below w.heap.size w w') (h : ReR M Y m b cd code nid id P Q i w v) : ReR M Y m b cd code nid id P Q i w' v := by
  unfold ReR at h ⊢
  split at h
  all_goals first | exact RMv.grow h hb | exact h
set_option maxHeartbeats 4000000 in
theorem mreplies_law (kd cd id : Int) (tA : Option Addr) (tn tc : Nat) (oA : Option Addr) (on oc : Nat) (bA : Option Addr) (bn bc : Nat) (vs : List Sv) (tok : List UInt8) (ps : List (Int × List UInt8)) (body : List UInt8) (code nid : Int) (pA : Option Addr) (pn pc : Nat) (us0 : List Sv) (qs : List (Int × List UInt8)) (qA : Option Addr) (qn qc : Nat) (l : List UInt8) (w : World)
    (hm : Ms w w.heap.size tA tn oA on vs bA bn tok ps body) (hon : on ≤ maxLen) (hos : Os w w.heap.size pA pn us0 qs) (hpm : pn ≤ maxLen) (hl : Bs w w.heap.size qA qn l) :
    Calls Try.prog 10 #[.agg #[.int .i64 kd, .int .i64 cd, .int .i64 id, .slice tA tn tc, .slice oA on oc, .slice bA bn bc], .int .i64 code, .int .i64 nid, .slice pA pn pc, .slice qA qn qc] w fun e w' => e = .returned (.bool true) ∧ Below w.heap.size w w' := by
  have hb0 := alloc_below w (.cells #[.int .i64 kd, .int .i64 cd, .int .i64 id, .slice tA tn tc, .slice oA on oc, .slice bA bn bc] 51)
  obtain ⟨W0, hW0⟩ : ∃ W0, w.alloc (.cells #[.int .i64 kd, .int .i64 cd, .int .i64 id, .slice tA tn tc, .slice oA on oc, .slice bA bn bc] 51) = W0 := ⟨_, rfl⟩
  have hs0 : W0.heap.size = w.heap.size + 1 := by rw [← hW0, alloc_size]
  have hr0 : W0.rangeAt w.heap.size 0 [.int .i64 kd, .int .i64 cd, .int .i64 id, .slice tA tn tc, .slice oA on oc, .slice bA bn bc] := hW0 ▸ range_newA w _ 51 rfl
  rw [hW0] at hb0
  have hal := malive_any W0
  have hcl := fun W (h : Below W0.heap.size W0 W) => hb0.trans (h.mono (show w.heap.size ≤ W0.heap.size by omega))
  have hrg : ∀ W, Below W0.heap.size W0 W → W.rangeAt w.heap.size 0 [.int .i64 kd, .int .i64 cd, .int .i64 id, .slice tA tn tc, .slice oA on oc, .slice bA bn bc] := fun W h => range_below hr0 h (by omega)
  have hms := fun W (h : Below W0.heap.size W0 W) => (hm.below (hcl W h)).more (hcl W h).size
  have hoss := fun W (h : Below W0.heap.size W0 W) => (hos.below (hcl W h)).more (hcl W h).size
  have hls := fun W (h : Below W0.heap.size W0 W) => (hl.below (hcl W h)).more (hcl W h).size
  have hfew := fun W (h : Below W0.heap.size W0 W) => few9_f kd cd id tA tn tc oA on oc bA bn bc vs tok ps body W (hms W h) (by simp only [maxLen] at hon; omega)
  have hfew2 := fun W (h : Below W0.heap.size W0 W) => few_f pA pn pc us0 qs W _ (hoss W h) (by simp only [maxLen] at hpm; omega)
  have hlen := And.intro hm.t.len (And.intro hm.o.plen (And.intro hm.b.len (And.intro hos.plen hl.len)))
  have hmx := fun (hx : ∀ x ∈ qs, x.2.length ≤ 400) => hos.mx hx
  obtain ⟨fw, hfw⟩ : ∃ fw, fewM ⟨kd, cd, id, tok, ps, body⟩ = fw := ⟨_, rfl⟩
  obtain ⟨fw2, hfw2⟩ : ∃ fw2, fewB qs = fw2 := ⟨_, rfl⟩
  rw [hfw] at hfew
  rw [hfw2] at hfew2
  have HA := Lib.hid (And.intro hal (And.intro hrg (And.intro hfew (And.intro hfew2 hcl))))
  have HW := Lib.hid hW0
  have HB := Lib.hid (And.intro hms (And.intro hoss (And.intro hls (And.intro hlen (And.intro hfw (And.intro hfw2 (And.intro hmx hs0)))))))
  clear hb0 hW0 hs0 hr0 hal hrg hfew hfew2 hfw hfw2 hm hon hos hpm hl hms hoss hls hlen hmx hcl
  cases fw with
  | false =>
    go_enter Try.func10, Try.ntmps10
    go_wp2_with fail
    rw [HW.out]
    refine HA.out.1.mono ?_
    rintro e w1 ⟨rfl, b1⟩
    obtain ⟨c0, c1, c2, c3', c4, c5⟩ := six (HA.out.2.1 w1 b1)
    have H1 := Lib.hid b1
    clear b1
    go_wp2_with fail
    refine (HA.out.2.2.1 w1 H1.out).mono ?_
    rintro e w2 ⟨rfl, b2⟩
    have H2 := Lib.hid (H1.out.trans (b2.mono H1.out.size))
    clear b2 c0 c1 c2 c3' c4 c5
    go_wp2
    go_ret
    exact ⟨rfl, HA.out.2.2.2.2 w2 H2.out⟩
  | true =>
    cases fw2 with
    | false =>
      go_enter Try.func10, Try.ntmps10
      go_wp2_with fail
      rw [HW.out]
      refine HA.out.1.mono ?_
      rintro e w1 ⟨rfl, b1⟩
      obtain ⟨c0, c1, c2, c3', c4, c5⟩ := six (HA.out.2.1 w1 b1)
      have H1 := Lib.hid b1
      clear b1
      go_wp2_with fail
      refine (HA.out.2.2.1 w1 H1.out).mono ?_
      rintro e w2 ⟨rfl, b2⟩
      have H2 := Lib.hid (H1.out.trans (b2.mono H1.out.size))
      clear b2 c0 c1 c2 c3' c4 c5
      go_wp2_with fail
      refine (HA.out.2.2.2.1 w2 H2.out).mono ?_
      rintro e wx ⟨rfl, hwx⟩
      obtain rfl := hwx.symm
      go_wp2
      go_ret
      exact ⟨rfl, HA.out.2.2.2.2 w2 H2.out⟩
    | true =>
      by_cases hqn : (2000 : Int) < qn
      · have HQ := Lib.hid hqn
        go_enter Try.func10, Try.ntmps10
        go_wp2_with fail
        rw [HW.out]
        refine HA.out.1.mono ?_
        rintro e w1 ⟨rfl, b1⟩
        obtain ⟨c0, c1, c2, c3', c4, c5⟩ := six (HA.out.2.1 w1 b1)
        have H1 := Lib.hid b1
        clear b1
        go_wp2_with fail
        refine (HA.out.2.2.1 w1 H1.out).mono ?_
        rintro e w2 ⟨rfl, b2⟩
        have H2 := Lib.hid (H1.out.trans (b2.mono H1.out.size))
        clear b2 c0 c1 c2 c3' c4 c5
        go_wp2_with fail
        refine (HA.out.2.2.2.1 w2 H2.out).mono ?_
        rintro e wx ⟨rfl, hwx⟩
        obtain rfl := hwx.symm
        go_wp2
        go_ret
        exact ⟨rfl, HA.out.2.2.2.2 w2 H2.out⟩
      · by_cases hcd : cd < 0 ∨ (¬ cd < 0 ∧ 255 < cd)
        · rcases hcd with hc0 | ⟨hc0, hc1⟩
          all_goals
            go_enter Try.func10, Try.ntmps10
            go_wp2_with fail
            rw [HW.out]
            refine HA.out.1.mono ?_
            rintro e w1 ⟨rfl, b1⟩
            obtain ⟨c0, c1, c2, c3', c4, c5⟩ := six (HA.out.2.1 w1 b1)
            have H1 := Lib.hid b1
            clear b1
            go_wp2_with fail
            refine (HA.out.2.2.1 w1 H1.out).mono ?_
            rintro e w2 ⟨rfl, b2⟩
            have H2 := Lib.hid (H1.out.trans (b2.mono H1.out.size))
            clear b2 c0 c1 c2 c3' c4 c5
            obtain ⟨c0, c1, c2, c3', c4, c5⟩ := six (HA.out.2.1 w2 H2.out)
            go_wp2_with fail
            refine (HA.out.2.2.2.1 w2 H2.out).mono ?_
            rintro e wx ⟨rfl, hwx⟩
            obtain rfl := hwx.symm
            go_wp2
            go_ret
            exact ⟨rfl, HA.out.2.2.2.2 w2 H2.out⟩
        · have hc0 : ¬ cd < 0 := fun e => hcd (.inl e)
          have hc1 : ¬ (255 : Int) < cd := fun e => hcd (.inr ⟨hc0, e⟩)
          have hq := fewM_iff2 HB.out.2.2.2.2.1
          dsimp only at hq
          have hq2 := (fewB_iff _).1 HB.out.2.2.2.2.2.1
          have hl1 := HB.out.2.2.2.1
          have hpn40 : pn ≤ 40 := by omega
          have hqn2 : (qn : Int) ≤ 2000 := by omega
          have htn1 : (tn : Int) ≤ 100 := by omega
          have hrep := fun W (h : Below W0.heap.size W0 W) => reply_f kd cd id tA tn tc oA on oc bA bn bc vs tok ps body code nid pA pn pc us0 qs qA qn qc l W (HB.out.1 W h) (HB.out.2.1 W h) (HB.out.2.2.1 W h) hpn40 (HB.out.2.2.2.2.2.2.1 hq2.2) (Int.le_trans htn1 (by decide)) (Int.le_trans hqn2 (by decide))
          have HR := Lib.hid (And.intro hrep (And.intro hq2 (And.intro hl1 (And.intro htn1 hqn2))))
          clear hq hq2 hl1 hrep hcd hpn40 hqn2 htn1
          go_enter Try.func10, Try.ntmps10
          go_wp2_with fail
          rw [HW.out]
          refine HA.out.1.mono ?_
          rintro e w1 ⟨rfl, b1⟩
          obtain ⟨c0, c1, c2, c3', c4, c5⟩ := six (HA.out.2.1 w1 b1)
          have H1 := Lib.hid b1
          clear b1
          go_wp2_with fail
          refine (HA.out.2.2.1 w1 H1.out).mono ?_
          rintro e w2 ⟨rfl, b2⟩
          have H2 := Lib.hid (H1.out.trans (b2.mono H1.out.size))
          clear b2 c0 c1 c2 c3' c4 c5
          obtain ⟨c0, c1, c2, c3', c4, c5⟩ := six (HA.out.2.1 w2 H2.out)
          go_wp2_with fail
          refine (HA.out.2.2.2.1 w2 H2.out).mono ?_
          rintro e wx ⟨rfl, hwx⟩
          obtain rfl := hwx.symm
          go_wp2_with fail
          refine (ack_f kd cd id tA tn tc oA on oc bA bn bc w2).mono ?_
          rintro e w3 ⟨rfl, b3⟩
          have H3 := Lib.hid (H2.out.trans (b3.mono H2.out.size))
          clear b3 c0 c1 c2 c3' c4 c5
          go_wp2_with fail
          refine (reset_f nid w3).mono ?_
          rintro e w4 ⟨rfl, b4⟩
          have H4 := Lib.hid (H3.out.trans (b4.mono H3.out.size))
          clear b4
          go_wp2_with fail
          refine wp_at_world (F := fun W => Below w4.heap.size w4 W ∧ w4.heap.size + 2 ≤ W.heap.size ∧ W.rangeAt w4.heap.size 0 [.int .i64 2, .int .i64 0, .int .i64 id, .slice none 0 0, .slice none 0 0, .slice none 0 0] ∧ W.rangeAt (w4.heap.size + 1) 0 [.int .i64 3, .int .i64 0, .int .i64 nid, .slice none 0 0, .slice none 0 0, .slice none 0 0]) ⟨(alloc_below w4 _).alloc (by rw [alloc_size]; omega) _, by rw [alloc_size, alloc_size]; exact Nat.le_refl _, range_below (range_newA w4 _ _ rfl) (alloc_below _ _) (by rw [alloc_size]; omega), range_new1 w4 _ _ _ rfl⟩ fun W5 ⟨b5, s5, r5, r6⟩ => ?_
          have H5 := Lib.hid (And.intro (H4.out.trans (b5.mono H4.out.size)) (And.intro s5 (And.intro r5 r6)))
          clear b5 s5 r5 r6
          refine wp_region_rel (fun w' => Below W5.heap.size W5 w') (fun w w' => Below w.heap.size w w') (ReR (.agg #[.int .i64 kd, .int .i64 cd, .int .i64 id, .slice tA tn tc, .slice oA on oc, .slice bA bn bc]) (.agg #[.int .i64 (if kd = 0 then 2 else 1), .int .i64 code, .int .i64 (if kd = 0 then id else nid), .slice tA tn tc, .slice pA pn pc, .slice qA qn qc]) ⟨if kd = 0 then 2 else 1, code, if kd = 0 then id else nid, tok, qs, l⟩ w.heap.size cd code nid id (.slice pA pn pc) (.slice qA qn qc)) [(5, .pointer (some ⟨w.heap.size, 0, none⟩)), (1, .int .i64 code), (2, .int .i64 nid), (3, .slice pA pn pc), (4, .slice qA qn qc), (11, .pointer (some ⟨w4.heap.size, 0, none⟩)), (12, .pointer (some ⟨w4.heap.size + 1, 0, none⟩))] (by kernel_rfl) (by kernel_rfl) (by kernel_rfl) ?base (Below.drew (Below.refl _ _)) (fun i w w' v hb h => ReR.grow i w w' v hb h) ?steps ?fin
          case base =>
            intro x hx
            simp only [List.mem_cons, List.not_mem_nil, or_false] at hx
            rcases hx with rfl | rfl | rfl | rfl | rfl | rfl | rfl <;> exact ⟨rfl, rfl⟩
          case steps =>
            refine steps_cons ?_ (steps_cons ?_ (steps_cons ?_ (steps_cons ?_ (steps_cons ?_ (steps_cons ?_ (steps_cons ?_ (steps_cons ?_ (steps_cons ?_ (steps_cons ?_ (steps_cons ?_ (steps_cons ?_ (steps_cons ?_ (steps_cons ?_ (steps_cons ?_ (steps_cons ?_ (steps_cons ?_ (steps_cons ?_ (steps_cons ?_ (steps_cons ?_ (steps_cons ?_ (steps_cons ?_ (steps_cons ?_ (steps_cons ?_ (steps_cons ?_ (steps_cons ?_ (steps_cons ?_ (steps_cons ?_ (steps_cons ?_ (steps_cons ?_ (steps_cons ?_ (steps_cons ?_ (steps_cons ?_ (steps_cons ?_ (steps_cons ?_ (steps_cons ?_ (steps_cons ?_ (steps_cons ?_ (steps_cons ?_ (steps_cons ?_ (steps_cons ?_ steps_nil))))))))))))))))))))))))))))))))))))))))
            · intro a w K hS hB hR hK
              rw [if_pos (wanted_none rfl)]
              have h5 := tmp_is (hB.1)
              have hB : Below W0.heap.size W0 w := H5.out.1.trans (hS.mono H5.out.1.size)
              obtain ⟨d0, d1, d2, d3, d4, d5⟩ := six (HA.out.2.1 w hB)
              go_simp
              exact hK (.agg #[.int .i64 kd, .int .i64 cd, .int .i64 id, .slice tA tn tc, .slice oA on oc, .slice bA bn bc]) w hS (Below.refl _ w) rfl
            · intro a w K hS hB hR hK
              rw [if_pos (wanted_none rfl)]
              have h1 := tmp_is (hB.2.1)
              go_simp
              exact hK (.int .i64 code) w hS (Below.refl _ w) rfl
            · intro a w K hS hB hR hK
              rw [if_pos (wanted_none rfl)]
              have h2 := tmp_is (hB.2.2.1)
              go_simp
              exact hK (.int .i64 nid) w hS (Below.refl _ w) rfl
            · intro a w K hS hB hR hK
              rw [if_pos (wanted_none rfl)]
              have h3 := tmp_is (hB.2.2.2.1)
              go_simp
              exact hK (.slice pA pn pc) w hS (Below.refl _ w) rfl
            · intro a w K hS hB hR hK
              rw [if_pos (wanted_none rfl)]
              have h4 := tmp_is (hB.2.2.2.2.1)
              go_simp
              exact hK (.slice qA qn qc) w hS (Below.refl _ w) rfl
            · intro a w K hS hB hR hK
              rw [if_pos (wanted_none rfl)]
              have h40 := tmp_is (hR.1)
              have h41 := tmp_is (hR.2.1)
              have h42 := tmp_is (hR.2.2.1)
              have h43 := tmp_is (hR.2.2.2.1)
              have h44 := tmp_is (hR.2.2.2.2.1)
              have hB : Below W0.heap.size W0 w := H5.out.1.trans (hS.mono H5.out.1.size)
              go_simp
              refine (HR.out.1 w hB).mono ?_
              rintro e w' ⟨a1, a2, a3, a4, a5, a6, a7, a8, a9, a10, rfl, _, hms, hb⟩
              exact hK _ _ (hS.trans (hb.mono hS.size)) hb ⟨a1, a2, a3, a4, a5, a6, a7, a8, a9, a10, rfl, hms⟩
            · intro a w K hS hB hR hK
              rw [if_pos (wanted_none rfl)]
              have h5 := tmp_is (hB.1)
              have hB : Below W0.heap.size W0 w := H5.out.1.trans (hS.mono H5.out.1.size)
              obtain ⟨d0, d1, d2, d3, d4, d5⟩ := six (HA.out.2.1 w hB)
              go_simp
              exact hK (.agg #[.int .i64 kd, .int .i64 cd, .int .i64 id, .slice tA tn tc, .slice oA on oc, .slice bA bn bc]) w hS (Below.refl _ w) rfl
            · intro a w K hS hB hR hK
              rw [if_pos (wanted_none rfl)]
              have h1 := tmp_is (hB.2.1)
              go_simp
              exact hK (.int .i64 code) w hS (Below.refl _ w) rfl
            · intro a w K hS hB hR hK
              rw [if_pos (wanted_none rfl)]
              have h2 := tmp_is (hB.2.2.1)
              go_simp
              exact hK (.int .i64 nid) w hS (Below.refl _ w) rfl
            · intro a w K hS hB hR hK
              rw [if_pos (wanted_none rfl)]
              have h3 := tmp_is (hB.2.2.2.1)
              go_simp
              exact hK (.slice pA pn pc) w hS (Below.refl _ w) rfl
            · intro a w K hS hB hR hK
              rw [if_pos (wanted_none rfl)]
              have h4 := tmp_is (hB.2.2.2.2.1)
              go_simp
              exact hK (.slice qA qn qc) w hS (Below.refl _ w) rfl
            · intro a w K hS hB hR hK
              rw [if_pos (wanted_none rfl)]
              have h46 := tmp_is (hR.1)
              have h47 := tmp_is (hR.2.1)
              have h48 := tmp_is (hR.2.2.1)
              have h49 := tmp_is (hR.2.2.2.1)
              have h50 := tmp_is (hR.2.2.2.2.1)
              go_simp
              refine (rreply_f kd cd id tA tn tc oA on oc bA bn bc code nid pA pn pc qA qn qc w).mono ?_
              rintro e w' ⟨rfl, hb⟩
              exact hK _ _ (hS.trans (hb.mono hS.size)) hb rfl
            · intro a w K hS hB hR hK
              rw [if_pos (wanted_none rfl)]
              have h51 := tmp_is (hR.2.1)
              obtain ⟨a1, a2, a3, a4, a5, a6, a7, a8, a9, a10, hv, hms⟩ := hR.1
              dsimp only at hv hms
              have h45 := tmp_is hv
              have hB : Below W0.heap.size W0 w := H5.out.1.trans (hS.mono H5.out.1.size)
              go_simp
              have hbo : Ms w w.heap.size tA tn pA pn us0 qA qn tok qs l := ⟨(HB.out.1 w hB).t, HB.out.2.1 w hB, HB.out.2.2.1 w hB⟩
              have y1 := hms.t.len
              have y2 := hms.o.plen
              have y3 := hms.b.len
              have z1 := HR.out.2.2.1.1
              have z2 := HR.out.2.1.1
              have z3 := HR.out.2.2.1.2.2.2.2
              have z4 := HR.out.2.2.2.1
              have z5 := HR.out.2.2.2.2
              have z6 := HR.out.2.2.1.2.2.2.1
              have hsm := rmsame_f ⟨if kd = 0 then 2 else 1, code, if kd = 0 then id else nid, tok, qs, l⟩ ⟨if kd = 0 then 2 else 1, code, if kd = 0 then id else nid, tok, qs, l⟩ a1 a4 a7 tA pA qA a2 a3 a5 a6 a8 a9 tn tc pn pc qn qc a10 us0 w hms hbo (by omega) (by omega) (fun x hx => Nat.le_trans (HR.out.2.1.2 x hx) (by decide)) (fun x hx => Nat.le_trans (HR.out.2.1.2 x hx) (by decide))
              rw [show mqB ⟨if kd = 0 then 2 else 1, code, if kd = 0 then id else nid, tok, qs, l⟩ ⟨if kd = 0 then 2 else 1, code, if kd = 0 then id else nid, tok, qs, l⟩ = true from decide_eq_true ⟨rfl, rfl, rfl, rfl, rfl, rfl⟩] at hsm
              refine hsm.mono ?_
              rintro e w' ⟨rfl, hb⟩
              exact hK _ _ (hS.trans (hb.mono hS.size)) hb rfl
            · intro a w K hS hB hR hK
              rw [if_pos (wanted_none rfl)]
              have h52 := tmp_is (hR.1)
              go_simp
              exact hK (.bool true) w hS (Below.refl _ w) rfl
            · intro a w K hS hB hR hK
              rw [if_pos (wanted_some rfl (hR.1))]
              have h5 := tmp_is (hB.1)
              have hB : Below W0.heap.size W0 w := H5.out.1.trans (hS.mono H5.out.1.size)
              obtain ⟨d0, d1, d2, d3, d4, d5⟩ := six (HA.out.2.1 w hB)
              go_simp
              exact hK (.agg #[.int .i64 kd, .int .i64 cd, .int .i64 id, .slice tA tn tc, .slice oA on oc, .slice bA bn bc]) w hS (Below.refl _ w) rfl
            · intro a w K hS hB hR hK
              rw [if_pos (wanted_some rfl (hR.2.1))]
              have h54 := tmp_is (hR.1)
              go_simp
              refine (request_f kd cd id tA tn tc oA on oc bA bn bc w).mono ?_
              rintro e w' ⟨rfl, hb⟩
              exact hK _ _ (hS.trans (hb.mono hS.size)) hb rfl
            · intro a w K hS hB hR hK
              rw [if_pos (wanted_some rfl (hR.1))]
              have h5 := tmp_is (hB.1)
              have hB : Below W0.heap.size W0 w := H5.out.1.trans (hS.mono H5.out.1.size)
              obtain ⟨d0, d1, d2, d3, d4, d5⟩ := six (HA.out.2.1 w hB)
              go_simp
              exact hK (.agg #[.int .i64 kd, .int .i64 cd, .int .i64 id, .slice tA tn tc, .slice oA on oc, .slice bA bn bc]) w hS (Below.refl _ w) rfl
            · intro a w K hS hB hR hK
              rw [if_pos (wanted_some rfl (hR.2.2.1))]
              have h56 := tmp_is (hR.1)
              go_simp
              refine (rrequest_f kd cd id tA tn tc oA on oc bA bn bc w).mono ?_
              rintro e w' ⟨rfl, hb⟩
              exact hK _ _ (hS.trans (hb.mono hS.size)) hb rfl
            · intro a w K hS hB hR hK
              rw [if_pos (wanted_some rfl (hR.2.2.1))]
              have h55 := tmp_is (hR.1)
              have h57 := tmp_is (hR.2.1)
              have hbe : (askB cd == askB cd) = true := beq_self_eq_true _
              go_simp
              exact hK (.bool true) w hS (Below.refl _ w) rfl
            · intro a w K hS hB hR hK
              rw [if_pos (wanted_none rfl)]
              have h53 := tmp_is (hR.1)
              have h58 := tmp_is (hR.2.1)
              go_simp
              exact hK (.bool true) w hS (Below.refl _ w) rfl
            · intro a w K hS hB hR hK
              rw [if_pos (wanted_none rfl)]
              have h59 := tmp_is (hR.1)
              go_simp
              exact hK (.bool true) w hS (Below.refl _ w) rfl
            · intro a w K hS hB hR hK
              rw [if_pos (wanted_some rfl (hR.1))]
              have h5 := tmp_is (hB.1)
              have hB : Below W0.heap.size W0 w := H5.out.1.trans (hS.mono H5.out.1.size)
              obtain ⟨d0, d1, d2, d3, d4, d5⟩ := six (HA.out.2.1 w hB)
              go_simp
              exact hK (.agg #[.int .i64 kd, .int .i64 cd, .int .i64 id, .slice tA tn tc, .slice oA on oc, .slice bA bn bc]) w hS (Below.refl _ w) rfl
            · intro a w K hS hB hR hK
              rw [if_pos (wanted_some rfl (hR.2.1))]
              have h61 := tmp_is (hR.1)
              go_simp
              refine (answer_f kd cd id tA tn tc oA on oc bA bn bc w).mono ?_
              rintro e w' ⟨rfl, hb⟩
              exact hK _ _ (hS.trans (hb.mono hS.size)) hb rfl
            · intro a w K hS hB hR hK
              rw [if_pos (wanted_some rfl (hR.1))]
              have h5 := tmp_is (hB.1)
              have hB : Below W0.heap.size W0 w := H5.out.1.trans (hS.mono H5.out.1.size)
              obtain ⟨d0, d1, d2, d3, d4, d5⟩ := six (HA.out.2.1 w hB)
              go_simp
              exact hK (.agg #[.int .i64 kd, .int .i64 cd, .int .i64 id, .slice tA tn tc, .slice oA on oc, .slice bA bn bc]) w hS (Below.refl _ w) rfl
            · intro a w K hS hB hR hK
              rw [if_pos (wanted_some rfl (hR.2.2.1))]
              have h63 := tmp_is (hR.1)
              go_simp
              refine (ranswer_f kd cd id tA tn tc oA on oc bA bn bc w).mono ?_
              rintro e w' ⟨rfl, hb⟩
              exact hK _ _ (hS.trans (hb.mono hS.size)) hb rfl
            · intro a w K hS hB hR hK
              rw [if_pos (wanted_some rfl (hR.2.2.1))]
              have h62 := tmp_is (hR.1)
              have h64 := tmp_is (hR.2.1)
              have hbe : (ansB cd == ansB cd) = true := beq_self_eq_true _
              go_simp
              exact hK (.bool true) w hS (Below.refl _ w) rfl
            · intro a w K hS hB hR hK
              rw [if_pos (wanted_none rfl)]
              have h60 := tmp_is (hR.1)
              have h65 := tmp_is (hR.2.1)
              go_simp
              exact hK (.bool true) w hS (Below.refl _ w) rfl
            · intro a w K hS hB hR hK
              rw [if_pos (wanted_none rfl)]
              have h66 := tmp_is (hR.1)
              go_simp
              exact hK (.bool true) w hS (Below.refl _ w) rfl
            · intro a w K hS hB hR hK
              rw [if_pos (wanted_some rfl (hR.1))]
              have h11 := tmp_is (hB.2.2.2.2.2.1)
              obtain ⟨d0, d1, d2, d3, d4, d5⟩ := six (range_below H5.out.2.2.1 hS (by have := H5.out.2.1; omega))
              go_simp
              exact hK (.agg #[.int .i64 2, .int .i64 0, .int .i64 id, .slice none 0 0, .slice none 0 0, .slice none 0 0]) w hS (Below.refl _ w) rfl
            · intro a w K hS hB hR hK
              rw [if_pos (wanted_some rfl (hR.1))]
              have h5 := tmp_is (hB.1)
              go_simp
              exact hK _ w hS (Below.refl _ w) rfl
            · intro a w K hS hB hR hK
              rw [if_pos (wanted_some rfl (hR.2.1))]
              have h69 := tmp_is (hR.1)
              have hB : Below W0.heap.size W0 w := H5.out.1.trans (hS.mono H5.out.1.size)
              obtain ⟨d0, d1, d2, d3, d4, d5⟩ := six (HA.out.2.1 w hB)
              go_simp
              exact hK (.int .i64 id) w hS (Below.refl _ w) rfl
            · intro a w K hS hB hR hK
              rw [if_pos (wanted_some rfl (hR.2.1))]
              have h70 := tmp_is (hR.1)
              go_simp
              exact hK (.agg #[.int .i64 2, .int .i64 0, .int .i64 id, .slice none 0 0, .slice none 0 0, .slice none 0 0]) w hS (Below.refl _ w) rfl
            · intro a w K hS hB hR hK
              rw [if_pos (wanted_some rfl (hR.2.2.1))]
              have h68 := tmp_is (hR.1)
              have h71 := tmp_is (hR.2.1)
              go_simp
              have hsm := rmsame_f ⟨2, 0, id, [], [], []⟩ ⟨2, 0, id, [], [], []⟩ none none none none none none 0 0 0 0 0 0 0 0 0 0 0 0 [] [] w (Ms.zero _ _) (Ms.zero _ _) (by omega) (by omega) (by intro x hx; cases hx) (by intro x hx; cases hx)
              rw [show mqB ⟨2, 0, id, [], [], []⟩ ⟨2, 0, id, [], [], []⟩ = true from decide_eq_true ⟨rfl, rfl, rfl, rfl, rfl, rfl⟩] at hsm
              refine hsm.mono ?_
              rintro e w' ⟨rfl, hb⟩
              exact hK _ _ (hS.trans (hb.mono hS.size)) hb rfl
            · intro a w K hS hB hR hK
              rw [if_pos (wanted_none rfl)]
              have h67 := tmp_is (hR.1)
              have h72 := tmp_is (hR.2.1)
              go_simp
              exact hK (.bool true) w hS (Below.refl _ w) rfl
            · intro a w K hS hB hR hK
              rw [if_pos (wanted_none rfl)]
              have h73 := tmp_is (hR.1)
              go_simp
              exact hK (.bool true) w hS (Below.refl _ w) rfl
            · intro a w K hS hB hR hK
              rw [if_pos (wanted_some rfl (hR.1))]
              have h12 := tmp_is (hB.2.2.2.2.2.2.1)
              obtain ⟨d0, d1, d2, d3, d4, d5⟩ := six (range_below H5.out.2.2.2 hS (by have := H5.out.2.1; omega))
              go_simp
              exact hK (.agg #[.int .i64 3, .int .i64 0, .int .i64 nid, .slice none 0 0, .slice none 0 0, .slice none 0 0]) w hS (Below.refl _ w) rfl
            · intro a w K hS hB hR hK
              rw [if_pos (wanted_some rfl (hR.1))]
              have h2 := tmp_is (hB.2.2.1)
              go_simp
              exact hK (.int .i64 nid) w hS (Below.refl _ w) rfl
            · intro a w K hS hB hR hK
              rw [if_pos (wanted_some rfl (hR.2.1))]
              have h76 := tmp_is (hR.1)
              go_simp
              exact hK (.agg #[.int .i64 3, .int .i64 0, .int .i64 nid, .slice none 0 0, .slice none 0 0, .slice none 0 0]) w hS (Below.refl _ w) rfl
            · intro a w K hS hB hR hK
              rw [if_pos (wanted_some rfl (hR.2.2.1))]
              have h75 := tmp_is (hR.1)
              have h77 := tmp_is (hR.2.1)
              go_simp
              have hsm := rmsame_f ⟨3, 0, nid, [], [], []⟩ ⟨3, 0, nid, [], [], []⟩ none none none none none none 0 0 0 0 0 0 0 0 0 0 0 0 [] [] w (Ms.zero _ _) (Ms.zero _ _) (by omega) (by omega) (by intro x hx; cases hx) (by intro x hx; cases hx)
              rw [show mqB ⟨3, 0, nid, [], [], []⟩ ⟨3, 0, nid, [], [], []⟩ = true from decide_eq_true ⟨rfl, rfl, rfl, rfl, rfl, rfl⟩] at hsm
              refine hsm.mono ?_
              rintro e w' ⟨rfl, hb⟩
              exact hK _ _ (hS.trans (hb.mono hS.size)) hb rfl
            · intro a w K hS hB hR hK
              rw [if_pos (wanted_none rfl)]
              have h74 := tmp_is (hR.1)
              have h78 := tmp_is (hR.2.1)
              go_simp
              exact hK (.bool true) w hS (Below.refl _ w) rfl
            · intro a w K hS hB hR hK
              rw [if_pos (wanted_none rfl)]
              have h79 := tmp_is (hR.1)
              go_simp
              exact hK (.bool true) w hS (Below.refl _ w) rfl
          case fin =>
            intro a w8 hS8 ha hR
            have h40 : a.eval (.tmp 10) = .bool true := deps_mem _ hR 40 (by decide)
            have H8 := Lib.hid hS8
            clear hR hS8
            simp only [pin] at ha
            rw [ha]
            simp only [List.setIfInBounds_toArray, List.set_cons_zero, List.set_cons_succ, h40]
            clear ha h40
            go_wp2
            go_ret
            exact ⟨rfl, HA.out.2.2.2.2 w8 (H5.out.1.trans (H8.out.mono H5.out.1.size))⟩
end Go.Proofs.Ytihicplembaoeaa
