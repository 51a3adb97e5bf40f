/-
  The law ValueOfs.
-/
import Derived.Test.YtkacgdhcacclcaaDoorVaAlive
import Derived.Test.YtkacgdhcacclcaaDoorVaOver
import Derived.Test.YtkacgdhcacclcaaDoorVaRWire
namespace Go.Proofs.YtkacgdhcacclcaaDoor
open Go.RowKit
set_option maxRecDepth 100000
set_option linter.unusedVariables false
theorem ofE_ok (k n : Int) (sl ok bl : Nat) (o i : Int) (h : ofE k n sl ok bl o i = 0) : k ≠ 0 ∧ rightB k n sl ok bl o i = true := by
  unfold ofE at h
  split at h
  · cases h
  · split at h
    · exact ⟨by omega, by assumption⟩
    · cases h
theorem txtE_eq (k n : Int) (sl ok bl : Nat) (o i : Int) : txtE k n sl ok bl o i = ofE k n sl ok bl o i := rfl
/-- What each operation of the last line leaves. -/
def VoR (vx : Value) (b : Nat) (k n : Int) (s : ByteArray) (o i : Int) (A : Option Addr) (m c : Nat) (l L : List UInt8) (A9 : Option Addr) (n9 c9 : Nat) (pq : Bool) (j : Nat) (w : World) (v : Value) : Prop :=
  match j with
  | 0 | 5 => v = vx
  | 1 => ∃ A5 c5, v = .agg #[.int .i64 k, .int .i64 n, .string s, .slice A5 l.length c5, .int .i64 o, .int .i64 i] ∧ Bs w w.heap.size A5 l.length l
  | 2 | 7 => v = .agg #[.int .i64 k, .int .i64 n, .string s, .slice A m c, .int .i64 o, .int .i64 i]
  | 6 | 8 => ∃ A5 c5, v = .slice A5 L.length c5 ∧ Bs w w.heap.size A5 L.length L
  | 12 | 15 => v = .bool pq
  | 13 => v = .pointer (some ⟨b, 0, none⟩)
  | 14 => v = .int .i64 k
  | 19 => v = .slice A9 n9 c9
  | 20 => v = .pointer (some ⟨b, 3, none⟩)
  | 21 => v = .slice A m c
  | _ => v = .bool true
theorem VoR.grow {vx : Value} {b : Nat} {k n : Int} {s : ByteArray} {o i : Int} {A : Option Addr} {m c : Nat} {l L : List UInt8} {A9 : Option Addr} {n9 c9 : Nat} {pq : Bool} (j : Nat) (w w' : World) (v : Value) (hb : Below w.heap.size w w') (h : VoR vx b k n s o i A m c l L A9 n9 c9 pq j w v) : VoR vx b k n s o i A m c l L A9 n9 c9 pq j w' v := by
  unfold VoR at h ⊢
  split at h
  all_goals first | exact h | (obtain ⟨A5, c5, h1, h2⟩ := h; exact ⟨A5, c5, h1, (h2.below hb).more hb.size⟩)
set_option maxHeartbeats 16000000 in
theorem vofs_law (k n : Int) (s : ByteArray) (A : Option Addr) (m c : Nat) (o i : Int) (l : List UInt8) (w : World) (hn : I64 n) (ho : I64 o) (hi : I64 i) (hbs : Bs w w.heap.size A m l) (hc : m ≤ c) (hT : Tabs w) (hD : TabD w) :
    Calls Tryd.prog 9 #[.agg #[.int .i64 k, .int .i64 n, .string s, .slice A m c, .int .i64 o, .int .i64 i]] w fun e w' => e = .returned (.bool true) ∧ Below w.heap.size w w' := by
  have hb0 := alloc_below w (.cells #[.int .i64 k, .int .i64 n, .string s, .slice A m c, .int .i64 o, .int .i64 i] 24)
  have hr0 := range_newB w #[.int .i64 k, .int .i64 n, .string s, .slice A m c, .int .i64 o, .int .i64 i] 24 rfl
  have hz0 : w.heap.size < (w.alloc (.cells #[.int .i64 k, .int .i64 n, .string s, .slice A m c, .int .i64 o, .int .i64 i] 24)).heap.size := by rw [alloc_size]; exact Nat.lt_succ_self _
  obtain ⟨W0, hW0⟩ : ∃ W0, w.alloc (.cells #[.int .i64 k, .int .i64 n, .string s, .slice A m c, .int .i64 o, .int .i64 i] 24) = W0 := ⟨_, rfl⟩
  rw [hW0] at hb0 hr0 hz0
  have cA := fun W (hW : Below w.heap.size w W) => alive14 W (hT.below hW hT.size)
  have hcl : ∀ W, Below W0.heap.size W0 W → W.rangeAt w.heap.size 0 [.int .i64 k, .int .i64 n, .string s, .slice A m c, .int .i64 o, .int .i64 i] := fun W hW => range_below hr0 hW hz0
  have hup : ∀ W, Below W0.heap.size W0 W → Below w.heap.size w W := fun W hW => hb0.trans (hW.mono (Nat.le_of_lt hz0))
  have HC := Lib.hid (And.intro hcl (And.intro hup (And.intro hbs (And.intro hT (And.intro hc (And.intro hz0 hD))))))
  have H0 := Lib.hid hb0
  have HN := Lib.hid (And.intro hn (And.intro ho hi))
  have hSh := fun W => short_f k n s A m c o i W
  have HW := Lib.hid hW0
  clear hb0 hr0 hz0 hW0 hcl hup hbs hT hc hn ho hi hD
  by_cases hsh : shortB s.size m = true
  · rw [hsh] at hSh
    unfold shortB at hsh
    have hsh := of_decide_eq_true hsh
    have hlen := HC.out.2.2.1.len
    have cO := fun W (hW : Below w.heap.size w W) => of_f k n s A m c o i l W _ (HC.out.2.2.1.below hW) hW.size (by omega) (by omega) (HC.out.2.2.2.1.below hW HC.out.2.2.2.1.size)
    have cP := fun W (hW : Below w.heap.size w W) => rwrite13_f k n s A m c o i l W _ (HC.out.2.2.1.below hW) hW.size (by omega) (by omega) (HC.out.2.2.2.2.2.2.below hW HC.out.2.2.2.2.2.2.size) HN.out.1.1 HN.out.1.2 HN.out.2.1.1 HN.out.2.1.2 HN.out.2.2.1 HN.out.2.2.2
    simp only [txtE_eq] at cP
    obtain ⟨er, her⟩ : ∃ er, ofE k n s.size (okN (runesQ s.data.toList)) m o i = er := ⟨_, rfl⟩
    rw [her] at cO cP
    have HE := Lib.hid (And.intro her (And.intro hsh hlen))
    clear her hsh hlen
    go_enter Tryd.func9, Tryd.ntmps9
    go_wp2_with fail
    rw [HW.out]
    refine (cA _ H0.out).mono ?_
    rintro e w1 ⟨rfl, b1⟩
    obtain ⟨p0, p1, p2, p3, p4, p5⟩ := six (HC.out.1 w1 b1)
    go_wp2_with fail
    refine (hSh w1).mono ?_
    rintro e w2 ⟨rfl, b2⟩
    have b2 := b1.trans (b2.mono b1.size)
    clear p0 p1 p2 p3 p4 p5 b1 hSh cA
    obtain ⟨p0, p1, p2, p3, p4, p5⟩ := six (HC.out.1 w2 b2)
    go_wp2_with fail
    refine (cO w2 (HC.out.2.1 w2 b2)).mono ?_
    rintro e w3 ⟨b3, h3⟩
    have b3 := b2.trans (b3.mono b2.size)
    clear p0 p1 p2 p3 p4 p5 b2 cO
    obtain ⟨p0, p1, p2, p3, p4, p5⟩ := six (HC.out.1 w3 b3)
    have H3 := Lib.hid b3
    clear b3
    rcases h3 with ⟨hne, rfl⟩ | ⟨rfl, x, rfl, hx⟩
    · have hne2 : (er != 0) = true := bne_iff_ne.2 hne
      have hee : (er != er) = false := bne_self_eq_false _
      try dsimp only
      go_wp2_with fail
      refine (cP w3 (HC.out.2.1 w3 H3.out)).mono ?_
      rintro e w4 ⟨t4, rfl, _, b4⟩
      have H4 := Lib.hid (HC.out.2.1 w4 (H3.out.trans (b4.mono H3.out.size)))
      clear b4 p0 p1 p2 p3 p4 p5 cP
      try dsimp only
      go_wp2
      go_ret
      exact ⟨rfl, H4.out⟩
    · have hoc := ofE_ok k n s.size (okN (runesQ s.data.toList)) m o i HE.out.1
      have qA := vl_nilq x (by rw [hx.k]; exact hoc.1)
      have gA := vl_guard x (by rw [hx.k]; exact hoc.1)
      have fA : FlatOf x.val k n s x.a x.l x.c o i := by
        have := x.flatOf
        rwa [hx.k, hx.n, hx.s, hx.o, hx.i] at this
      have hB : x.isB = (k == 4) := by rw [← hx.k]; cases x <;> rfl
      have hR := of_decide_eq_true hoc.2
      have hlx := hx.bs.len
      have hm1 : x.l ≤ 1000000 := by have := HE.out.2.1.2; have := HE.out.2.2; omega
      have hl4 : k ≠ 4 → l = [] := fun h => List.eq_nil_of_length_eq_zero (by have := HE.out.2.2; omega)
      have cM : ∀ W, Bs W W.heap.size x.a x.l l → Calls Tryd.prog 26 #[x.val] W fun e w' => ∃ A' n' c', e = .returned (.tuple #[.slice A' n' c', .bool (k != 4)]) ∧ Hid (n' = l.length) ∧ Bs w' w'.heap.size A' n' l ∧ Below W.heap.size W w' := fun W b => by
        by_cases h4 : k = 4
        · refine (must_yes x l W _ b (Nat.le_refl _) hm1 (by rw [hB, h4]; rfl)).mono ?_
          rintro e w' ⟨A', n', c', rfl, _, hn', hN', hb'⟩
          exact ⟨A', n', c', by rw [h4]; rfl, hn', hN'.bs, hb'⟩
        · refine (must_no x W (by rw [hB]; exact beq_eq_false_iff_ne.2 h4)).mono ?_
          rintro e w' ⟨rfl, hb'⟩
          refine ⟨none, 0, 0, by rw [bne_iff_ne.2 h4], by rw [hl4 h4]; rfl, by rw [hl4 h4]; exact Bs.empty _ _ _, hb'⟩
      have hnk : (if numT k then n else 0) = n := by
        unfold numT
        by_cases h : k = 1 ∨ k = 5 ∨ k = 2
        · rw [decide_eq_true h, if_pos rfl]
        · rw [decide_eq_false h, if_neg (by decide)]; omega
      have cN := fun W => number_l x.val k n s x.a x.l x.c o i W fA
      rw [hnk] at cN
      have cW := fun W => words_l x.val k n s x.a x.l x.c o i W fA (by have := HE.out.2.1.1; omega)
      have cV := fun W (b : Bs W W.heap.size x.a x.l l) => val_l x.val k n s x.a x.l x.c o i l W fA (by have := HE.out.2.1.1; omega) _ b (Nat.le_refl _) hm1
      have cX := fun W (b : Bs W W.heap.size x.a x.l l) => wire_l x.val k n s x.a x.l x.c o i l W fA HN.out.1 HN.out.2.1 HN.out.2.2 _ b (Nat.le_refl _) hm1
      have cY := fun W (h : Below w.heap.size w W) => rwire14_f k n s A m c o i l W _ (HC.out.2.2.1.below h) h.size (by have := HE.out.2.1.2; omega) HN.out.1 HN.out.2.1 HN.out.2.2 (fun h => by omega) (fun h => by omega)
      have cS := fun W A5 c5 (h : Below w.heap.size w W) (b : Bs W W.heap.size A5 l.length l) => rsame13_yes k n s o i l A5 A l.length c5 m c W _ _ b (HC.out.2.2.1.below h) (Nat.le_refl _) h.size (by have := HE.out.2.1.2; have := HE.out.2.2; omega)
      obtain ⟨L, hL⟩ : ∃ L, wireQ k n s l o i = L := ⟨_, rfl⟩
      have hLl := wire_len k n s l o i HE.out.2.1.1 (by rw [HE.out.2.2]; exact HE.out.2.1.2)
      rw [hL] at cX cY hLl
      have hxb := hx.bs
      have HX := Lib.hid (And.intro hxb (And.intro hlx (And.intro hR hLl)))
      generalize hvx : x.val = vx at *
      obtain ⟨ok, hok⟩ : ∃ ok, numT k = ok := ⟨_, rfl⟩
      rw [hok] at cN
      obtain ⟨wq, hwq⟩ : ∃ wq, (k == 3) = wq := ⟨_, rfl⟩
      rw [hwq] at cW
      obtain ⟨pq, hpq⟩ : ∃ pq, (k != 4) = pq := ⟨_, rfl⟩
      rw [hpq] at cM
      have HQ := Lib.hid (And.intro hok (And.intro hwq hpq))
      clear hx hoc fA hB hR hlx hxb hvx hl4 hnk hm1 hL hLl hok hwq hpq
      try dsimp only
      go_wp2_with fail
      refine (cP w3 (HC.out.2.1 w3 H3.out)).mono ?_
      rintro e w4 ⟨t4, rfl, _, b4⟩
      have H4 := Lib.hid (And.intro (H3.out.trans (b4.mono H3.out.size)) ((HX.out.1.below b4).more b4.size))
      clear b4 p0 p1 p2 p3 p4 p5 cP
      try dsimp only
      go_wp2_with fail
      refine (cN w4).mono ?_
      rintro e w5 ⟨rfl, b5⟩
      have H5 := Lib.hid (And.intro (H4.out.1.trans (b5.mono H4.out.1.size)) ((H4.out.2.below b5).more b5.size))
      clear b5 cN
      try dsimp only
      go_wp2_with fail
      refine (cW w5).mono ?_
      rintro e w6 ⟨rfl, b6⟩
      have H6 := Lib.hid (And.intro (H5.out.1.trans (b6.mono H5.out.1.size)) ((H5.out.2.below b6).more b6.size))
      clear b6 cW
      try dsimp only
      go_wp2_with fail
      refine (cM w6 H6.out.2).mono ?_
      rintro e w7 ⟨A9, n9, c9, rfl, hn9, hb9, b7⟩
      have H7 := Lib.hid (And.intro (H6.out.1.trans (b7.mono H6.out.1.size)) (And.intro ((H6.out.2.below b7).more b7.size) (And.intro hb9 hn9)))
      clear b7 cM hb9 hn9
      obtain ⟨p0, p1, p2, p3, p4, p5⟩ := six (HC.out.1 w7 H7.out.1)
      have hnn : (n != n) = false := bne_self_eq_false _
      have hss : (s.toList == s.toList) = true := beq_self_eq_true _
      try dsimp only
      have hk6 : k = 1 ∨ k = 2 ∨ k = 3 ∨ k = 4 ∨ k = 5 ∨ k = 6 := by have := HX.out.2.2.1; omega
      rcases hk6 with rfl | rfl | rfl | rfl | rfl | rfl
      · obtain rfl : true = ok := HQ.out.1
        obtain rfl : false = wq := HQ.out.2.1
        obtain rfl : true = pq := HQ.out.2.2
        go_wp2_with fail
        have hc2 : ∀ W, Below w7.heap.size w7 W → Below w.heap.size w W := fun W h => HC.out.2.1 W (H7.out.1.trans (h.mono H7.out.1.size))
        have hcl : ∀ W, Below w7.heap.size w7 W → W.cell? ⟨w.heap.size, 0, none⟩ = some (.int .i64 1) ∧ W.cell? ⟨w.heap.size, 1, none⟩ = some (.int .i64 n) ∧ W.cell? ⟨w.heap.size, 2, none⟩ = some (.string s) ∧ W.cell? ⟨w.heap.size, 3, none⟩ = some (.slice A m c) ∧ W.cell? ⟨w.heap.size, 4, none⟩ = some (.int .i64 o) ∧ W.cell? ⟨w.heap.size, 5, none⟩ = some (.int .i64 i) := fun W h => six (HC.out.1 W (H7.out.1.trans (h.mono H7.out.1.size)))
        have cV2 := fun W (h : Below w7.heap.size w7 W) => cV W ((H7.out.2.1.below h).more h.size)
        have cX2 := fun W (h : Below w7.heap.size w7 W) => cX W ((H7.out.2.1.below h).more h.size)
        have cY2 := fun W (h : Below w7.heap.size w7 W) => cY W (hc2 W h)
        have cS2 := fun W A5 c5 (h : Below w7.heap.size w7 W) (b : Bs W W.heap.size A5 l.length l) => cS W A5 c5 (hc2 W h) b
        have cT2 := fun W A5 c5 A6 c6 (b5 : Bs W W.heap.size A5 L.length L) (b6 : Bs W W.heap.size A6 L.length L) => (same_any A5 A6 L.length c5 L.length c6 L L W _ _ b5 b6 (by have := HX.out.2.2.2; omega) (by have := HX.out.2.2.2; omega)).mono (R' := fun e w' => e = .returned (.bool true) ∧ Below W.heap.size W w') fun e w' ⟨he, m', hw'⟩ => ⟨by rw [he, decide_eq_true rfl], hw' ▸ drewN_below _ _ m'⟩
        have cU2 := fun W (h : Below w7.heap.size w7 W) => (same_any A9 A n9 c9 m c l l W _ _ (H7.out.2.2.1.below h) (HC.out.2.2.1.below (hc2 W h)) (by have := H7.out.2.2.2.out; have := HE.out.2.1.2; have := HE.out.2.2; omega) (by have := HE.out.2.1.2; omega)).mono (R' := fun e w' => e = .returned (.bool true) ∧ Below W.heap.size W w') fun e w' ⟨he, m', hw'⟩ => ⟨by rw [he, decide_eq_true rfl], hw' ▸ drewN_below _ _ m'⟩
        obtain ⟨b, hb⟩ : ∃ b, w.heap.size = b := ⟨_, rfl⟩
        rw [hb] at hcl ⊢
        have HBB := Lib.hid hb
        have HC2 := Lib.hid hc2
        clear hb p0 p1 p2 p3 p4 p5 hc2 cV cX cY cS hnn hss
        refine wp_region_rel (fun w' => Below w7.heap.size w7 w') (fun w w' => Below w.heap.size w w') (VoR vx b 1 n s o i A m c l L A9 n9 c9 true) [(1, .pointer (some ⟨b, 0, none⟩)), (3, vx), (11, .slice A9 n9 c9), (12, .bool true)] (by kernel_rfl) (by kernel_rfl) (by kernel_rfl) ?base (Below.drew (Below.refl _ _)) (fun i w w' v hb h => VoR.grow i w w' v hb h) ?steps ?fin
        case base =>
          intro x hx
          simp only [List.mem_cons, List.not_mem_nil, or_false] at hx
          rcases hx with rfl | rfl | rfl | rfl <;> exact ⟨rfl, rfl⟩
        case steps =>
          refine steps_cons ?_ (steps_cons ?_ (steps_cons ?_ (steps_cons ?_ (steps_cons ?_ (steps_cons ?_ (steps_cons ?_ (steps_cons ?_ (steps_cons ?_ (steps_cons ?_ (steps_cons ?_ (steps_cons ?_ (steps_cons ?_ (steps_cons ?_ (steps_cons ?_ (steps_cons ?_ (steps_cons ?_ (steps_cons ?_ (steps_cons ?_ (steps_cons ?_ (steps_cons ?_ (steps_cons ?_ (steps_cons ?_ (steps_cons ?_ (steps_cons ?_ steps_nil))))))))))))))))))))))))
          · intro a w K hS hB hR hK
            rw [if_pos (wanted_none rfl)]
            have h3 := tmp_is (hB.2.1)
            go_simp
            exact hK vx w hS (Below.refl _ w) rfl
          · intro a w K hS hB hR hK
            rw [if_pos (wanted_none rfl)]
            have h99 := tmp_is (hR.1)
            go_simp
            refine (cV2 w hS).mono ?_
            rintro e w' ⟨A5, c5, rfl, _, hB5, hb⟩
            exact hK _ _ (hS.trans (hb.mono hS.size)) hb ⟨A5, c5, rfl, hB5⟩
          · intro a w K hS hB hR hK
            rw [if_pos (wanted_none rfl)]
            have h1 := tmp_is (hB.1)
            obtain ⟨p0, p1, p2, p3, p4, p5⟩ := hcl w hS
            go_simp
            exact hK (.agg #[.int .i64 1, .int .i64 n, .string s, .slice A m c, .int .i64 o, .int .i64 i]) w hS (Below.refl _ w) rfl
          · intro a w K hS hB hR hK
            rw [if_pos (wanted_none rfl)]
            have h101 := tmp_is (hR.2.1)
            obtain ⟨A5, c5, hv, hB5⟩ := hR.1
            have h100 := tmp_is hv
            go_simp
            refine (cS2 w A5 c5 hS hB5).mono ?_
            rintro e w' ⟨rfl, hb⟩
            exact hK _ _ (hS.trans (hb.mono hS.size)) hb rfl
          · intro a w K hS hB hR hK
            rw [if_pos (wanted_none rfl)]
            have h102 := tmp_is (hR.1)
            go_simp
            exact hK (.bool true) w hS (Below.refl _ w) rfl
          · intro a w K hS hB hR hK
            rw [if_pos (wanted_some rfl (hR.1))]
            have h3 := tmp_is (hB.2.1)
            go_simp
            exact hK vx w hS (Below.refl _ w) rfl
          · intro a w K hS hB hR hK
            rw [if_pos (wanted_some rfl (hR.2.1))]
            have h104 := tmp_is (hR.1)
            go_simp
            refine (cX2 w hS).mono ?_
            rintro e w' ⟨A5, n5, c5, rfl, _, hn5, hN5, hb⟩
            subst hn5
            exact hK _ _ (hS.trans (hb.mono hS.size)) hb ⟨A5, c5, rfl, hN5.bs⟩
          · intro a w K hS hB hR hK
            rw [if_pos (wanted_some rfl (hR.1))]
            have h1 := tmp_is (hB.1)
            obtain ⟨p0, p1, p2, p3, p4, p5⟩ := hcl w hS
            go_simp
            exact hK (.agg #[.int .i64 1, .int .i64 n, .string s, .slice A m c, .int .i64 o, .int .i64 i]) w hS (Below.refl _ w) rfl
          · intro a w K hS hB hR hK
            rw [if_pos (wanted_some rfl (hR.2.2.1))]
            have h106 := tmp_is (hR.1)
            go_simp
            refine (cY2 w hS).mono ?_
            rintro e w' ⟨A5, n5, c5, rfl, _, hn5, hN5, hb⟩
            subst hn5
            exact hK _ _ (hS.trans (hb.mono hS.size)) hb ⟨A5, c5, rfl, hN5.bs⟩
          · intro a w K hS hB hR hK
            rw [if_pos (wanted_some rfl (hR.2.2.2.1))]
            obtain ⟨A5, c5, hv, hB5⟩ := hR.1
            obtain ⟨A6, c6, hv6, hB6⟩ := hR.2.1
            have h105 := tmp_is hv
            have h107 := tmp_is hv6
            go_simp
            refine (cT2 w A5 c5 A6 c6 hB5 hB6).mono ?_
            rintro e w' ⟨rfl, hb⟩
            exact hK _ _ (hS.trans (hb.mono hS.size)) hb rfl
          · intro a w K hS hB hR hK
            rw [if_pos (wanted_none rfl)]
            have h103 := tmp_is (hR.1)
            have h108 := tmp_is (hR.2.1)
            go_simp
            exact hK (.bool true) w hS (Below.refl _ w) rfl
          · intro a w K hS hB hR hK
            rw [if_pos (wanted_none rfl)]
            have h109 := tmp_is (hR.1)
            go_simp
            exact hK (.bool true) w hS (Below.refl _ w) rfl
          · intro a w K hS hB hR hK
            rw [if_pos (wanted_some rfl (hR.1))]
            have h12 := tmp_is (hB.2.2.2.1)
            go_simp
            exact hK (.bool true) w hS (Below.refl _ w) rfl
          · intro a w K hS hB hR hK
            rw [if_pos (wanted_some rfl (hR.1))]
            have h1 := tmp_is (hB.1)
            go_simp
            exact hK (.pointer (some ⟨b, 0, none⟩)) w hS (Below.refl _ w) rfl
          · intro a w K hS hB hR hK
            rw [if_pos (wanted_some rfl (hR.2.1))]
            have h112 := tmp_is (hR.1)
            obtain ⟨p0, p1, p2, p3, p4, p5⟩ := hcl w hS
            go_simp
            exact hK (.int .i64 1) w hS (Below.refl _ w) rfl
          · intro a w K hS hB hR hK
            rw [if_pos (wanted_some rfl (hR.2.1))]
            have h113 := tmp_is (hR.1)
            go_simp
            exact hK (.bool true) w hS (Below.refl _ w) rfl
          · intro a w K hS hB hR hK
            rw [if_pos (wanted_some rfl (hR.2.2.1))]
            have h111 := tmp_is (hR.1)
            have h114 := tmp_is (hR.2.1)
            go_simp
            exact hK (.bool true) w hS (Below.refl _ w) rfl
          · intro a w K hS hB hR hK
            rw [if_pos (wanted_none rfl)]
            have h110 := tmp_is (hR.1)
            have h115 := tmp_is (hR.2.1)
            go_simp
            exact hK (.bool true) w hS (Below.refl _ w) rfl
          · intro a w K hS hB hR hK
            rw [if_pos (wanted_none rfl)]
            have h116 := tmp_is (hR.1)
            go_simp
            exact hK (.bool true) w hS (Below.refl _ w) rfl
          · intro a w K hS hB hR hK
            rw [if_pos (wanted_some rfl (hR.1))]
            have h11 := tmp_is (hB.2.2.1)
            go_simp
            exact hK (.slice A9 n9 c9) w hS (Below.refl _ w) rfl
          · intro a w K hS hB hR hK
            rw [if_pos (wanted_some rfl (hR.1))]
            have h1 := tmp_is (hB.1)
            go_simp
            exact hK (.pointer (some ⟨b, 3, none⟩)) w hS (Below.refl _ w) rfl
          · intro a w K hS hB hR hK
            rw [if_pos (wanted_some rfl (hR.2.1))]
            have h119 := tmp_is (hR.1)
            obtain ⟨p0, p1, p2, p3, p4, p5⟩ := hcl w hS
            go_simp
            exact hK (.slice A m c) w hS (Below.refl _ w) rfl
          · intro a w K hS hB hR hK
            rw [if_pos (wanted_some rfl (hR.2.2.1))]
            have h118 := tmp_is (hR.1)
            have h120 := tmp_is (hR.2.1)
            go_simp
            refine (cU2 w hS).mono ?_
            rintro e w' ⟨rfl, hb⟩
            exact hK _ _ (hS.trans (hb.mono hS.size)) hb rfl
          · intro a w K hS hB hR hK
            rw [if_pos (wanted_none rfl)]
            have h117 := tmp_is (hR.1)
            have h121 := tmp_is (hR.2.1)
            go_simp
            exact hK (.bool true) w hS (Below.refl _ w) rfl
          · intro a w K hS hB hR hK
            rw [if_pos (wanted_none rfl)]
            have h122 := tmp_is (hR.1)
            go_simp
            exact hK (.bool true) w hS (Below.refl _ w) rfl
        case fin =>
          intro a w8 hS8 ha hR
          have hx24 : a.eval (.tmp 2) = .bool true := deps_mem _ hR 24 (by decide)
          have H8 := Lib.hid (HC2.out w8 hS8)
          clear hR hS8 cV2 cX2 cY2 cS2 cT2 cU2 hcl
          simp only [pin] at ha
          rw [ha]
          simp only [List.setIfInBounds_toArray, List.set_cons_zero, List.set_cons_succ, hx24]
          clear ha hx24
          go_wp2
          go_ret
          exact ⟨rfl, H8.out⟩
      · obtain rfl : true = ok := HQ.out.1
        obtain rfl : false = wq := HQ.out.2.1
        obtain rfl : true = pq := HQ.out.2.2
        go_wp2_with fail
        have hc2 : ∀ W, Below w7.heap.size w7 W → Below w.heap.size w W := fun W h => HC.out.2.1 W (H7.out.1.trans (h.mono H7.out.1.size))
        have hcl : ∀ W, Below w7.heap.size w7 W → W.cell? ⟨w.heap.size, 0, none⟩ = some (.int .i64 2) ∧ W.cell? ⟨w.heap.size, 1, none⟩ = some (.int .i64 n) ∧ W.cell? ⟨w.heap.size, 2, none⟩ = some (.string s) ∧ W.cell? ⟨w.heap.size, 3, none⟩ = some (.slice A m c) ∧ W.cell? ⟨w.heap.size, 4, none⟩ = some (.int .i64 o) ∧ W.cell? ⟨w.heap.size, 5, none⟩ = some (.int .i64 i) := fun W h => six (HC.out.1 W (H7.out.1.trans (h.mono H7.out.1.size)))
        have cV2 := fun W (h : Below w7.heap.size w7 W) => cV W ((H7.out.2.1.below h).more h.size)
        have cX2 := fun W (h : Below w7.heap.size w7 W) => cX W ((H7.out.2.1.below h).more h.size)
        have cY2 := fun W (h : Below w7.heap.size w7 W) => cY W (hc2 W h)
        have cS2 := fun W A5 c5 (h : Below w7.heap.size w7 W) (b : Bs W W.heap.size A5 l.length l) => cS W A5 c5 (hc2 W h) b
        have cT2 := fun W A5 c5 A6 c6 (b5 : Bs W W.heap.size A5 L.length L) (b6 : Bs W W.heap.size A6 L.length L) => (same_any A5 A6 L.length c5 L.length c6 L L W _ _ b5 b6 (by have := HX.out.2.2.2; omega) (by have := HX.out.2.2.2; omega)).mono (R' := fun e w' => e = .returned (.bool true) ∧ Below W.heap.size W w') fun e w' ⟨he, m', hw'⟩ => ⟨by rw [he, decide_eq_true rfl], hw' ▸ drewN_below _ _ m'⟩
        have cU2 := fun W (h : Below w7.heap.size w7 W) => (same_any A9 A n9 c9 m c l l W _ _ (H7.out.2.2.1.below h) (HC.out.2.2.1.below (hc2 W h)) (by have := H7.out.2.2.2.out; have := HE.out.2.1.2; have := HE.out.2.2; omega) (by have := HE.out.2.1.2; omega)).mono (R' := fun e w' => e = .returned (.bool true) ∧ Below W.heap.size W w') fun e w' ⟨he, m', hw'⟩ => ⟨by rw [he, decide_eq_true rfl], hw' ▸ drewN_below _ _ m'⟩
        obtain ⟨b, hb⟩ : ∃ b, w.heap.size = b := ⟨_, rfl⟩
        rw [hb] at hcl ⊢
        have HBB := Lib.hid hb
        have HC2 := Lib.hid hc2
        clear hb p0 p1 p2 p3 p4 p5 hc2 cV cX cY cS hnn hss
        refine wp_region_rel (fun w' => Below w7.heap.size w7 w') (fun w w' => Below w.heap.size w w') (VoR vx b 2 n s o i A m c l L A9 n9 c9 true) [(1, .pointer (some ⟨b, 0, none⟩)), (3, vx), (11, .slice A9 n9 c9), (12, .bool true)] (by kernel_rfl) (by kernel_rfl) (by kernel_rfl) ?base (Below.drew (Below.refl _ _)) (fun i w w' v hb h => VoR.grow i w w' v hb h) ?steps ?fin
        case base =>
          intro x hx
          simp only [List.mem_cons, List.not_mem_nil, or_false] at hx
          rcases hx with rfl | rfl | rfl | rfl <;> exact ⟨rfl, rfl⟩
        case steps =>
          refine steps_cons ?_ (steps_cons ?_ (steps_cons ?_ (steps_cons ?_ (steps_cons ?_ (steps_cons ?_ (steps_cons ?_ (steps_cons ?_ (steps_cons ?_ (steps_cons ?_ (steps_cons ?_ (steps_cons ?_ (steps_cons ?_ (steps_cons ?_ (steps_cons ?_ (steps_cons ?_ (steps_cons ?_ (steps_cons ?_ (steps_cons ?_ (steps_cons ?_ (steps_cons ?_ (steps_cons ?_ (steps_cons ?_ (steps_cons ?_ (steps_cons ?_ steps_nil))))))))))))))))))))))))
          · intro a w K hS hB hR hK
            rw [if_pos (wanted_none rfl)]
            have h3 := tmp_is (hB.2.1)
            go_simp
            exact hK vx w hS (Below.refl _ w) rfl
          · intro a w K hS hB hR hK
            rw [if_pos (wanted_none rfl)]
            have h99 := tmp_is (hR.1)
            go_simp
            refine (cV2 w hS).mono ?_
            rintro e w' ⟨A5, c5, rfl, _, hB5, hb⟩
            exact hK _ _ (hS.trans (hb.mono hS.size)) hb ⟨A5, c5, rfl, hB5⟩
          · intro a w K hS hB hR hK
            rw [if_pos (wanted_none rfl)]
            have h1 := tmp_is (hB.1)
            obtain ⟨p0, p1, p2, p3, p4, p5⟩ := hcl w hS
            go_simp
            exact hK (.agg #[.int .i64 2, .int .i64 n, .string s, .slice A m c, .int .i64 o, .int .i64 i]) w hS (Below.refl _ w) rfl
          · intro a w K hS hB hR hK
            rw [if_pos (wanted_none rfl)]
            have h101 := tmp_is (hR.2.1)
            obtain ⟨A5, c5, hv, hB5⟩ := hR.1
            have h100 := tmp_is hv
            go_simp
            refine (cS2 w A5 c5 hS hB5).mono ?_
            rintro e w' ⟨rfl, hb⟩
            exact hK _ _ (hS.trans (hb.mono hS.size)) hb rfl
          · intro a w K hS hB hR hK
            rw [if_pos (wanted_none rfl)]
            have h102 := tmp_is (hR.1)
            go_simp
            exact hK (.bool true) w hS (Below.refl _ w) rfl
          · intro a w K hS hB hR hK
            rw [if_pos (wanted_some rfl (hR.1))]
            have h3 := tmp_is (hB.2.1)
            go_simp
            exact hK vx w hS (Below.refl _ w) rfl
          · intro a w K hS hB hR hK
            rw [if_pos (wanted_some rfl (hR.2.1))]
            have h104 := tmp_is (hR.1)
            go_simp
            refine (cX2 w hS).mono ?_
            rintro e w' ⟨A5, n5, c5, rfl, _, hn5, hN5, hb⟩
            subst hn5
            exact hK _ _ (hS.trans (hb.mono hS.size)) hb ⟨A5, c5, rfl, hN5.bs⟩
          · intro a w K hS hB hR hK
            rw [if_pos (wanted_some rfl (hR.1))]
            have h1 := tmp_is (hB.1)
            obtain ⟨p0, p1, p2, p3, p4, p5⟩ := hcl w hS
            go_simp
            exact hK (.agg #[.int .i64 2, .int .i64 n, .string s, .slice A m c, .int .i64 o, .int .i64 i]) w hS (Below.refl _ w) rfl
          · intro a w K hS hB hR hK
            rw [if_pos (wanted_some rfl (hR.2.2.1))]
            have h106 := tmp_is (hR.1)
            go_simp
            refine (cY2 w hS).mono ?_
            rintro e w' ⟨A5, n5, c5, rfl, _, hn5, hN5, hb⟩
            subst hn5
            exact hK _ _ (hS.trans (hb.mono hS.size)) hb ⟨A5, c5, rfl, hN5.bs⟩
          · intro a w K hS hB hR hK
            rw [if_pos (wanted_some rfl (hR.2.2.2.1))]
            obtain ⟨A5, c5, hv, hB5⟩ := hR.1
            obtain ⟨A6, c6, hv6, hB6⟩ := hR.2.1
            have h105 := tmp_is hv
            have h107 := tmp_is hv6
            go_simp
            refine (cT2 w A5 c5 A6 c6 hB5 hB6).mono ?_
            rintro e w' ⟨rfl, hb⟩
            exact hK _ _ (hS.trans (hb.mono hS.size)) hb rfl
          · intro a w K hS hB hR hK
            rw [if_pos (wanted_none rfl)]
            have h103 := tmp_is (hR.1)
            have h108 := tmp_is (hR.2.1)
            go_simp
            exact hK (.bool true) w hS (Below.refl _ w) rfl
          · intro a w K hS hB hR hK
            rw [if_pos (wanted_none rfl)]
            have h109 := tmp_is (hR.1)
            go_simp
            exact hK (.bool true) w hS (Below.refl _ w) rfl
          · intro a w K hS hB hR hK
            rw [if_pos (wanted_some rfl (hR.1))]
            have h12 := tmp_is (hB.2.2.2.1)
            go_simp
            exact hK (.bool true) w hS (Below.refl _ w) rfl
          · intro a w K hS hB hR hK
            rw [if_pos (wanted_some rfl (hR.1))]
            have h1 := tmp_is (hB.1)
            go_simp
            exact hK (.pointer (some ⟨b, 0, none⟩)) w hS (Below.refl _ w) rfl
          · intro a w K hS hB hR hK
            rw [if_pos (wanted_some rfl (hR.2.1))]
            have h112 := tmp_is (hR.1)
            obtain ⟨p0, p1, p2, p3, p4, p5⟩ := hcl w hS
            go_simp
            exact hK (.int .i64 2) w hS (Below.refl _ w) rfl
          · intro a w K hS hB hR hK
            rw [if_pos (wanted_some rfl (hR.2.1))]
            have h113 := tmp_is (hR.1)
            go_simp
            exact hK (.bool true) w hS (Below.refl _ w) rfl
          · intro a w K hS hB hR hK
            rw [if_pos (wanted_some rfl (hR.2.2.1))]
            have h111 := tmp_is (hR.1)
            have h114 := tmp_is (hR.2.1)
            go_simp
            exact hK (.bool true) w hS (Below.refl _ w) rfl
          · intro a w K hS hB hR hK
            rw [if_pos (wanted_none rfl)]
            have h110 := tmp_is (hR.1)
            have h115 := tmp_is (hR.2.1)
            go_simp
            exact hK (.bool true) w hS (Below.refl _ w) rfl
          · intro a w K hS hB hR hK
            rw [if_pos (wanted_none rfl)]
            have h116 := tmp_is (hR.1)
            go_simp
            exact hK (.bool true) w hS (Below.refl _ w) rfl
          · intro a w K hS hB hR hK
            rw [if_pos (wanted_some rfl (hR.1))]
            have h11 := tmp_is (hB.2.2.1)
            go_simp
            exact hK (.slice A9 n9 c9) w hS (Below.refl _ w) rfl
          · intro a w K hS hB hR hK
            rw [if_pos (wanted_some rfl (hR.1))]
            have h1 := tmp_is (hB.1)
            go_simp
            exact hK (.pointer (some ⟨b, 3, none⟩)) w hS (Below.refl _ w) rfl
          · intro a w K hS hB hR hK
            rw [if_pos (wanted_some rfl (hR.2.1))]
            have h119 := tmp_is (hR.1)
            obtain ⟨p0, p1, p2, p3, p4, p5⟩ := hcl w hS
            go_simp
            exact hK (.slice A m c) w hS (Below.refl _ w) rfl
          · intro a w K hS hB hR hK
            rw [if_pos (wanted_some rfl (hR.2.2.1))]
            have h118 := tmp_is (hR.1)
            have h120 := tmp_is (hR.2.1)
            go_simp
            refine (cU2 w hS).mono ?_
            rintro e w' ⟨rfl, hb⟩
            exact hK _ _ (hS.trans (hb.mono hS.size)) hb rfl
          · intro a w K hS hB hR hK
            rw [if_pos (wanted_none rfl)]
            have h117 := tmp_is (hR.1)
            have h121 := tmp_is (hR.2.1)
            go_simp
            exact hK (.bool true) w hS (Below.refl _ w) rfl
          · intro a w K hS hB hR hK
            rw [if_pos (wanted_none rfl)]
            have h122 := tmp_is (hR.1)
            go_simp
            exact hK (.bool true) w hS (Below.refl _ w) rfl
        case fin =>
          intro a w8 hS8 ha hR
          have hx24 : a.eval (.tmp 2) = .bool true := deps_mem _ hR 24 (by decide)
          have H8 := Lib.hid (HC2.out w8 hS8)
          clear hR hS8 cV2 cX2 cY2 cS2 cT2 cU2 hcl
          simp only [pin] at ha
          rw [ha]
          simp only [List.setIfInBounds_toArray, List.set_cons_zero, List.set_cons_succ, hx24]
          clear ha hx24
          go_wp2
          go_ret
          exact ⟨rfl, H8.out⟩
      · obtain rfl : false = ok := HQ.out.1
        obtain rfl : true = wq := HQ.out.2.1
        obtain rfl : true = pq := HQ.out.2.2
        have hn0 : (n != 0) = false := by have h1 : n = 0 := (by have := HX.out.2.2.1; omega); rw [h1]; rfl
        go_wp2_with fail
        have hc2 : ∀ W, Below w7.heap.size w7 W → Below w.heap.size w W := fun W h => HC.out.2.1 W (H7.out.1.trans (h.mono H7.out.1.size))
        have hcl : ∀ W, Below w7.heap.size w7 W → W.cell? ⟨w.heap.size, 0, none⟩ = some (.int .i64 3) ∧ W.cell? ⟨w.heap.size, 1, none⟩ = some (.int .i64 n) ∧ W.cell? ⟨w.heap.size, 2, none⟩ = some (.string s) ∧ W.cell? ⟨w.heap.size, 3, none⟩ = some (.slice A m c) ∧ W.cell? ⟨w.heap.size, 4, none⟩ = some (.int .i64 o) ∧ W.cell? ⟨w.heap.size, 5, none⟩ = some (.int .i64 i) := fun W h => six (HC.out.1 W (H7.out.1.trans (h.mono H7.out.1.size)))
        have cV2 := fun W (h : Below w7.heap.size w7 W) => cV W ((H7.out.2.1.below h).more h.size)
        have cX2 := fun W (h : Below w7.heap.size w7 W) => cX W ((H7.out.2.1.below h).more h.size)
        have cY2 := fun W (h : Below w7.heap.size w7 W) => cY W (hc2 W h)
        have cS2 := fun W A5 c5 (h : Below w7.heap.size w7 W) (b : Bs W W.heap.size A5 l.length l) => cS W A5 c5 (hc2 W h) b
        have cT2 := fun W A5 c5 A6 c6 (b5 : Bs W W.heap.size A5 L.length L) (b6 : Bs W W.heap.size A6 L.length L) => (same_any A5 A6 L.length c5 L.length c6 L L W _ _ b5 b6 (by have := HX.out.2.2.2; omega) (by have := HX.out.2.2.2; omega)).mono (R' := fun e w' => e = .returned (.bool true) ∧ Below W.heap.size W w') fun e w' ⟨he, m', hw'⟩ => ⟨by rw [he, decide_eq_true rfl], hw' ▸ drewN_below _ _ m'⟩
        have cU2 := fun W (h : Below w7.heap.size w7 W) => (same_any A9 A n9 c9 m c l l W _ _ (H7.out.2.2.1.below h) (HC.out.2.2.1.below (hc2 W h)) (by have := H7.out.2.2.2.out; have := HE.out.2.1.2; have := HE.out.2.2; omega) (by have := HE.out.2.1.2; omega)).mono (R' := fun e w' => e = .returned (.bool true) ∧ Below W.heap.size W w') fun e w' ⟨he, m', hw'⟩ => ⟨by rw [he, decide_eq_true rfl], hw' ▸ drewN_below _ _ m'⟩
        obtain ⟨b, hb⟩ : ∃ b, w.heap.size = b := ⟨_, rfl⟩
        rw [hb] at hcl ⊢
        have HBB := Lib.hid hb
        have HC2 := Lib.hid hc2
        clear hb p0 p1 p2 p3 p4 p5 hc2 cV cX cY cS hnn hss hn0
        refine wp_region_rel (fun w' => Below w7.heap.size w7 w') (fun w w' => Below w.heap.size w w') (VoR vx b 3 n s o i A m c l L A9 n9 c9 true) [(1, .pointer (some ⟨b, 0, none⟩)), (3, vx), (11, .slice A9 n9 c9), (12, .bool true)] (by kernel_rfl) (by kernel_rfl) (by kernel_rfl) ?base (Below.drew (Below.refl _ _)) (fun i w w' v hb h => VoR.grow i w w' v hb h) ?steps ?fin
        case base =>
          intro x hx
          simp only [List.mem_cons, List.not_mem_nil, or_false] at hx
          rcases hx with rfl | rfl | rfl | rfl <;> exact ⟨rfl, rfl⟩
        case steps =>
          refine steps_cons ?_ (steps_cons ?_ (steps_cons ?_ (steps_cons ?_ (steps_cons ?_ (steps_cons ?_ (steps_cons ?_ (steps_cons ?_ (steps_cons ?_ (steps_cons ?_ (steps_cons ?_ (steps_cons ?_ (steps_cons ?_ (steps_cons ?_ (steps_cons ?_ (steps_cons ?_ (steps_cons ?_ (steps_cons ?_ (steps_cons ?_ (steps_cons ?_ (steps_cons ?_ (steps_cons ?_ (steps_cons ?_ (steps_cons ?_ (steps_cons ?_ steps_nil))))))))))))))))))))))))
          · intro a w K hS hB hR hK
            rw [if_pos (wanted_none rfl)]
            have h3 := tmp_is (hB.2.1)
            go_simp
            exact hK vx w hS (Below.refl _ w) rfl
          · intro a w K hS hB hR hK
            rw [if_pos (wanted_none rfl)]
            have h99 := tmp_is (hR.1)
            go_simp
            refine (cV2 w hS).mono ?_
            rintro e w' ⟨A5, c5, rfl, _, hB5, hb⟩
            exact hK _ _ (hS.trans (hb.mono hS.size)) hb ⟨A5, c5, rfl, hB5⟩
          · intro a w K hS hB hR hK
            rw [if_pos (wanted_none rfl)]
            have h1 := tmp_is (hB.1)
            obtain ⟨p0, p1, p2, p3, p4, p5⟩ := hcl w hS
            go_simp
            exact hK (.agg #[.int .i64 3, .int .i64 n, .string s, .slice A m c, .int .i64 o, .int .i64 i]) w hS (Below.refl _ w) rfl
          · intro a w K hS hB hR hK
            rw [if_pos (wanted_none rfl)]
            have h101 := tmp_is (hR.2.1)
            obtain ⟨A5, c5, hv, hB5⟩ := hR.1
            have h100 := tmp_is hv
            go_simp
            refine (cS2 w A5 c5 hS hB5).mono ?_
            rintro e w' ⟨rfl, hb⟩
            exact hK _ _ (hS.trans (hb.mono hS.size)) hb rfl
          · intro a w K hS hB hR hK
            rw [if_pos (wanted_none rfl)]
            have h102 := tmp_is (hR.1)
            go_simp
            exact hK (.bool true) w hS (Below.refl _ w) rfl
          · intro a w K hS hB hR hK
            rw [if_pos (wanted_some rfl (hR.1))]
            have h3 := tmp_is (hB.2.1)
            go_simp
            exact hK vx w hS (Below.refl _ w) rfl
          · intro a w K hS hB hR hK
            rw [if_pos (wanted_some rfl (hR.2.1))]
            have h104 := tmp_is (hR.1)
            go_simp
            refine (cX2 w hS).mono ?_
            rintro e w' ⟨A5, n5, c5, rfl, _, hn5, hN5, hb⟩
            subst hn5
            exact hK _ _ (hS.trans (hb.mono hS.size)) hb ⟨A5, c5, rfl, hN5.bs⟩
          · intro a w K hS hB hR hK
            rw [if_pos (wanted_some rfl (hR.1))]
            have h1 := tmp_is (hB.1)
            obtain ⟨p0, p1, p2, p3, p4, p5⟩ := hcl w hS
            go_simp
            exact hK (.agg #[.int .i64 3, .int .i64 n, .string s, .slice A m c, .int .i64 o, .int .i64 i]) w hS (Below.refl _ w) rfl
          · intro a w K hS hB hR hK
            rw [if_pos (wanted_some rfl (hR.2.2.1))]
            have h106 := tmp_is (hR.1)
            go_simp
            refine (cY2 w hS).mono ?_
            rintro e w' ⟨A5, n5, c5, rfl, _, hn5, hN5, hb⟩
            subst hn5
            exact hK _ _ (hS.trans (hb.mono hS.size)) hb ⟨A5, c5, rfl, hN5.bs⟩
          · intro a w K hS hB hR hK
            rw [if_pos (wanted_some rfl (hR.2.2.2.1))]
            obtain ⟨A5, c5, hv, hB5⟩ := hR.1
            obtain ⟨A6, c6, hv6, hB6⟩ := hR.2.1
            have h105 := tmp_is hv
            have h107 := tmp_is hv6
            go_simp
            refine (cT2 w A5 c5 A6 c6 hB5 hB6).mono ?_
            rintro e w' ⟨rfl, hb⟩
            exact hK _ _ (hS.trans (hb.mono hS.size)) hb rfl
          · intro a w K hS hB hR hK
            rw [if_pos (wanted_none rfl)]
            have h103 := tmp_is (hR.1)
            have h108 := tmp_is (hR.2.1)
            go_simp
            exact hK (.bool true) w hS (Below.refl _ w) rfl
          · intro a w K hS hB hR hK
            rw [if_pos (wanted_none rfl)]
            have h109 := tmp_is (hR.1)
            go_simp
            exact hK (.bool true) w hS (Below.refl _ w) rfl
          · intro a w K hS hB hR hK
            rw [if_pos (wanted_some rfl (hR.1))]
            have h12 := tmp_is (hB.2.2.2.1)
            go_simp
            exact hK (.bool true) w hS (Below.refl _ w) rfl
          · intro a w K hS hB hR hK
            rw [if_pos (wanted_some rfl (hR.1))]
            have h1 := tmp_is (hB.1)
            go_simp
            exact hK (.pointer (some ⟨b, 0, none⟩)) w hS (Below.refl _ w) rfl
          · intro a w K hS hB hR hK
            rw [if_pos (wanted_some rfl (hR.2.1))]
            have h112 := tmp_is (hR.1)
            obtain ⟨p0, p1, p2, p3, p4, p5⟩ := hcl w hS
            go_simp
            exact hK (.int .i64 3) w hS (Below.refl _ w) rfl
          · intro a w K hS hB hR hK
            rw [if_pos (wanted_some rfl (hR.2.1))]
            have h113 := tmp_is (hR.1)
            go_simp
            exact hK (.bool true) w hS (Below.refl _ w) rfl
          · intro a w K hS hB hR hK
            rw [if_pos (wanted_some rfl (hR.2.2.1))]
            have h111 := tmp_is (hR.1)
            have h114 := tmp_is (hR.2.1)
            go_simp
            exact hK (.bool true) w hS (Below.refl _ w) rfl
          · intro a w K hS hB hR hK
            rw [if_pos (wanted_none rfl)]
            have h110 := tmp_is (hR.1)
            have h115 := tmp_is (hR.2.1)
            go_simp
            exact hK (.bool true) w hS (Below.refl _ w) rfl
          · intro a w K hS hB hR hK
            rw [if_pos (wanted_none rfl)]
            have h116 := tmp_is (hR.1)
            go_simp
            exact hK (.bool true) w hS (Below.refl _ w) rfl
          · intro a w K hS hB hR hK
            rw [if_pos (wanted_some rfl (hR.1))]
            have h11 := tmp_is (hB.2.2.1)
            go_simp
            exact hK (.slice A9 n9 c9) w hS (Below.refl _ w) rfl
          · intro a w K hS hB hR hK
            rw [if_pos (wanted_some rfl (hR.1))]
            have h1 := tmp_is (hB.1)
            go_simp
            exact hK (.pointer (some ⟨b, 3, none⟩)) w hS (Below.refl _ w) rfl
          · intro a w K hS hB hR hK
            rw [if_pos (wanted_some rfl (hR.2.1))]
            have h119 := tmp_is (hR.1)
            obtain ⟨p0, p1, p2, p3, p4, p5⟩ := hcl w hS
            go_simp
            exact hK (.slice A m c) w hS (Below.refl _ w) rfl
          · intro a w K hS hB hR hK
            rw [if_pos (wanted_some rfl (hR.2.2.1))]
            have h118 := tmp_is (hR.1)
            have h120 := tmp_is (hR.2.1)
            go_simp
            refine (cU2 w hS).mono ?_
            rintro e w' ⟨rfl, hb⟩
            exact hK _ _ (hS.trans (hb.mono hS.size)) hb rfl
          · intro a w K hS hB hR hK
            rw [if_pos (wanted_none rfl)]
            have h117 := tmp_is (hR.1)
            have h121 := tmp_is (hR.2.1)
            go_simp
            exact hK (.bool true) w hS (Below.refl _ w) rfl
          · intro a w K hS hB hR hK
            rw [if_pos (wanted_none rfl)]
            have h122 := tmp_is (hR.1)
            go_simp
            exact hK (.bool true) w hS (Below.refl _ w) rfl
        case fin =>
          intro a w8 hS8 ha hR
          have hx24 : a.eval (.tmp 2) = .bool true := deps_mem _ hR 24 (by decide)
          have H8 := Lib.hid (HC2.out w8 hS8)
          clear hR hS8 cV2 cX2 cY2 cS2 cT2 cU2 hcl
          simp only [pin] at ha
          rw [ha]
          simp only [List.setIfInBounds_toArray, List.set_cons_zero, List.set_cons_succ, hx24]
          clear ha hx24
          go_wp2
          go_ret
          exact ⟨rfl, H8.out⟩
      · obtain rfl : false = ok := HQ.out.1
        obtain rfl : false = wq := HQ.out.2.1
        obtain rfl : false = pq := HQ.out.2.2
        have hn0 : (n != 0) = false := by have h1 : n = 0 := (by have := HX.out.2.2.1; omega); rw [h1]; rfl
        go_wp2_with fail
        have hc2 : ∀ W, Below w7.heap.size w7 W → Below w.heap.size w W := fun W h => HC.out.2.1 W (H7.out.1.trans (h.mono H7.out.1.size))
        have hcl : ∀ W, Below w7.heap.size w7 W → W.cell? ⟨w.heap.size, 0, none⟩ = some (.int .i64 4) ∧ W.cell? ⟨w.heap.size, 1, none⟩ = some (.int .i64 n) ∧ W.cell? ⟨w.heap.size, 2, none⟩ = some (.string s) ∧ W.cell? ⟨w.heap.size, 3, none⟩ = some (.slice A m c) ∧ W.cell? ⟨w.heap.size, 4, none⟩ = some (.int .i64 o) ∧ W.cell? ⟨w.heap.size, 5, none⟩ = some (.int .i64 i) := fun W h => six (HC.out.1 W (H7.out.1.trans (h.mono H7.out.1.size)))
        have cV2 := fun W (h : Below w7.heap.size w7 W) => cV W ((H7.out.2.1.below h).more h.size)
        have cX2 := fun W (h : Below w7.heap.size w7 W) => cX W ((H7.out.2.1.below h).more h.size)
        have cY2 := fun W (h : Below w7.heap.size w7 W) => cY W (hc2 W h)
        have cS2 := fun W A5 c5 (h : Below w7.heap.size w7 W) (b : Bs W W.heap.size A5 l.length l) => cS W A5 c5 (hc2 W h) b
        have cT2 := fun W A5 c5 A6 c6 (b5 : Bs W W.heap.size A5 L.length L) (b6 : Bs W W.heap.size A6 L.length L) => (same_any A5 A6 L.length c5 L.length c6 L L W _ _ b5 b6 (by have := HX.out.2.2.2; omega) (by have := HX.out.2.2.2; omega)).mono (R' := fun e w' => e = .returned (.bool true) ∧ Below W.heap.size W w') fun e w' ⟨he, m', hw'⟩ => ⟨by rw [he, decide_eq_true rfl], hw' ▸ drewN_below _ _ m'⟩
        have cU2 := fun W (h : Below w7.heap.size w7 W) => (same_any A9 A n9 c9 m c l l W _ _ (H7.out.2.2.1.below h) (HC.out.2.2.1.below (hc2 W h)) (by have := H7.out.2.2.2.out; have := HE.out.2.1.2; have := HE.out.2.2; omega) (by have := HE.out.2.1.2; omega)).mono (R' := fun e w' => e = .returned (.bool true) ∧ Below W.heap.size W w') fun e w' ⟨he, m', hw'⟩ => ⟨by rw [he, decide_eq_true rfl], hw' ▸ drewN_below _ _ m'⟩
        obtain ⟨b, hb⟩ : ∃ b, w.heap.size = b := ⟨_, rfl⟩
        rw [hb] at hcl ⊢
        have HBB := Lib.hid hb
        have HC2 := Lib.hid hc2
        clear hb p0 p1 p2 p3 p4 p5 hc2 cV cX cY cS hnn hss hn0
        refine wp_region_rel (fun w' => Below w7.heap.size w7 w') (fun w w' => Below w.heap.size w w') (VoR vx b 4 n s o i A m c l L A9 n9 c9 false) [(1, .pointer (some ⟨b, 0, none⟩)), (3, vx), (11, .slice A9 n9 c9), (12, .bool false)] (by kernel_rfl) (by kernel_rfl) (by kernel_rfl) ?base (Below.drew (Below.refl _ _)) (fun i w w' v hb h => VoR.grow i w w' v hb h) ?steps ?fin
        case base =>
          intro x hx
          simp only [List.mem_cons, List.not_mem_nil, or_false] at hx
          rcases hx with rfl | rfl | rfl | rfl <;> exact ⟨rfl, rfl⟩
        case steps =>
          refine steps_cons ?_ (steps_cons ?_ (steps_cons ?_ (steps_cons ?_ (steps_cons ?_ (steps_cons ?_ (steps_cons ?_ (steps_cons ?_ (steps_cons ?_ (steps_cons ?_ (steps_cons ?_ (steps_cons ?_ (steps_cons ?_ (steps_cons ?_ (steps_cons ?_ (steps_cons ?_ (steps_cons ?_ (steps_cons ?_ (steps_cons ?_ (steps_cons ?_ (steps_cons ?_ (steps_cons ?_ (steps_cons ?_ (steps_cons ?_ (steps_cons ?_ steps_nil))))))))))))))))))))))))
          · intro a w K hS hB hR hK
            rw [if_pos (wanted_none rfl)]
            have h3 := tmp_is (hB.2.1)
            go_simp
            exact hK vx w hS (Below.refl _ w) rfl
          · intro a w K hS hB hR hK
            rw [if_pos (wanted_none rfl)]
            have h99 := tmp_is (hR.1)
            go_simp
            refine (cV2 w hS).mono ?_
            rintro e w' ⟨A5, c5, rfl, _, hB5, hb⟩
            exact hK _ _ (hS.trans (hb.mono hS.size)) hb ⟨A5, c5, rfl, hB5⟩
          · intro a w K hS hB hR hK
            rw [if_pos (wanted_none rfl)]
            have h1 := tmp_is (hB.1)
            obtain ⟨p0, p1, p2, p3, p4, p5⟩ := hcl w hS
            go_simp
            exact hK (.agg #[.int .i64 4, .int .i64 n, .string s, .slice A m c, .int .i64 o, .int .i64 i]) w hS (Below.refl _ w) rfl
          · intro a w K hS hB hR hK
            rw [if_pos (wanted_none rfl)]
            have h101 := tmp_is (hR.2.1)
            obtain ⟨A5, c5, hv, hB5⟩ := hR.1
            have h100 := tmp_is hv
            go_simp
            refine (cS2 w A5 c5 hS hB5).mono ?_
            rintro e w' ⟨rfl, hb⟩
            exact hK _ _ (hS.trans (hb.mono hS.size)) hb rfl
          · intro a w K hS hB hR hK
            rw [if_pos (wanted_none rfl)]
            have h102 := tmp_is (hR.1)
            go_simp
            exact hK (.bool true) w hS (Below.refl _ w) rfl
          · intro a w K hS hB hR hK
            rw [if_pos (wanted_some rfl (hR.1))]
            have h3 := tmp_is (hB.2.1)
            go_simp
            exact hK vx w hS (Below.refl _ w) rfl
          · intro a w K hS hB hR hK
            rw [if_pos (wanted_some rfl (hR.2.1))]
            have h104 := tmp_is (hR.1)
            go_simp
            refine (cX2 w hS).mono ?_
            rintro e w' ⟨A5, n5, c5, rfl, _, hn5, hN5, hb⟩
            subst hn5
            exact hK _ _ (hS.trans (hb.mono hS.size)) hb ⟨A5, c5, rfl, hN5.bs⟩
          · intro a w K hS hB hR hK
            rw [if_pos (wanted_some rfl (hR.1))]
            have h1 := tmp_is (hB.1)
            obtain ⟨p0, p1, p2, p3, p4, p5⟩ := hcl w hS
            go_simp
            exact hK (.agg #[.int .i64 4, .int .i64 n, .string s, .slice A m c, .int .i64 o, .int .i64 i]) w hS (Below.refl _ w) rfl
          · intro a w K hS hB hR hK
            rw [if_pos (wanted_some rfl (hR.2.2.1))]
            have h106 := tmp_is (hR.1)
            go_simp
            refine (cY2 w hS).mono ?_
            rintro e w' ⟨A5, n5, c5, rfl, _, hn5, hN5, hb⟩
            subst hn5
            exact hK _ _ (hS.trans (hb.mono hS.size)) hb ⟨A5, c5, rfl, hN5.bs⟩
          · intro a w K hS hB hR hK
            rw [if_pos (wanted_some rfl (hR.2.2.2.1))]
            obtain ⟨A5, c5, hv, hB5⟩ := hR.1
            obtain ⟨A6, c6, hv6, hB6⟩ := hR.2.1
            have h105 := tmp_is hv
            have h107 := tmp_is hv6
            go_simp
            refine (cT2 w A5 c5 A6 c6 hB5 hB6).mono ?_
            rintro e w' ⟨rfl, hb⟩
            exact hK _ _ (hS.trans (hb.mono hS.size)) hb rfl
          · intro a w K hS hB hR hK
            rw [if_pos (wanted_none rfl)]
            have h103 := tmp_is (hR.1)
            have h108 := tmp_is (hR.2.1)
            go_simp
            exact hK (.bool true) w hS (Below.refl _ w) rfl
          · intro a w K hS hB hR hK
            rw [if_pos (wanted_none rfl)]
            have h109 := tmp_is (hR.1)
            go_simp
            exact hK (.bool true) w hS (Below.refl _ w) rfl
          · intro a w K hS hB hR hK
            rw [if_pos (wanted_some rfl (hR.1))]
            have h12 := tmp_is (hB.2.2.2.1)
            go_simp
            exact hK (.bool false) w hS (Below.refl _ w) rfl
          · intro a w K hS hB hR hK
            rw [if_pos (wanted_some rfl (hR.1))]
            have h1 := tmp_is (hB.1)
            go_simp
            exact hK (.pointer (some ⟨b, 0, none⟩)) w hS (Below.refl _ w) rfl
          · intro a w K hS hB hR hK
            rw [if_pos (wanted_some rfl (hR.2.1))]
            have h112 := tmp_is (hR.1)
            obtain ⟨p0, p1, p2, p3, p4, p5⟩ := hcl w hS
            go_simp
            exact hK (.int .i64 4) w hS (Below.refl _ w) rfl
          · intro a w K hS hB hR hK
            rw [if_pos (wanted_some rfl (hR.2.1))]
            have h113 := tmp_is (hR.1)
            go_simp
            exact hK (.bool false) w hS (Below.refl _ w) rfl
          · intro a w K hS hB hR hK
            rw [if_pos (wanted_some rfl (hR.2.2.1))]
            have h111 := tmp_is (hR.1)
            have h114 := tmp_is (hR.2.1)
            go_simp
            exact hK (.bool true) w hS (Below.refl _ w) rfl
          · intro a w K hS hB hR hK
            rw [if_pos (wanted_none rfl)]
            have h110 := tmp_is (hR.1)
            have h115 := tmp_is (hR.2.1)
            go_simp
            exact hK (.bool true) w hS (Below.refl _ w) rfl
          · intro a w K hS hB hR hK
            rw [if_pos (wanted_none rfl)]
            have h116 := tmp_is (hR.1)
            go_simp
            exact hK (.bool true) w hS (Below.refl _ w) rfl
          · intro a w K hS hB hR hK
            rw [if_pos (wanted_some rfl (hR.1))]
            have h11 := tmp_is (hB.2.2.1)
            go_simp
            exact hK (.slice A9 n9 c9) w hS (Below.refl _ w) rfl
          · intro a w K hS hB hR hK
            rw [if_pos (wanted_some rfl (hR.1))]
            have h1 := tmp_is (hB.1)
            go_simp
            exact hK (.pointer (some ⟨b, 3, none⟩)) w hS (Below.refl _ w) rfl
          · intro a w K hS hB hR hK
            rw [if_pos (wanted_some rfl (hR.2.1))]
            have h119 := tmp_is (hR.1)
            obtain ⟨p0, p1, p2, p3, p4, p5⟩ := hcl w hS
            go_simp
            exact hK (.slice A m c) w hS (Below.refl _ w) rfl
          · intro a w K hS hB hR hK
            rw [if_pos (wanted_some rfl (hR.2.2.1))]
            have h118 := tmp_is (hR.1)
            have h120 := tmp_is (hR.2.1)
            go_simp
            refine (cU2 w hS).mono ?_
            rintro e w' ⟨rfl, hb⟩
            exact hK _ _ (hS.trans (hb.mono hS.size)) hb rfl
          · intro a w K hS hB hR hK
            rw [if_pos (wanted_none rfl)]
            have h117 := tmp_is (hR.1)
            have h121 := tmp_is (hR.2.1)
            go_simp
            exact hK (.bool true) w hS (Below.refl _ w) rfl
          · intro a w K hS hB hR hK
            rw [if_pos (wanted_none rfl)]
            have h122 := tmp_is (hR.1)
            go_simp
            exact hK (.bool true) w hS (Below.refl _ w) rfl
        case fin =>
          intro a w8 hS8 ha hR
          have hx24 : a.eval (.tmp 2) = .bool true := deps_mem _ hR 24 (by decide)
          have H8 := Lib.hid (HC2.out w8 hS8)
          clear hR hS8 cV2 cX2 cY2 cS2 cT2 cU2 hcl
          simp only [pin] at ha
          rw [ha]
          simp only [List.setIfInBounds_toArray, List.set_cons_zero, List.set_cons_succ, hx24]
          clear ha hx24
          go_wp2
          go_ret
          exact ⟨rfl, H8.out⟩
      · obtain rfl : true = ok := HQ.out.1
        obtain rfl : false = wq := HQ.out.2.1
        obtain rfl : true = pq := HQ.out.2.2
        go_wp2_with fail
        have hc2 : ∀ W, Below w7.heap.size w7 W → Below w.heap.size w W := fun W h => HC.out.2.1 W (H7.out.1.trans (h.mono H7.out.1.size))
        have hcl : ∀ W, Below w7.heap.size w7 W → W.cell? ⟨w.heap.size, 0, none⟩ = some (.int .i64 5) ∧ W.cell? ⟨w.heap.size, 1, none⟩ = some (.int .i64 n) ∧ W.cell? ⟨w.heap.size, 2, none⟩ = some (.string s) ∧ W.cell? ⟨w.heap.size, 3, none⟩ = some (.slice A m c) ∧ W.cell? ⟨w.heap.size, 4, none⟩ = some (.int .i64 o) ∧ W.cell? ⟨w.heap.size, 5, none⟩ = some (.int .i64 i) := fun W h => six (HC.out.1 W (H7.out.1.trans (h.mono H7.out.1.size)))
        have cV2 := fun W (h : Below w7.heap.size w7 W) => cV W ((H7.out.2.1.below h).more h.size)
        have cX2 := fun W (h : Below w7.heap.size w7 W) => cX W ((H7.out.2.1.below h).more h.size)
        have cY2 := fun W (h : Below w7.heap.size w7 W) => cY W (hc2 W h)
        have cS2 := fun W A5 c5 (h : Below w7.heap.size w7 W) (b : Bs W W.heap.size A5 l.length l) => cS W A5 c5 (hc2 W h) b
        have cT2 := fun W A5 c5 A6 c6 (b5 : Bs W W.heap.size A5 L.length L) (b6 : Bs W W.heap.size A6 L.length L) => (same_any A5 A6 L.length c5 L.length c6 L L W _ _ b5 b6 (by have := HX.out.2.2.2; omega) (by have := HX.out.2.2.2; omega)).mono (R' := fun e w' => e = .returned (.bool true) ∧ Below W.heap.size W w') fun e w' ⟨he, m', hw'⟩ => ⟨by rw [he, decide_eq_true rfl], hw' ▸ drewN_below _ _ m'⟩
        have cU2 := fun W (h : Below w7.heap.size w7 W) => (same_any A9 A n9 c9 m c l l W _ _ (H7.out.2.2.1.below h) (HC.out.2.2.1.below (hc2 W h)) (by have := H7.out.2.2.2.out; have := HE.out.2.1.2; have := HE.out.2.2; omega) (by have := HE.out.2.1.2; omega)).mono (R' := fun e w' => e = .returned (.bool true) ∧ Below W.heap.size W w') fun e w' ⟨he, m', hw'⟩ => ⟨by rw [he, decide_eq_true rfl], hw' ▸ drewN_below _ _ m'⟩
        obtain ⟨b, hb⟩ : ∃ b, w.heap.size = b := ⟨_, rfl⟩
        rw [hb] at hcl ⊢
        have HBB := Lib.hid hb
        have HC2 := Lib.hid hc2
        clear hb p0 p1 p2 p3 p4 p5 hc2 cV cX cY cS hnn hss
        refine wp_region_rel (fun w' => Below w7.heap.size w7 w') (fun w w' => Below w.heap.size w w') (VoR vx b 5 n s o i A m c l L A9 n9 c9 true) [(1, .pointer (some ⟨b, 0, none⟩)), (3, vx), (11, .slice A9 n9 c9), (12, .bool true)] (by kernel_rfl) (by kernel_rfl) (by kernel_rfl) ?base (Below.drew (Below.refl _ _)) (fun i w w' v hb h => VoR.grow i w w' v hb h) ?steps ?fin
        case base =>
          intro x hx
          simp only [List.mem_cons, List.not_mem_nil, or_false] at hx
          rcases hx with rfl | rfl | rfl | rfl <;> exact ⟨rfl, rfl⟩
        case steps =>
          refine steps_cons ?_ (steps_cons ?_ (steps_cons ?_ (steps_cons ?_ (steps_cons ?_ (steps_cons ?_ (steps_cons ?_ (steps_cons ?_ (steps_cons ?_ (steps_cons ?_ (steps_cons ?_ (steps_cons ?_ (steps_cons ?_ (steps_cons ?_ (steps_cons ?_ (steps_cons ?_ (steps_cons ?_ (steps_cons ?_ (steps_cons ?_ (steps_cons ?_ (steps_cons ?_ (steps_cons ?_ (steps_cons ?_ (steps_cons ?_ (steps_cons ?_ steps_nil))))))))))))))))))))))))
          · intro a w K hS hB hR hK
            rw [if_pos (wanted_none rfl)]
            have h3 := tmp_is (hB.2.1)
            go_simp
            exact hK vx w hS (Below.refl _ w) rfl
          · intro a w K hS hB hR hK
            rw [if_pos (wanted_none rfl)]
            have h99 := tmp_is (hR.1)
            go_simp
            refine (cV2 w hS).mono ?_
            rintro e w' ⟨A5, c5, rfl, _, hB5, hb⟩
            exact hK _ _ (hS.trans (hb.mono hS.size)) hb ⟨A5, c5, rfl, hB5⟩
          · intro a w K hS hB hR hK
            rw [if_pos (wanted_none rfl)]
            have h1 := tmp_is (hB.1)
            obtain ⟨p0, p1, p2, p3, p4, p5⟩ := hcl w hS
            go_simp
            exact hK (.agg #[.int .i64 5, .int .i64 n, .string s, .slice A m c, .int .i64 o, .int .i64 i]) w hS (Below.refl _ w) rfl
          · intro a w K hS hB hR hK
            rw [if_pos (wanted_none rfl)]
            have h101 := tmp_is (hR.2.1)
            obtain ⟨A5, c5, hv, hB5⟩ := hR.1
            have h100 := tmp_is hv
            go_simp
            refine (cS2 w A5 c5 hS hB5).mono ?_
            rintro e w' ⟨rfl, hb⟩
            exact hK _ _ (hS.trans (hb.mono hS.size)) hb rfl
          · intro a w K hS hB hR hK
            rw [if_pos (wanted_none rfl)]
            have h102 := tmp_is (hR.1)
            go_simp
            exact hK (.bool true) w hS (Below.refl _ w) rfl
          · intro a w K hS hB hR hK
            rw [if_pos (wanted_some rfl (hR.1))]
            have h3 := tmp_is (hB.2.1)
            go_simp
            exact hK vx w hS (Below.refl _ w) rfl
          · intro a w K hS hB hR hK
            rw [if_pos (wanted_some rfl (hR.2.1))]
            have h104 := tmp_is (hR.1)
            go_simp
            refine (cX2 w hS).mono ?_
            rintro e w' ⟨A5, n5, c5, rfl, _, hn5, hN5, hb⟩
            subst hn5
            exact hK _ _ (hS.trans (hb.mono hS.size)) hb ⟨A5, c5, rfl, hN5.bs⟩
          · intro a w K hS hB hR hK
            rw [if_pos (wanted_some rfl (hR.1))]
            have h1 := tmp_is (hB.1)
            obtain ⟨p0, p1, p2, p3, p4, p5⟩ := hcl w hS
            go_simp
            exact hK (.agg #[.int .i64 5, .int .i64 n, .string s, .slice A m c, .int .i64 o, .int .i64 i]) w hS (Below.refl _ w) rfl
          · intro a w K hS hB hR hK
            rw [if_pos (wanted_some rfl (hR.2.2.1))]
            have h106 := tmp_is (hR.1)
            go_simp
            refine (cY2 w hS).mono ?_
            rintro e w' ⟨A5, n5, c5, rfl, _, hn5, hN5, hb⟩
            subst hn5
            exact hK _ _ (hS.trans (hb.mono hS.size)) hb ⟨A5, c5, rfl, hN5.bs⟩
          · intro a w K hS hB hR hK
            rw [if_pos (wanted_some rfl (hR.2.2.2.1))]
            obtain ⟨A5, c5, hv, hB5⟩ := hR.1
            obtain ⟨A6, c6, hv6, hB6⟩ := hR.2.1
            have h105 := tmp_is hv
            have h107 := tmp_is hv6
            go_simp
            refine (cT2 w A5 c5 A6 c6 hB5 hB6).mono ?_
            rintro e w' ⟨rfl, hb⟩
            exact hK _ _ (hS.trans (hb.mono hS.size)) hb rfl
          · intro a w K hS hB hR hK
            rw [if_pos (wanted_none rfl)]
            have h103 := tmp_is (hR.1)
            have h108 := tmp_is (hR.2.1)
            go_simp
            exact hK (.bool true) w hS (Below.refl _ w) rfl
          · intro a w K hS hB hR hK
            rw [if_pos (wanted_none rfl)]
            have h109 := tmp_is (hR.1)
            go_simp
            exact hK (.bool true) w hS (Below.refl _ w) rfl
          · intro a w K hS hB hR hK
            rw [if_pos (wanted_some rfl (hR.1))]
            have h12 := tmp_is (hB.2.2.2.1)
            go_simp
            exact hK (.bool true) w hS (Below.refl _ w) rfl
          · intro a w K hS hB hR hK
            rw [if_pos (wanted_some rfl (hR.1))]
            have h1 := tmp_is (hB.1)
            go_simp
            exact hK (.pointer (some ⟨b, 0, none⟩)) w hS (Below.refl _ w) rfl
          · intro a w K hS hB hR hK
            rw [if_pos (wanted_some rfl (hR.2.1))]
            have h112 := tmp_is (hR.1)
            obtain ⟨p0, p1, p2, p3, p4, p5⟩ := hcl w hS
            go_simp
            exact hK (.int .i64 5) w hS (Below.refl _ w) rfl
          · intro a w K hS hB hR hK
            rw [if_pos (wanted_some rfl (hR.2.1))]
            have h113 := tmp_is (hR.1)
            go_simp
            exact hK (.bool true) w hS (Below.refl _ w) rfl
          · intro a w K hS hB hR hK
            rw [if_pos (wanted_some rfl (hR.2.2.1))]
            have h111 := tmp_is (hR.1)
            have h114 := tmp_is (hR.2.1)
            go_simp
            exact hK (.bool true) w hS (Below.refl _ w) rfl
          · intro a w K hS hB hR hK
            rw [if_pos (wanted_none rfl)]
            have h110 := tmp_is (hR.1)
            have h115 := tmp_is (hR.2.1)
            go_simp
            exact hK (.bool true) w hS (Below.refl _ w) rfl
          · intro a w K hS hB hR hK
            rw [if_pos (wanted_none rfl)]
            have h116 := tmp_is (hR.1)
            go_simp
            exact hK (.bool true) w hS (Below.refl _ w) rfl
          · intro a w K hS hB hR hK
            rw [if_pos (wanted_some rfl (hR.1))]
            have h11 := tmp_is (hB.2.2.1)
            go_simp
            exact hK (.slice A9 n9 c9) w hS (Below.refl _ w) rfl
          · intro a w K hS hB hR hK
            rw [if_pos (wanted_some rfl (hR.1))]
            have h1 := tmp_is (hB.1)
            go_simp
            exact hK (.pointer (some ⟨b, 3, none⟩)) w hS (Below.refl _ w) rfl
          · intro a w K hS hB hR hK
            rw [if_pos (wanted_some rfl (hR.2.1))]
            have h119 := tmp_is (hR.1)
            obtain ⟨p0, p1, p2, p3, p4, p5⟩ := hcl w hS
            go_simp
            exact hK (.slice A m c) w hS (Below.refl _ w) rfl
          · intro a w K hS hB hR hK
            rw [if_pos (wanted_some rfl (hR.2.2.1))]
            have h118 := tmp_is (hR.1)
            have h120 := tmp_is (hR.2.1)
            go_simp
            refine (cU2 w hS).mono ?_
            rintro e w' ⟨rfl, hb⟩
            exact hK _ _ (hS.trans (hb.mono hS.size)) hb rfl
          · intro a w K hS hB hR hK
            rw [if_pos (wanted_none rfl)]
            have h117 := tmp_is (hR.1)
            have h121 := tmp_is (hR.2.1)
            go_simp
            exact hK (.bool true) w hS (Below.refl _ w) rfl
          · intro a w K hS hB hR hK
            rw [if_pos (wanted_none rfl)]
            have h122 := tmp_is (hR.1)
            go_simp
            exact hK (.bool true) w hS (Below.refl _ w) rfl
        case fin =>
          intro a w8 hS8 ha hR
          have hx24 : a.eval (.tmp 2) = .bool true := deps_mem _ hR 24 (by decide)
          have H8 := Lib.hid (HC2.out w8 hS8)
          clear hR hS8 cV2 cX2 cY2 cS2 cT2 cU2 hcl
          simp only [pin] at ha
          rw [ha]
          simp only [List.setIfInBounds_toArray, List.set_cons_zero, List.set_cons_succ, hx24]
          clear ha hx24
          go_wp2
          go_ret
          exact ⟨rfl, H8.out⟩
      · obtain rfl : false = ok := HQ.out.1
        obtain rfl : false = wq := HQ.out.2.1
        obtain rfl : true = pq := HQ.out.2.2
        have hn0 : (n != 0) = false := by have h1 : n = 0 := (by have := HX.out.2.2.1; omega); rw [h1]; rfl
        go_wp2_with fail
        have hc2 : ∀ W, Below w7.heap.size w7 W → Below w.heap.size w W := fun W h => HC.out.2.1 W (H7.out.1.trans (h.mono H7.out.1.size))
        have hcl : ∀ W, Below w7.heap.size w7 W → W.cell? ⟨w.heap.size, 0, none⟩ = some (.int .i64 6) ∧ W.cell? ⟨w.heap.size, 1, none⟩ = some (.int .i64 n) ∧ W.cell? ⟨w.heap.size, 2, none⟩ = some (.string s) ∧ W.cell? ⟨w.heap.size, 3, none⟩ = some (.slice A m c) ∧ W.cell? ⟨w.heap.size, 4, none⟩ = some (.int .i64 o) ∧ W.cell? ⟨w.heap.size, 5, none⟩ = some (.int .i64 i) := fun W h => six (HC.out.1 W (H7.out.1.trans (h.mono H7.out.1.size)))
        have cV2 := fun W (h : Below w7.heap.size w7 W) => cV W ((H7.out.2.1.below h).more h.size)
        have cX2 := fun W (h : Below w7.heap.size w7 W) => cX W ((H7.out.2.1.below h).more h.size)
        have cY2 := fun W (h : Below w7.heap.size w7 W) => cY W (hc2 W h)
        have cS2 := fun W A5 c5 (h : Below w7.heap.size w7 W) (b : Bs W W.heap.size A5 l.length l) => cS W A5 c5 (hc2 W h) b
        have cT2 := fun W A5 c5 A6 c6 (b5 : Bs W W.heap.size A5 L.length L) (b6 : Bs W W.heap.size A6 L.length L) => (same_any A5 A6 L.length c5 L.length c6 L L W _ _ b5 b6 (by have := HX.out.2.2.2; omega) (by have := HX.out.2.2.2; omega)).mono (R' := fun e w' => e = .returned (.bool true) ∧ Below W.heap.size W w') fun e w' ⟨he, m', hw'⟩ => ⟨by rw [he, decide_eq_true rfl], hw' ▸ drewN_below _ _ m'⟩
        have cU2 := fun W (h : Below w7.heap.size w7 W) => (same_any A9 A n9 c9 m c l l W _ _ (H7.out.2.2.1.below h) (HC.out.2.2.1.below (hc2 W h)) (by have := H7.out.2.2.2.out; have := HE.out.2.1.2; have := HE.out.2.2; omega) (by have := HE.out.2.1.2; omega)).mono (R' := fun e w' => e = .returned (.bool true) ∧ Below W.heap.size W w') fun e w' ⟨he, m', hw'⟩ => ⟨by rw [he, decide_eq_true rfl], hw' ▸ drewN_below _ _ m'⟩
        obtain ⟨b, hb⟩ : ∃ b, w.heap.size = b := ⟨_, rfl⟩
        rw [hb] at hcl ⊢
        have HBB := Lib.hid hb
        have HC2 := Lib.hid hc2
        clear hb p0 p1 p2 p3 p4 p5 hc2 cV cX cY cS hnn hss hn0
        refine wp_region_rel (fun w' => Below w7.heap.size w7 w') (fun w w' => Below w.heap.size w w') (VoR vx b 6 n s o i A m c l L A9 n9 c9 true) [(1, .pointer (some ⟨b, 0, none⟩)), (3, vx), (11, .slice A9 n9 c9), (12, .bool true)] (by kernel_rfl) (by kernel_rfl) (by kernel_rfl) ?base (Below.drew (Below.refl _ _)) (fun i w w' v hb h => VoR.grow i w w' v hb h) ?steps ?fin
        case base =>
          intro x hx
          simp only [List.mem_cons, List.not_mem_nil, or_false] at hx
          rcases hx with rfl | rfl | rfl | rfl <;> exact ⟨rfl, rfl⟩
        case steps =>
          refine steps_cons ?_ (steps_cons ?_ (steps_cons ?_ (steps_cons ?_ (steps_cons ?_ (steps_cons ?_ (steps_cons ?_ (steps_cons ?_ (steps_cons ?_ (steps_cons ?_ (steps_cons ?_ (steps_cons ?_ (steps_cons ?_ (steps_cons ?_ (steps_cons ?_ (steps_cons ?_ (steps_cons ?_ (steps_cons ?_ (steps_cons ?_ (steps_cons ?_ (steps_cons ?_ (steps_cons ?_ (steps_cons ?_ (steps_cons ?_ (steps_cons ?_ steps_nil))))))))))))))))))))))))
          · intro a w K hS hB hR hK
            rw [if_pos (wanted_none rfl)]
            have h3 := tmp_is (hB.2.1)
            go_simp
            exact hK vx w hS (Below.refl _ w) rfl
          · intro a w K hS hB hR hK
            rw [if_pos (wanted_none rfl)]
            have h99 := tmp_is (hR.1)
            go_simp
            refine (cV2 w hS).mono ?_
            rintro e w' ⟨A5, c5, rfl, _, hB5, hb⟩
            exact hK _ _ (hS.trans (hb.mono hS.size)) hb ⟨A5, c5, rfl, hB5⟩
          · intro a w K hS hB hR hK
            rw [if_pos (wanted_none rfl)]
            have h1 := tmp_is (hB.1)
            obtain ⟨p0, p1, p2, p3, p4, p5⟩ := hcl w hS
            go_simp
            exact hK (.agg #[.int .i64 6, .int .i64 n, .string s, .slice A m c, .int .i64 o, .int .i64 i]) w hS (Below.refl _ w) rfl
          · intro a w K hS hB hR hK
            rw [if_pos (wanted_none rfl)]
            have h101 := tmp_is (hR.2.1)
            obtain ⟨A5, c5, hv, hB5⟩ := hR.1
            have h100 := tmp_is hv
            go_simp
            refine (cS2 w A5 c5 hS hB5).mono ?_
            rintro e w' ⟨rfl, hb⟩
            exact hK _ _ (hS.trans (hb.mono hS.size)) hb rfl
          · intro a w K hS hB hR hK
            rw [if_pos (wanted_none rfl)]
            have h102 := tmp_is (hR.1)
            go_simp
            exact hK (.bool true) w hS (Below.refl _ w) rfl
          · intro a w K hS hB hR hK
            rw [if_pos (wanted_some rfl (hR.1))]
            have h3 := tmp_is (hB.2.1)
            go_simp
            exact hK vx w hS (Below.refl _ w) rfl
          · intro a w K hS hB hR hK
            rw [if_pos (wanted_some rfl (hR.2.1))]
            have h104 := tmp_is (hR.1)
            go_simp
            refine (cX2 w hS).mono ?_
            rintro e w' ⟨A5, n5, c5, rfl, _, hn5, hN5, hb⟩
            subst hn5
            exact hK _ _ (hS.trans (hb.mono hS.size)) hb ⟨A5, c5, rfl, hN5.bs⟩
          · intro a w K hS hB hR hK
            rw [if_pos (wanted_some rfl (hR.1))]
            have h1 := tmp_is (hB.1)
            obtain ⟨p0, p1, p2, p3, p4, p5⟩ := hcl w hS
            go_simp
            exact hK (.agg #[.int .i64 6, .int .i64 n, .string s, .slice A m c, .int .i64 o, .int .i64 i]) w hS (Below.refl _ w) rfl
          · intro a w K hS hB hR hK
            rw [if_pos (wanted_some rfl (hR.2.2.1))]
            have h106 := tmp_is (hR.1)
            go_simp
            refine (cY2 w hS).mono ?_
            rintro e w' ⟨A5, n5, c5, rfl, _, hn5, hN5, hb⟩
            subst hn5
            exact hK _ _ (hS.trans (hb.mono hS.size)) hb ⟨A5, c5, rfl, hN5.bs⟩
          · intro a w K hS hB hR hK
            rw [if_pos (wanted_some rfl (hR.2.2.2.1))]
            obtain ⟨A5, c5, hv, hB5⟩ := hR.1
            obtain ⟨A6, c6, hv6, hB6⟩ := hR.2.1
            have h105 := tmp_is hv
            have h107 := tmp_is hv6
            go_simp
            refine (cT2 w A5 c5 A6 c6 hB5 hB6).mono ?_
            rintro e w' ⟨rfl, hb⟩
            exact hK _ _ (hS.trans (hb.mono hS.size)) hb rfl
          · intro a w K hS hB hR hK
            rw [if_pos (wanted_none rfl)]
            have h103 := tmp_is (hR.1)
            have h108 := tmp_is (hR.2.1)
            go_simp
            exact hK (.bool true) w hS (Below.refl _ w) rfl
          · intro a w K hS hB hR hK
            rw [if_pos (wanted_none rfl)]
            have h109 := tmp_is (hR.1)
            go_simp
            exact hK (.bool true) w hS (Below.refl _ w) rfl
          · intro a w K hS hB hR hK
            rw [if_pos (wanted_some rfl (hR.1))]
            have h12 := tmp_is (hB.2.2.2.1)
            go_simp
            exact hK (.bool true) w hS (Below.refl _ w) rfl
          · intro a w K hS hB hR hK
            rw [if_pos (wanted_some rfl (hR.1))]
            have h1 := tmp_is (hB.1)
            go_simp
            exact hK (.pointer (some ⟨b, 0, none⟩)) w hS (Below.refl _ w) rfl
          · intro a w K hS hB hR hK
            rw [if_pos (wanted_some rfl (hR.2.1))]
            have h112 := tmp_is (hR.1)
            obtain ⟨p0, p1, p2, p3, p4, p5⟩ := hcl w hS
            go_simp
            exact hK (.int .i64 6) w hS (Below.refl _ w) rfl
          · intro a w K hS hB hR hK
            rw [if_pos (wanted_some rfl (hR.2.1))]
            have h113 := tmp_is (hR.1)
            go_simp
            exact hK (.bool true) w hS (Below.refl _ w) rfl
          · intro a w K hS hB hR hK
            rw [if_pos (wanted_some rfl (hR.2.2.1))]
            have h111 := tmp_is (hR.1)
            have h114 := tmp_is (hR.2.1)
            go_simp
            exact hK (.bool true) w hS (Below.refl _ w) rfl
          · intro a w K hS hB hR hK
            rw [if_pos (wanted_none rfl)]
            have h110 := tmp_is (hR.1)
            have h115 := tmp_is (hR.2.1)
            go_simp
            exact hK (.bool true) w hS (Below.refl _ w) rfl
          · intro a w K hS hB hR hK
            rw [if_pos (wanted_none rfl)]
            have h116 := tmp_is (hR.1)
            go_simp
            exact hK (.bool true) w hS (Below.refl _ w) rfl
          · intro a w K hS hB hR hK
            rw [if_pos (wanted_some rfl (hR.1))]
            have h11 := tmp_is (hB.2.2.1)
            go_simp
            exact hK (.slice A9 n9 c9) w hS (Below.refl _ w) rfl
          · intro a w K hS hB hR hK
            rw [if_pos (wanted_some rfl (hR.1))]
            have h1 := tmp_is (hB.1)
            go_simp
            exact hK (.pointer (some ⟨b, 3, none⟩)) w hS (Below.refl _ w) rfl
          · intro a w K hS hB hR hK
            rw [if_pos (wanted_some rfl (hR.2.1))]
            have h119 := tmp_is (hR.1)
            obtain ⟨p0, p1, p2, p3, p4, p5⟩ := hcl w hS
            go_simp
            exact hK (.slice A m c) w hS (Below.refl _ w) rfl
          · intro a w K hS hB hR hK
            rw [if_pos (wanted_some rfl (hR.2.2.1))]
            have h118 := tmp_is (hR.1)
            have h120 := tmp_is (hR.2.1)
            go_simp
            refine (cU2 w hS).mono ?_
            rintro e w' ⟨rfl, hb⟩
            exact hK _ _ (hS.trans (hb.mono hS.size)) hb rfl
          · intro a w K hS hB hR hK
            rw [if_pos (wanted_none rfl)]
            have h117 := tmp_is (hR.1)
            have h121 := tmp_is (hR.2.1)
            go_simp
            exact hK (.bool true) w hS (Below.refl _ w) rfl
          · intro a w K hS hB hR hK
            rw [if_pos (wanted_none rfl)]
            have h122 := tmp_is (hR.1)
            go_simp
            exact hK (.bool true) w hS (Below.refl _ w) rfl
        case fin =>
          intro a w8 hS8 ha hR
          have hx24 : a.eval (.tmp 2) = .bool true := deps_mem _ hR 24 (by decide)
          have H8 := Lib.hid (HC2.out w8 hS8)
          clear hR hS8 cV2 cX2 cY2 cS2 cT2 cU2 hcl
          simp only [pin] at ha
          rw [ha]
          simp only [List.setIfInBounds_toArray, List.set_cons_zero, List.set_cons_succ, hx24]
          clear ha hx24
          go_wp2
          go_ret
          exact ⟨rfl, H8.out⟩
  · have hsh2 : shortB s.size m = false := by simpa using hsh
    rw [hsh2] at hSh
    clear hsh hsh2
    go_enter Tryd.func9, Tryd.ntmps9
    go_wp2_with fail
    rw [HW.out]
    refine (cA _ H0.out).mono ?_
    rintro e w1 ⟨rfl, b1⟩
    obtain ⟨p0, p1, p2, p3, p4, p5⟩ := six (HC.out.1 w1 b1)
    go_wp2_with fail
    refine (hSh w1).mono ?_
    rintro e w2 ⟨rfl, b2⟩
    have H2 := Lib.hid (HC.out.2.1 w2 (b1.trans (b2.mono b1.size)))
    clear b1 b2 p0 p1 p2 p3 p4 p5
    go_wp2
    go_ret
    exact ⟨rfl, H2.out⟩
end Go.Proofs.YtkacgdhcacclcaaDoor
