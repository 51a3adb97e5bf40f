/-
  Messages written, by the document.
-/
import Derived.Test.YtihicplembaoeaaMsgRef
namespace Go.Proofs.Ytihicplembaoeaa
open Go.RowKit
set_option maxRecDepth 100000
set_option linter.unusedVariables false
theorem Ps.three (w : World) (B : Nat) (t : TypeId) (A1 A2 A3 : Option Addr) (n1 n2 n3 c1 c2 c3 : Nat) (l1 l2 l3 : List UInt8) (fr : Nat × Nat) (h1 : Bs w B A1 n1 l1) (h2 : Bs w B A2 n2 l2) (h3 : Bs w B A3 n3 l3) (hB : B ≤ w.heap.size) :
    Ps (w.alloc (.cells #[.slice A1 n1 c1, .slice A2 n2 c2, .slice A3 n3 c3] t fr)) (w.heap.size + 1) (some ⟨w.heap.size, 0, none⟩) 3 [l1, l2, l3] := by
  have hal := alloc_below w (.cells #[.slice A1 n1 c1, .slice A2 n2 c2, .slice A3 n3 c3] t fr)
  have up : ∀ {A : Option Addr} {n : Nat} {l : List UInt8}, Bs w B A n l → Bs (w.alloc (.cells #[.slice A1 n1 c1, .slice A2 n2 c2, .slice A3 n3 c3] t fr)) (w.heap.size + 1) A n l := fun h => (h.below' hal hB).more (by omega)
  refine ⟨rfl, fun _ => ⟨w.heap.size, 0, rfl, by omega, fun k l hl => ?_⟩⟩
  have hcell : ∀ j : Nat, (w.alloc (.cells #[.slice A1 n1 c1, .slice A2 n2 c2, .slice A3 n3 c3] t fr)).cell? ⟨w.heap.size, j, none⟩ = (#[Value.slice A1 n1 c1, .slice A2 n2 c2, .slice A3 n3 c3])[j]? := fun j => cell_of_row _ _ _ _ _ _ (heap_alloc_new w _)
  rw [Nat.zero_add]
  match k, hl with
  | 0, hl => obtain rfl := Option.some.inj hl; exact ⟨A1, n1, c1, hcell 0, up h1⟩
  | 1, hl => obtain rfl := Option.some.inj hl; exact ⟨A2, n2, c2, hcell 1, up h2⟩
  | 2, hl => obtain rfl := Option.some.inj hl; exact ⟨A3, n3, c3, hcell 2, up h3⟩
  | k + 3, hl => simp at hl
theorem wrap_small (z : Int) (a : 0 ≤ z) (b : z ≤ 1000000) : wrap64 z = z := IntWalk.wrap64_in z ⟨by omega, by omega⟩
set_option maxHeartbeats 4000000 in
theorem rwrite9_f (kd cd id : Int) (tA : Option Addr) (tn tc : Nat) (oA : Option Addr) (on oc : Nat) (bA : Option Addr) (bn bc : Nat) (vs : List Sv) (tok : List UInt8) (ps : List (Int × List UInt8)) (body : List UInt8) (w : World) (hm : Ms w w.heap.size tA tn oA on vs bA bn tok ps body)
    (htn : tn ≤ 100) (hon : on ≤ 40) (hbn : bn ≤ 2000) :
    Calls Try.prog 32 #[.agg #[.int .i64 kd, .int .i64 cd, .int .i64 id, .slice tA tn tc, .slice oA on oc, .slice bA bn bc]] w (WrRet (mwr kd cd id tok ps body) w) := by
  have htl := hm.t.len
  have hol := hm.o.plen
  have hbl := hm.b.len
  have htI : (tn : Int) ≤ 100 := by omega
  have hoI : (on : Int) ≤ 40 := by omega
  have hbI : (bn : Int) ≤ 2000 := by omega
  obtain ⟨W0, hW0⟩ : ∃ W0, w.alloc (.cells #[.int .i64 kd, .int .i64 cd, .int .i64 id, .slice tA tn tc, .slice oA on oc, .slice bA bn bc] 51) = W0 := ⟨_, rfl⟩
  have hr0 : W0.rangeAt w.heap.size 0 [.int .i64 kd, .int .i64 cd, .int .i64 id, .slice tA tn tc, .slice oA on oc, .slice bA bn bc] := hW0 ▸ range_newA w _ 51 rfl
  have hs0 : W0.heap.size = w.heap.size + 1 := by rw [← hW0, alloc_size]
  have hbw0 : Below w.heap.size w W0 := hW0 ▸ alloc_below w _
  have fin : ∀ {er : Int} {w' : World}, mwr kd cd id tok ps body = ([], er) → Below w.heap.size w w' → WrRet (mwr kd cd id tok ps body) w (.returned (.tuple #[.slice none 0 0, .int .i64 er])) w' := fun h b => by rw [h]; exact WrRet.nil b
  by_cases hrg : rngB kd cd id = true
  · obtain ⟨r1, r2, r3, r4, r5⟩ : 0 ≤ kd ∧ kd ≤ 3 ∧ ((0 ≤ cd ∧ cd ≤ 31) ∨ (64 ≤ cd ∧ cd ≤ 191)) ∧ 0 ≤ id ∧ id ≤ 65535 := by
      unfold rngB at hrg; exact of_decide_eq_true hrg
    have rc0 : 0 ≤ cd := by rcases r3 with h | h; exact h.1; exact Int.le_trans (by decide) h.1
    have rc1 : cd ≤ 191 := by rcases r3 with h | h; exact Int.le_trans h.2 (by decide); exact h.2
    have hus := used_f cd rc0 (Int.le_trans rc1 (by decide)) W0
    rw [(codeB_iff cd).2 r3] at hus
    clear r3
    have k1 : ¬ kd < 0 := Int.not_lt.2 r1
    have k2 : ¬ (3 : Int) < kd := Int.not_lt.2 r2
    have k3 : ¬ cd < 0 := Int.not_lt.2 rc0
    have k4 : ¬ (255 : Int) < cd := Int.not_lt.2 (Int.le_trans rc1 (by decide))
    have k5 : ¬ id < 0 := Int.not_lt.2 r4
    have k6 : ¬ (65535 : Int) < id := Int.not_lt.2 r5
    obtain ⟨c0, c1, c2, c3, c4, c5⟩ := six hr0
    by_cases h1 : cd = 0 ∧ 0 < tn + on + bn
    · have HF := Lib.hid fun w' => @fin 1 w' (by unfold mwr; rw [if_pos (.inr (by omega))])
      have hcs : (0 : Int) < tn ∨ (¬ (0 : Int) < tn ∧ (0 : Int) < on) ∨ (¬ (0 : Int) < tn ∧ ¬ (0 : Int) < on ∧ (0 : Int) < bn) := by omega
      obtain ⟨h1a, h1b⟩ := h1
      have HU := Lib.hid (And.intro hus hbw0)
      have HW := Lib.hid hW0
      clear hm htl hol hbl hr0 hs0 hbw0 hW0 fin hrg hus r1 r2 r4 r5 rc0 rc1 h1b
      subst h1a
      rcases hcs with h | ⟨h, h'⟩ | ⟨h, h', h''⟩
      all_goals
        go_enter Try.func32, Try.ntmps32
        go_wp2_with fail
        rw [HW.out]
        refine HU.out.1.mono ?_
        rintro e w1 ⟨rfl, hw1⟩
        obtain rfl := hw1.symm
        go_wp2
        go_ret2
        exact HF.out _ HU.out.2
    · have h1' : cd = 0 → tn + on + bn = 0 := fun e => by omega
      by_cases h2 : 8 < tn ∨ 1200 < bn
      · have HF := Lib.hid fun w' => @fin 2 w' (by unfold mwr; rw [if_neg (by rintro (e | e); rw [hrg] at e; cases e; omega), if_pos (by omega)])
        have hcd : (cd == 0) = false := by
          simp only [beq_eq_false_iff_ne, ne_eq]
          omega
        have h2I : (8 : Int) < tn ∨ (¬ (8 : Int) < tn ∧ (1200 : Int) < bn) := by omega
        have HU := Lib.hid (And.intro hus hbw0)
        have HW := Lib.hid hW0
        clear hm htl hol hbl hr0 hs0 hbw0 hW0 fin hrg hus r1 r2 r4 r5 rc0 rc1 h1 h1' h2
        rcases h2I with h | ⟨h, h'⟩
        all_goals
          go_enter Try.func32, Try.ntmps32
          go_wp2_with fail
          rw [HW.out]
          refine HU.out.1.mono ?_
          rintro e w1 ⟨rfl, hw1⟩
          obtain rfl := hw1.symm
          go_wp2
          go_ret2
          exact HF.out _ HU.out.2
      · obtain ⟨⟨L, er⟩, hwr⟩ : ∃ r, wrP ps = r := ⟨_, rfl⟩
        have hLl := wrP_len ps
        have hopt := rwrite_f oA on oc vs ps W0 ((hm.o.below hbw0).more (by omega)) (by omega)
        rw [hwr] at hLl hopt
        dsimp only at hLl
        have g8 : ¬ (8 : Int) < tn := by omega
        have g12 : ¬ (1200 : Int) < bn := by omega
        have hcases : ((cd == 0) = false) ∨ (cd = 0 ∧ tn = 0 ∧ on = 0 ∧ bn = 0) := by
          by_cases e : cd = 0
          · have := h1' e
            exact .inr ⟨e, by omega, by omega, by omega⟩
          · exact .inl (by simpa using e)
        have hnl : mwr kd cd id tok ps body = if (wrP ps).2 ≠ 0 then ([], (wrP ps).2) else (mwHd kd.toNat cd.toNat id.toNat tok.length ++ (tok ++ ((wrP ps).1 ++ (if body.length = 0 then [] else 255 :: body))), 0) := by
          unfold mwr
          rw [if_neg (by rintro (e | e); rw [hrg] at e; cases e; omega), if_neg (by omega)]
        rw [hwr] at hnl
        dsimp only at hnl
        by_cases her : er = 0
        · subst her
          rw [if_neg (by simp)] at hnl
          rcases hcases with hcd | ⟨hcd, htz, hoz, hbz⟩
          · obtain ⟨k, rfl⟩ := Int.eq_ofNat_of_zero_le r1
            obtain ⟨cc, rfl⟩ := Int.eq_ofNat_of_zero_le rc0
            obtain ⟨i, rfl⟩ := Int.eq_ofNat_of_zero_le r4
            have hcs : ∀ cs : Array Value, cs = #[.int .u8 (64 + 16 * (k : Int) + (tn : Int)), .int .u8 (cc : Int), .int .u8 ((i : Int) / 256), .int .u8 ((i : Int) % 256)] → cs.toList = U8 (mwHd k cc i tn) := by
              rintro cs rfl
              have e1 : 64 + 16 * (k : Int) + (tn : Int) = ((64 + 16 * k + tn : Nat) : Int) := by omega
              have e2 : (i : Int) / 256 = ((i / 256 : Nat) : Int) := by omega
              have e3 : (i : Int) % 256 = ((i % 256 : Nat) : Int) := by omega
              rw [e1, e2, e3]
              simp only [U8, mwHd, List.map_cons, List.map_nil]
              rw [nbyte (by omega), nbyte (by omega), nbyte (by omega), nbyte (by omega)]
            have vk : (k : Int) ≤ 3 := r2
            have vc : (cc : Int) ≤ 191 := rc1
            have vi : (i : Int) ≤ 65535 := r5
            have hbcase : (bn = 0 ∧ body = []) ∨ ((0 : Int) < bn ∧ ¬ body.length = 0) := by
              by_cases e : bn = 0
              · exact .inl ⟨e, List.eq_nil_of_length_eq_zero (by omega)⟩
              · exact .inr ⟨by omega, by omega⟩
            have hms := fun W (hb : Below (w.heap.size + 1) W0 W) => (hm.below (hbw0.trans (hb.mono (by omega)))).more (show w.heap.size ≤ W.heap.size by have := hb.size; omega)
            have hrg0 := fun W (hb : Below (w.heap.size + 1) W0 W) => six (range_below hr0 hb (by omega))
            rw [show (k : Int).toNat = k from rfl, show (cc : Int).toNat = cc from rfl, show (i : Int).toNat = i from rfl, htl] at hnl
            have hcl := fun W (hb : Below (w.heap.size + 1) W0 W) => hbw0.trans (hb.mono (show w.heap.size ≤ w.heap.size + 1 by omega))
            have HU := Lib.hid (And.intro hus (And.intro hopt (And.intro hms (And.intro hrg0 (And.intro hnl (And.intro hcs (And.intro hLl (And.intro htl (And.intro hbl (And.intro hs0 hcl))))))))))
            have HW := Lib.hid hW0
            clear hm htl hol hbl hr0 hs0 hbw0 hW0 fin hrg hus r1 r2 r4 r5 rc0 rc1 h1 h1' h2 hwr hLl hopt hnl hcs hms hrg0 hcl
            iterate 1
              go_enter Try.func32, Try.ntmps32
              go_wp2_with fail
              rw [HW.out]
              refine HU.out.1.mono ?_
              rintro e w1 ⟨rfl, hw1⟩
              obtain rfl := hw1.symm
              go_wp2_with fail
              refine HU.out.2.1.mono ?_
              rintro e w2 ⟨A2, n2, c2', rfl, hc2, hn2, hb2, b2⟩
              have hs0 := HU.out.2.2.2.2.2.2.2.2.2.1
              have B2 : Below (w.heap.size + 1) W0 w2 := hs0 ▸ b2
              have hLl := HU.out.2.2.2.2.2.2.1
              have hn2L : n2 = L.length := hn2.out
              have H2 := Lib.hid (And.intro hb2 (And.intro B2 (And.intro hn2L (show n2 ≤ 7320 by omega))))
              have hsz2 : w.heap.size + 1 ≤ w2.heap.size := by have := B2.size; omega
              obtain ⟨d0, d1, d2, d3, d4, d5⟩ := HU.out.2.2.2.1 w2 B2
              have d3a := fun o => (HU.out.2.2.2.1 (w2.alloc o) (B2.trans ((alloc_below w2 o).mono (by omega)))).2.2.2.1
              clear hb2 hn2 hn2L hc2 b2 B2 hLl hs0 c0 c1 c2 c3 c4 c5
              try dsimp only
              go_wp2_with fail
              refine calls_at_world (F := fun W => Below w2.heap.size w2 W ∧ Ps W W.heap.size (some ⟨w2.heap.size + 1, 0, none⟩) 3 [mwHd k cc i tn, tok, L]) ⟨(alloc_below w2 _).alloc (by rw [alloc_size]; omega) _, ?_⟩ fun W3 ⟨b3, p3⟩ => ?_
              · have hm2 := HU.out.2.2.1 w2 H2.out.2.1
                have al := fun o => alloc_below w2 o
                have := Ps.three (w2.alloc (.cells _ 5)) (w2.heap.size + 1) 25 (some ⟨w2.heap.size, 0, none⟩) tA A2 4 tn n2 4 tc c2' (mwHd k cc i tn) tok L (0, 0) (Bs.lit_ w2 5 _ (0, 0) (mwHd k cc i tn) (HU.out.2.2.2.2.2.1 _ rfl)) ((hm2.t.below (al _)).more (by omega)) ((H2.out.1.below (al _)).more (by omega)) (by rw [alloc_size]; exact Nat.le_refl _)
                rw [alloc_size] at this
                rw [alloc_size, alloc_size]
                exact this
              have hB3 : Below (w.heap.size + 1) W0 W3 := H2.out.2.1.trans (b3.mono hsz2)
              have hfl : [mwHd k cc i tn, tok, L].flatten.length ≤ 65536 := by
                have q1 := HU.out.2.2.2.2.2.2.1
                have q2 := HU.out.2.2.2.2.2.2.2.1
                simp only [List.flatten_cons, List.flatten_nil, List.length_append, List.length_nil, mwHd, List.length_cons]
                omega
              have hjn := join_any (some ⟨w2.heap.size + 1, 0, none⟩) 3 3 [mwHd k cc i tn, tok, L] W3 _ p3 (Nat.le_refl _) (by omega) hfl
              have HJ := Lib.hid hB3
              clear d0 d1 d2 d3 d4 d5 d3a b3 p3 hB3
              refine hjn.mono ?_
              rintro e w4 ⟨u4, rfl, ho4, b4⟩
              obtain ⟨N4, hN4⟩ : ∃ N4, [mwHd k cc i tn, tok, L].flatten.length = N4 := ⟨_, rfl⟩
              rw [hN4] at ho4 hfl
              obtain ⟨A4, c4', rfl, hc4, hb4⟩ := own_bs ho4
              have hm4 := row_cap ho4
              have B4 : Below (w.heap.size + 1) W0 w4 := HJ.out.trans (b4.mono (by have := HJ.out.size; have := HU.out.2.2.2.2.2.2.2.2.2.1; omega))
              have hsz4 : w.heap.size + 1 ≤ w4.heap.size := by have := B4.size; have := HU.out.2.2.2.2.2.2.2.2.2.1; omega
              obtain ⟨d0, d1, d2, d3, d4, d5⟩ := HU.out.2.2.2.1 w4 B4
              have d5a := fun o => (HU.out.2.2.2.1 (w4.alloc o) (B4.trans ((alloc_below w4 o).mono (by omega)))).2.2.2.2.2
              have H4 := Lib.hid (And.intro hb4 (And.intro hc4 (And.intro hm4 (And.intro B4 (And.intro hN4 hfl)))))
              clear hjn ho4 b4 hc4 hm4 hb4 B4 hN4 hfl
              rcases hbcase with ⟨rfl, rfl⟩ | ⟨hb0, hbne⟩
              · go_wp2
                go_ret2
                rw [HU.out.2.2.2.2.1, if_pos (show ([] : List UInt8).length = 0 from rfl)]
                refine ⟨A4, N4, c4', rfl, ⟨H4.out.2.1, H4.out.2.2.1⟩, ?_, ?_, HU.out.2.2.2.2.2.2.2.2.2.2 w4 H4.out.2.2.2.1⟩
                · exact H4.out.2.2.2.2.1.symm
                · exact H4.out.1
              · try (exfalso; omega)
                all_goals
                  go_wp2_with fail
                  refine calls_at_world (F := fun W => Below w4.heap.size w4 W ∧ Ps W W.heap.size (some ⟨w4.heap.size + 1, 0, none⟩) 3 [[mwHd k cc i tn, tok, L].flatten, [255], body]) ⟨(alloc_below w4 _).alloc (by rw [alloc_size]; omega) _, ?_⟩ fun W5 ⟨b5, p5⟩ => ?_
                  · have hm4 := HU.out.2.2.1 w4 H4.out.2.2.2.1
                    have al := fun o => alloc_below w4 o
                    have := Ps.three (w4.alloc (.cells #[.int .u8 255] 5)) (w4.heap.size + 1) 25 A4 (some ⟨w4.heap.size, 0, none⟩) bA N4 1 bn c4' 1 bc [mwHd k cc i tn, tok, L].flatten [255] body (0, 0) ((H4.out.1.below (al _)).more (by omega)) (Bs.lit_ w4 5 _ (0, 0) [255] rfl) ((hm4.b.below (al _)).more (by omega)) (by rw [alloc_size]; exact Nat.le_refl _)
                    rw [alloc_size] at this
                    rw [alloc_size, alloc_size]
                    exact this
                  have hB5 : Below (w.heap.size + 1) W0 W5 := H4.out.2.2.2.1.trans (b5.mono hsz4)
                  have hf2 : [[mwHd k cc i tn, tok, L].flatten, [255], body].flatten.length ≤ 65536 := by
                    have q1 := HU.out.2.2.2.2.2.2.1
                    have q2 := HU.out.2.2.2.2.2.2.2.1
                    have q3 := HU.out.2.2.2.2.2.2.2.2.1
                    simp only [List.flatten_cons, List.flatten_nil, List.length_append, List.length_nil, mwHd, List.length_cons]
                    omega
                  have hjn := join_any (some ⟨w4.heap.size + 1, 0, none⟩) 3 3 [[mwHd k cc i tn, tok, L].flatten, [255], body] W5 _ p5 (Nat.le_refl _) (by omega) hf2
                  have HJ5 := Lib.hid hB5
                  clear d0 d1 d2 d3 d4 d5 d5a b5 p5 hB5
                  refine hjn.mono ?_
                  rintro e w6 ⟨u6, rfl, ho6, b6⟩
                  obtain ⟨N6, hN6⟩ : ∃ N6, [[mwHd k cc i tn, tok, L].flatten, [255], body].flatten.length = N6 := ⟨_, rfl⟩
                  rw [hN6] at ho6
                  obtain ⟨A6, c6', rfl, hc6, hb6⟩ := own_bs ho6
                  have hm6 := row_cap ho6
                  have B6 : Below (w.heap.size + 1) W0 w6 := HJ5.out.trans (b6.mono (by have := HJ5.out.size; have := HU.out.2.2.2.2.2.2.2.2.2.1; omega))
                  have H6 := Lib.hid (And.intro hb6 (And.intro hc6 (And.intro hm6 (And.intro B6 hN6))))
                  clear hjn ho6 b6 hc6 hm6 hb6 B6 hN6 hf2
                  go_wp2
                  go_ret2
                  have hff : mwHd k cc i tn ++ (tok ++ (L ++ 255 :: body)) = [[mwHd k cc i tn, tok, L].flatten, [255], body].flatten := by
                    simp only [List.flatten_cons, List.flatten_nil, List.append_nil, List.append_assoc, List.singleton_append]
                  rw [HU.out.2.2.2.2.1, if_neg hbne, hff]
                  exact ⟨A6, N6, c6', rfl, ⟨H6.out.2.1, H6.out.2.2.1⟩, H6.out.2.2.2.2.symm, H6.out.1, HU.out.2.2.2.2.2.2.2.2.2.2 w6 H6.out.2.2.2.1⟩
          · subst hcd htz hoz hbz
            obtain ⟨k, rfl⟩ := Int.eq_ofNat_of_zero_le r1
            obtain ⟨i, rfl⟩ := Int.eq_ofNat_of_zero_le r4
            have hcs : ∀ cs : Array Value, cs = #[.int .u8 (64 + 16 * (k : Int)), .int .u8 0, .int .u8 ((i : Int) / 256), .int .u8 ((i : Int) % 256)] → cs.toList = U8 (mwHd k 0 i 0) := by
              rintro cs rfl
              have e1 : 64 + 16 * (k : Int) = ((64 + 16 * k + 0 : Nat) : Int) := by omega
              have e2 : (i : Int) / 256 = ((i / 256 : Nat) : Int) := by omega
              have e3 : (i : Int) % 256 = ((i % 256 : Nat) : Int) := by omega
              rw [e1, e2, e3]
              simp only [U8, mwHd, List.map_cons, List.map_nil]
              rw [nbyte (by omega), nbyte (by omega), nbyte (by omega), nbyte (by omega)]
              rfl
            have vk : (k : Int) ≤ 3 := r2
            have vi : (i : Int) ≤ 65535 := r5
            have hbody : body = [] := List.eq_nil_of_length_eq_zero (by omega)
            subst hbody
            have hms := fun W (hb : Below (w.heap.size + 1) W0 W) => (hm.below (hbw0.trans (hb.mono (by omega)))).more (show w.heap.size ≤ W.heap.size by have := hb.size; omega)
            have hrg0 := fun W (hb : Below (w.heap.size + 1) W0 W) => six (range_below hr0 hb (by omega))
            rw [show (k : Int).toNat = k from rfl, show (0 : Int).toNat = 0 from rfl, show (i : Int).toNat = i from rfl, htl] at hnl
            have hcl := fun W (hb : Below (w.heap.size + 1) W0 W) => hbw0.trans (hb.mono (show w.heap.size ≤ w.heap.size + 1 by omega))
            have HU := Lib.hid (And.intro hus (And.intro hopt (And.intro hms (And.intro hrg0 (And.intro hnl (And.intro hcs (And.intro hLl (And.intro htl (And.intro hbl (And.intro hs0 hcl))))))))))
            have HW := Lib.hid hW0
            clear hm htl hol hbl hr0 hs0 hbw0 hW0 fin hrg hus r1 r2 r4 r5 rc0 rc1 h1 h1' h2 hwr hLl hopt hnl hcs hms hrg0 hcl
            iterate 1
              go_enter Try.func32, Try.ntmps32
              go_wp2_with fail
              rw [HW.out]
              refine HU.out.1.mono ?_
              rintro e w1 ⟨rfl, hw1⟩
              obtain rfl := hw1.symm
              go_wp2_with fail
              refine HU.out.2.1.mono ?_
              rintro e w2 ⟨A2, n2, c2', rfl, hc2, hn2, hb2, b2⟩
              have hs0 := HU.out.2.2.2.2.2.2.2.2.2.1
              have B2 : Below (w.heap.size + 1) W0 w2 := hs0 ▸ b2
              have hLl := HU.out.2.2.2.2.2.2.1
              have hn2L : n2 = L.length := hn2.out
              have H2 := Lib.hid (And.intro hb2 (And.intro B2 (And.intro hn2L (show n2 ≤ 7320 by omega))))
              have hsz2 : w.heap.size + 1 ≤ w2.heap.size := by have := B2.size; omega
              obtain ⟨d0, d1, d2, d3, d4, d5⟩ := HU.out.2.2.2.1 w2 B2
              have d3a := fun o => (HU.out.2.2.2.1 (w2.alloc o) (B2.trans ((alloc_below w2 o).mono (by omega)))).2.2.2.1
              clear hb2 hn2 hn2L hc2 b2 B2 hLl hs0 c0 c1 c2 c3 c4 c5
              try dsimp only
              go_wp2_with fail
              refine calls_at_world (F := fun W => Below w2.heap.size w2 W ∧ Ps W W.heap.size (some ⟨w2.heap.size + 1, 0, none⟩) 3 [mwHd k 0 i 0, tok, L]) ⟨(alloc_below w2 _).alloc (by rw [alloc_size]; omega) _, ?_⟩ fun W3 ⟨b3, p3⟩ => ?_
              · have hm2 := HU.out.2.2.1 w2 H2.out.2.1
                have al := fun o => alloc_below w2 o
                have := Ps.three (w2.alloc (.cells _ 5)) (w2.heap.size + 1) 25 (some ⟨w2.heap.size, 0, none⟩) tA A2 4 0 n2 4 tc c2' (mwHd k 0 i 0) tok L (0, 0) (Bs.lit_ w2 5 _ (0, 0) (mwHd k 0 i 0) (HU.out.2.2.2.2.2.1 _ rfl)) ((hm2.t.below (al _)).more (by omega)) ((H2.out.1.below (al _)).more (by omega)) (by rw [alloc_size]; exact Nat.le_refl _)
                rw [alloc_size] at this
                rw [alloc_size, alloc_size]
                exact this
              have hB3 : Below (w.heap.size + 1) W0 W3 := H2.out.2.1.trans (b3.mono hsz2)
              have hfl : [mwHd k 0 i 0, tok, L].flatten.length ≤ 65536 := by
                have q1 := HU.out.2.2.2.2.2.2.1
                have q2 := HU.out.2.2.2.2.2.2.2.1
                simp only [List.flatten_cons, List.flatten_nil, List.length_append, List.length_nil, mwHd, List.length_cons]
                omega
              have hjn := join_any (some ⟨w2.heap.size + 1, 0, none⟩) 3 3 [mwHd k 0 i 0, tok, L] W3 _ p3 (Nat.le_refl _) (by omega) hfl
              have HJ := Lib.hid hB3
              clear d0 d1 d2 d3 d4 d5 d3a b3 p3 hB3
              refine hjn.mono ?_
              rintro e w4 ⟨u4, rfl, ho4, b4⟩
              obtain ⟨N4, hN4⟩ : ∃ N4, [mwHd k 0 i 0, tok, L].flatten.length = N4 := ⟨_, rfl⟩
              rw [hN4] at ho4 hfl
              obtain ⟨A4, c4', rfl, hc4, hb4⟩ := own_bs ho4
              have hm4 := row_cap ho4
              have B4 : Below (w.heap.size + 1) W0 w4 := HJ.out.trans (b4.mono (by have := HJ.out.size; have := HU.out.2.2.2.2.2.2.2.2.2.1; omega))
              have hsz4 : w.heap.size + 1 ≤ w4.heap.size := by have := B4.size; have := HU.out.2.2.2.2.2.2.2.2.2.1; omega
              obtain ⟨d0, d1, d2, d3, d4, d5⟩ := HU.out.2.2.2.1 w4 B4
              have d5a := fun o => (HU.out.2.2.2.1 (w4.alloc o) (B4.trans ((alloc_below w4 o).mono (by omega)))).2.2.2.2.2
              have H4 := Lib.hid (And.intro hb4 (And.intro hc4 (And.intro hm4 (And.intro B4 (And.intro hN4 hfl)))))
              clear hjn ho4 b4 hc4 hm4 hb4 B4 hN4 hfl
              go_wp2
              go_ret2
              rw [HU.out.2.2.2.2.1, if_pos (show ([] : List UInt8).length = 0 from rfl)]
              refine ⟨A4, N4, c4', rfl, ⟨H4.out.2.1, H4.out.2.2.1⟩, ?_, ?_, HU.out.2.2.2.2.2.2.2.2.2.2 w4 H4.out.2.2.2.1⟩
              · exact H4.out.2.2.2.2.1.symm
              · exact H4.out.1
        · rw [if_pos her] at hnl
          have HF := Lib.hid fun w' => @fin er w' hnl
          have hne : (er != 0) = true := bne_iff_ne.2 her
          have hL0 : L = [] := by
            have h := hwr
            unfold wrP at h
            split at h
            · injection h with _ h; exact absurd h.symm her
            · injection h with h _; exact h.symm
          have hcd : (cd == 0) = false := by
            rcases hcases with h | ⟨_, _, h, _⟩
            · exact h
            · have e : ps = [] := List.eq_nil_of_length_eq_zero (by omega)
              subst e
              have e2 : wrP [] = ([], 0) := by decide +kernel
              rw [e2] at hwr
              injection hwr with _ hwr
              exact absurd hwr.symm her
          have HU := Lib.hid (And.intro hus (And.intro hopt hbw0))
          have HW := Lib.hid hW0
          clear hm htl hol hbl hr0 hs0 hbw0 hW0 fin hrg hus r1 r2 r4 r5 rc0 rc1 h1 h1' h2 hwr hLl hopt her hnl hL0
          clear hcases
          iterate 1
            go_enter Try.func32, Try.ntmps32
            go_wp2_with fail
            rw [HW.out]
            refine HU.out.1.mono ?_
            rintro e w1 ⟨rfl, hw1⟩
            obtain rfl := hw1.symm
            go_wp2_with fail
            refine HU.out.2.1.mono ?_
            rintro e w2 ⟨A2, n2, c2', rfl, hc2, hn2, hb2, b2⟩
            have H2 := Lib.hid (HU.out.2.2.trans (b2.mono HU.out.2.2.size))
            clear hc2 hn2 hb2 b2
            try dsimp only
            go_wp2
            go_ret2
            exact HF.out _ H2.out
  · have hrf : rngB kd cd id = false := by cases e : rngB kd cd id with | true => exact absurd e hrg | false => rfl
    have HF := Lib.hid fun w' => @fin 1 w' (by unfold mwr; rw [if_pos (.inl hrf)])
    have hcs : kd < 0 ∨ (¬ kd < 0 ∧ 3 < kd) ∨ (¬ kd < 0 ∧ ¬ 3 < kd ∧ cd < 0) ∨ (¬ kd < 0 ∧ ¬ 3 < kd ∧ ¬ cd < 0 ∧ 255 < cd) ∨ (¬ kd < 0 ∧ ¬ 3 < kd ∧ ¬ cd < 0 ∧ ¬ 255 < cd ∧ id < 0) ∨ (¬ kd < 0 ∧ ¬ 3 < kd ∧ ¬ cd < 0 ∧ ¬ 255 < cd ∧ ¬ id < 0 ∧ 65535 < id)
        ∨ (¬ kd < 0 ∧ ¬ 3 < kd ∧ ¬ cd < 0 ∧ ¬ 255 < cd ∧ ¬ id < 0 ∧ ¬ 65535 < id) := by
      by_cases q1 : kd < 0
      · exact .inl q1
      · by_cases q2 : 3 < kd
        · exact .inr (.inl ⟨q1, q2⟩)
        · by_cases q3 : cd < 0
          · exact .inr (.inr (.inl ⟨q1, q2, q3⟩))
          · by_cases q4 : 255 < cd
            · exact .inr (.inr (.inr (.inl ⟨q1, q2, q3, q4⟩)))
            · by_cases q5 : id < 0
              · exact .inr (.inr (.inr (.inr (.inl ⟨q1, q2, q3, q4, q5⟩))))
              · by_cases q6 : 65535 < id
                · exact .inr (.inr (.inr (.inr (.inr (.inl ⟨q1, q2, q3, q4, q5, q6⟩)))))
                · exact .inr (.inr (.inr (.inr (.inr (.inr ⟨q1, q2, q3, q4, q5, q6⟩)))))
    have hus : 0 ≤ cd → cd ≤ 255 → ¬ kd < 0 → ¬ 3 < kd → ¬ id < 0 → ¬ 65535 < id → Calls Try.prog 68 #[.int .i64 cd] W0 fun e w' => e = .returned (.bool false) ∧ w' = W0 := fun a b a1 a2 a3 a4 => by
      have h := used_f cd a b W0
      have : codeB cd = false := by
        cases e : codeB cd with
        | false => rfl
        | true =>
          have h1 := (codeB_iff cd).1 e
          unfold rngB at hrf
          exact absurd ⟨Int.not_lt.1 a1, Int.not_lt.1 a2, h1, Int.not_lt.1 a3, Int.not_lt.1 a4⟩ (of_decide_eq_false hrf)
      rwa [this] at h
    obtain ⟨c0, c1, c2, c3, c4, c5⟩ := six hr0
    have HU := Lib.hid (And.intro hus hbw0)
    have HW := Lib.hid hW0
    clear hm htl hol hbl hr0 hs0 hbw0 hW0 fin hrg hrf hus
    rcases hcs with k1 | ⟨k1, k2⟩ | ⟨k1, k2, k3⟩ | ⟨k1, k2, k3, k4⟩ | ⟨k1, k2, k3, k4, k5⟩ | ⟨k1, k2, k3, k4, k5, k6⟩ | ⟨k1, k2, k3, k4, k5, k6⟩
    iterate 6
      · go_enter Try.func32, Try.ntmps32
        go_wp2
        go_ret2
        rw [HW.out]
        exact HF.out _ HU.out.2
    · go_enter Try.func32, Try.ntmps32
      go_wp2_with fail
      rw [HW.out]
      refine (HU.out.1 (by omega) (by omega) (by omega) (by omega) (by omega) (by omega)).mono ?_
      rintro e w1 ⟨rfl, hw1⟩
      obtain rfl := hw1.symm
      go_wp2
      go_ret2
      exact HF.out _ HU.out.2
end Go.Proofs.Ytihicplembaoeaa
