/-
  Messages written as bytes.
-/
import Derived.Test.YtfbddldcbjhmiaaMsg
import Derived.Test.YtfbddldcbjhmiaaOptWritesLaw
namespace Go.Proofs.Ytfbddldcbjhmiaa
open Go.RowKit
set_option maxRecDepth 100000
set_option linter.unusedVariables false
def mwHd (k c i tn : Nat) : List UInt8 := [UInt8.ofNat (64 + 16 * k + tn), UInt8.ofNat c, UInt8.ofNat (i / 256), UInt8.ofNat (i % 256)]
def mwr (kd cd id : Int) (tok : List UInt8) (ps : List (Int × List UInt8)) (body : List UInt8) : List UInt8 × Int :=
  if rngB kd cd id = false ∨ (cd = 0 ∧ 0 < tok.length + ps.length + body.length) then ([], 1)
  else if 8 < tok.length ∨ 1200 < body.length then ([], 2)
  else if (wrP ps).2 ≠ 0 then ([], (wrP ps).2)
  else (mwHd kd.toNat cd.toNat id.toNat tok.length ++ (tok ++ ((wrP ps).1 ++ (if body.length = 0 then [] else 255 :: body))), 0)
theorem or_head : ∀ k : Nat, k < 4 → ∀ t : Nat, t < 9 → bits .or .u8 (bits .or .u8 64 ((k : Int) * 16)) (t : Int) = ((64 + 16 * k + t : Nat) : Int) := by decide +kernel
/-- A message's slices as they lie. -/
structure Ms (w : World) (B : Nat) (tA : Option Addr) (tn : Nat) (oA : Option Addr) (on : Nat) (vs : List Sv) (bA : Option Addr) (bn : Nat) (tok : List UInt8) (ps : List (Int × List UInt8)) (body : List UInt8) : Prop where
  t : Bs w B tA tn tok
  o : Os w B oA on vs ps
  b : Bs w B bA bn body
theorem Ms.below {w w' : World} {B : Nat} {tA oA bA : Option Addr} {tn on bn : Nat} {vs : List Sv} {tok body : List UInt8} {ps : List (Int × List UInt8)} (h : Ms w B tA tn oA on vs bA bn tok ps body) (hb : Below B w w') : Ms w' B tA tn oA on vs bA bn tok ps body := ⟨h.t.below hb, h.o.below hb, h.b.below hb⟩
theorem Ms.more {w : World} {B B' : Nat} {tA oA bA : Option Addr} {tn on bn : Nat} {vs : List Sv} {tok body : List UInt8} {ps : List (Int × List UInt8)} (h : Ms w B tA tn oA on vs bA bn tok ps body) (hB : B ≤ B') : Ms w B' tA tn oA on vs bA bn tok ps body := ⟨h.t.more hB, h.o.more hB, h.b.more hB⟩
theorem six {W : World} {b : Nat} {v0 v1 v2 v3 v4 v5 : Value} (h : W.rangeAt b 0 [v0, v1, v2, v3, v4, v5]) : W.cell? ⟨b, 0, none⟩ = some v0 ∧ W.cell? ⟨b, 1, none⟩ = some v1 ∧ W.cell? ⟨b, 2, none⟩ = some v2 ∧ W.cell? ⟨b, 3, none⟩ = some v3 ∧ W.cell? ⟨b, 4, none⟩ = some v4 ∧ W.cell? ⟨b, 5, none⟩ = some v5 :=
  ⟨h 0 _ rfl, h 1 _ rfl, h 2 _ rfl, h 3 _ rfl, h 4 _ rfl, h 5 _ rfl⟩
set_option maxHeartbeats 4000000 in
theorem mwrite_f (kd cd id : Int) (tA : Option Addr) (tn tc : Nat) (oA : Option Addr) (on oc : Nat) (bA : Option Addr) (bn bc : Nat) (vs : List Sv) (tok : List UInt8) (ps : List (Int × List UInt8)) (body : List UInt8) (w : World) (hm : Ms w w.heap.size tA tn oA on vs bA bn tok ps body)
    (htn : tn ≤ 100) (hon : on ≤ 40) (hbn : bn ≤ 2000) :
    Calls Try.prog 10 #[.agg #[.int .i64 kd, .int .i64 cd, .int .i64 id, .slice tA tn tc, .slice oA on oc, .slice bA bn bc]] w (WrRet (mwr kd cd id tok ps body) w) := by
  obtain ⟨i0, hi0, hz0, hz1, hz2⟩ := info_parts info_u8
  have htl := hm.t.len
  have hol := hm.o.plen
  have hbl := hm.b.len
  have htI : (tn : Int) ≤ 100 := by omega
  have hoI : (on : Int) ≤ 40 := by omega
  have hbI : (bn : Int) ≤ 2000 := by omega
  obtain ⟨W0, hW0⟩ : ∃ W0, w.alloc (.cells #[.int .i64 kd, .int .i64 cd, .int .i64 id, .slice tA tn tc, .slice oA on oc, .slice bA bn bc] 38) = W0 := ⟨_, rfl⟩
  have hr0 : W0.rangeAt w.heap.size 0 [.int .i64 kd, .int .i64 cd, .int .i64 id, .slice tA tn tc, .slice oA on oc, .slice bA bn bc] := hW0 ▸ range_newA w _ 38 rfl
  have hs0 : W0.heap.size = w.heap.size + 1 := by rw [← hW0, alloc_size]
  have hbw0 : Below w.heap.size w W0 := hW0 ▸ alloc_below w _
  have hrg : ∀ W, Below (w.heap.size + 1) W0 W → W.rangeAt w.heap.size 0 [.int .i64 kd, .int .i64 cd, .int .i64 id, .slice tA tn tc, .slice oA on oc, .slice bA bn bc] := fun W h => range_below hr0 h (by omega)
  have hin := inRange_f kd cd id tA tn tc oA on oc bA bn bc W0
  obtain ⟨rg, hrgb⟩ : ∃ rg, rngB kd cd id = rg := ⟨_, rfl⟩
  rw [hrgb, hs0] at hin
  have fin : ∀ {er : Int} {w' : World}, mwr kd cd id tok ps body = ([], er) → Below (w.heap.size + 1) W0 w' → WrRet (mwr kd cd id tok ps body) w (.returned (.tuple #[.slice none 0 0, .int .i64 er])) w' := fun h b => by rw [h]; exact WrRet.nil (hbw0.trans (b.mono (by omega)))
  obtain ⟨c0, c1, c2, c3, c4, c5⟩ := six hr0
  have HG := Lib.hid (And.intro hrg (And.intro hin (And.intro hbw0 hs0)))
  have HW0 := Lib.hid hW0
  cases rg with
  | false =>
    have HF := Lib.hid fun w' => @fin 1 w' (by unfold mwr; rw [if_pos (.inl hrgb)])
    clear hm htl hol hbl hrg hin fin hrgb hr0 hs0 hbw0
    go_enter Try.func10, Try.ntmps10
    go_wp2_with fail
    refine HG.out.2.1.mono ?_
    rintro e w1 ⟨rfl, b1⟩
    have H1 := Lib.hid b1
    clear b1
    go_wp2
    go_ret2
    exact HF.out _ H1.out
  | true => 
    have hgo : ∀ w1, Below (w.heap.size + 1) W0 w1 → w1.cell? ⟨w.heap.size, 0, none⟩ = some (.int .i64 kd) ∧ w1.cell? ⟨w.heap.size, 1, none⟩ = some (.int .i64 cd) ∧ w1.cell? ⟨w.heap.size, 2, none⟩ = some (.int .i64 id) ∧ w1.cell? ⟨w.heap.size, 3, none⟩ = some (.slice tA tn tc) ∧ w1.cell? ⟨w.heap.size, 4, none⟩ = some (.slice oA on oc) ∧ w1.cell? ⟨w.heap.size, 5, none⟩ = some (.slice bA bn bc) := fun w1 h => six (hrg w1 h)
    by_cases h1 : cd = 0 ∧ 0 < tn + on + bn
    · have HF := Lib.hid fun w' => @fin 1 w' (by unfold mwr; rw [if_pos (.inr (by omega))])
      obtain ⟨h1a, h1b⟩ := h1
      have h1I : (0 : Int) < (tn : Int) + on + bn := by omega
      have HO := Lib.hid hgo
      clear hm htl hol hbl hrg hin fin hrgb hr0 hs0 hbw0 hgo
      subst h1a
      go_enter Try.func10, Try.ntmps10
      go_wp2_with fail
      refine HG.out.2.1.mono ?_
      rintro e w1 ⟨rfl, b1⟩
      obtain ⟨d0, d1, d2, d3, d4, d5⟩ := HO.out w1 b1
      have H1 := Lib.hid b1
      clear b1 c0 c1 c2 c3 c4 c5
      go_wp2
      go_ret2
      exact HF.out _ H1.out
    · have h1' : cd = 0 → tn + on + bn = 0 := fun e => by omega
      by_cases h2 : 8 < tn ∨ 1200 < bn
      · have HF := Lib.hid fun w' => @fin 2 w' (by unfold mwr; rw [if_neg (by rintro (e | e); rw [hrgb] at e; cases e; omega), if_pos (by omega)])
        have hcd : (cd == 0) = false := by
          simp only [beq_eq_false_iff_ne, ne_eq]
          omega
        have h2I : (8 : Int) < tn ∨ (¬ (8 : Int) < tn ∧ (1200 : Int) < bn) := by omega
        have HO := Lib.hid hgo
        clear hm htl hol hbl hrg hin fin hrgb hr0 hs0 hbw0 hgo h1 h1' h2
        go_enter Try.func10, Try.ntmps10
        go_wp2_with fail
        refine HG.out.2.1.mono ?_
        rintro e w1 ⟨rfl, b1⟩
        obtain ⟨d0, d1, d2, d3, d4, d5⟩ := HO.out w1 b1
        have H1 := Lib.hid b1
        clear b1 c0 c1 c2 c3 c4 c5
        rcases h2I with h2I | ⟨h2I, h2J⟩
        all_goals
          go_wp2
          go_ret2
          exact HF.out _ H1.out
      · obtain ⟨⟨L, er⟩, hwr⟩ : ∃ r, wrP ps = r := ⟨_, rfl⟩
        have hLl := wrP_len ps
        have hopt := fun W (b : Below (w.heap.size + 1) W0 W) => writep_f oA on oc vs ps W w.heap.size (hm.o.below (hbw0.trans (b.mono (by omega)))) (by have := b.size; omega) (by omega)
        rw [hwr] at hLl hopt
        dsimp only at hLl
        have htn8 : (tn : Int) ≤ 8 := by omega
        have hbn12 : (bn : Int) ≤ 1200 := by omega
        by_cases her : er = 0
        · subst her
          have hrr : 0 ≤ kd ∧ kd ≤ 3 ∧ ((0 ≤ cd ∧ cd ≤ 31) ∨ (64 ≤ cd ∧ cd ≤ 191)) ∧ 0 ≤ id ∧ id ≤ 65535 := by
            unfold rngB at hrgb
            exact of_decide_eq_true hrgb
          obtain ⟨r1, r2, r3, r4, r5⟩ := hrr
          obtain ⟨k, rfl⟩ := Int.eq_ofNat_of_zero_le r1
          obtain ⟨cc, rfl⟩ := Int.eq_ofNat_of_zero_le (show 0 ≤ cd by omega)
          obtain ⟨i, rfl⟩ := Int.eq_ofNat_of_zero_le r4
          have hcases : (((cc : Int) == 0) = false) ∨ (((cc : Int) == 0) = true ∧ ¬ (0 : Int) < (tn : Int) + on + bn) := by
            by_cases e : cc = 0
            · exact .inr ⟨by simp [e], by have := h1' (by omega); omega⟩
            · exact .inl (by simp; omega)
          have hfin : mwr (k : Int) (cc : Int) (i : Int) tok ps body = (mwHd k cc i tn ++ (tok ++ (L ++ (if body.length = 0 then [] else 255 :: body))), 0) := by
            unfold mwr
            rw [if_neg (by rintro (e | e); rw [hrgb] at e; cases e; omega), if_neg (by omega), hwr, if_neg (by simp), htl]
            rfl
          obtain ⟨hb, hhb⟩ : ∃ hb : Nat, hb = 64 + 16 * k + tn := ⟨_, rfl⟩
          have hor := or_head k (by omega) tn (by omega)
          rw [← hhb] at hor
          obtain ⟨i1, hi1⟩ : ∃ i1 : Nat, i1 = i / 256 := ⟨_, rfl⟩
          obtain ⟨i2, hi2⟩ : ∃ i2 : Nat, i2 = i % 256 := ⟨_, rfl⟩
          have hi1I : (i : Int) / 256 = (i1 : Int) := by omega
          have hi2I : (i : Int) % 256 = (i2 : Int) := by omega
          have hi1b : (i1 : Int) < 256 := by omega
          have hi2b : (i2 : Int) < 256 := by omega
          have hkb : (k : Int) ≤ 3 := r2
          have hccb : (cc : Int) ≤ 191 := by omega
          have hib : (i : Int) ≤ 65535 := r5
          have hcs : ∀ cs : Array Value, cs = #[.int .u8 (hb : Int), .int .u8 (cc : Int), .int .u8 (i1 : Int), .int .u8 (i2 : Int)] → cs.toList = U8 (mwHd k cc i tn) := by
            rintro cs rfl
            simp only [U8, mwHd, List.map_cons, List.map_nil]
            rw [nbyte (by omega), nbyte (by omega), nbyte (by omega), nbyte (by omega), hhb, hi1, hi2]
          have HO := Lib.hid (And.intro hgo (And.intro hopt (And.intro hm (And.intro hbw0 (And.intro hs0 (And.intro htl (And.intro hbl (And.intro hfin (And.intro hcs hLl)))))))))
          clear hm htl hol hbl hrg hin fin hrgb hr0 hs0 hbw0 hgo h1 h1' h2 hwr hLl hopt r1 r2 r3 r4 r5 hfin hhb hi1 hi2 hcs
          have hbcase : (bn = 0 ∧ body = []) ∨ ((0 : Int) < bn ∧ ¬ body.length = 0) := by
            by_cases e : bn = 0
            · exact .inl ⟨e, List.eq_nil_of_length_eq_zero (by have := HO.out.2.2.2.2.2.2.1; omega)⟩
            · exact .inr ⟨by omega, by have := HO.out.2.2.2.2.2.2.1; omega⟩
          rcases hcases with hcd | ⟨hcd, hsum⟩
          all_goals
            go_enter Try.func10, Try.ntmps10
            go_wp2_with fail
            refine HG.out.2.1.mono ?_
            rintro e w1 ⟨rfl, b1⟩
            obtain ⟨d0, d1, d2, d3, d4, d5⟩ := HO.out.1 w1 b1
            have H1 := Lib.hid b1
            clear b1 c0 c1 c2 c3 c4 c5
            go_wp2_with fail
            refine (HO.out.2.1 w1 H1.out).mono ?_
            rintro e w2 ⟨A2, n2, c2, rfl, hc2, hn2, hb2, b2⟩
            have hs1 := HG.out.2.2.2
            have B2 : Below (w.heap.size + 1) W0 w2 := H1.out.trans (b2.mono (by have := H1.out.size; omega))
            obtain ⟨d0, d1, d2, d3, d4, d5⟩ := HO.out.1 w2 B2
            have hbk : w.heap.size < w2.heap.size := by have := B2.size; omega
            have hms : Ms w2 w2.heap.size tA tn oA on vs bA bn tok ps body := (HO.out.2.2.1.below (HO.out.2.2.2.1.trans (B2.mono (by omega)))).more (by omega)
            have hn2I : (n2 : Int) ≤ 7320 := by have h1 := hn2.out; have h2 := HO.out.2.2.2.2.2.2.2.2.2; dsimp only at h1; omega
            have H2 := Lib.hid (And.intro hb2 (And.intro hn2.out (And.intro B2 hms)))
            clear hn2 hb2 b2 B2 hs1 hc2 hms
            try dsimp only
            rcases hbcase with ⟨rfl, rfl⟩ | ⟨hb0, hbne⟩
            · go_wp2_with (first
                | (at_builtin
                   refine wpList_append_bs _ rfl (.tmp 69) (.tmp 71) 22 rfl w2.heap.size 5 i0 Try.underlying22 hi0 hz0 hz1 hz2 _ 4 _ rfl (own_lit w2 _ (mwHd k cc i tn) (HO.out.2.2.2.2.2.2.2.2.1 _ rfl) (by simp [mwHd])) w2.heap.size tA tn _ tok rfl (H2.out.2.2.2.t.below (alloc_below w2 _)) (by omega) (by rw [alloc_size]; omega) ?_
                   intro v3 w3 ho3 hg3
                   have b3 : Below w2.heap.size w2 w3 := (alloc_below w2 _).grown hg3 (by rw [alloc_size]; omega) (own_ge (own_lit w2 _ (mwHd k cc i tn) (HO.out.2.2.2.2.2.2.2.2.1 _ rfl) (by simp [mwHd])))
                   have hs3 := b3.size
                   have H3 := Lib.hid (And.intro ho3 b3)
                   clear ho3 hg3 b3)
                | (at_builtin
                   refine wpList_append_bs _ rfl (.tmp 73) (.tmp 74) 22 rfl w2.heap.size 5 i0 Try.underlying22 hi0 hz0 hz1 hz2 _ (4 + tn) _ rfl H3.out.1 w2.heap.size A2 n2 _ L rfl (H2.out.1.below H3.out.2) (by omega) (by omega) ?_
                   intro v4 w4 ho4 hg4
                   have b4 : Below w2.heap.size w2 w4 := H3.out.2.grown hg4 H3.out.2.size (own_ge H3.out.1)
                   have hs4 := b4.size
                   obtain ⟨g0, g1, g2, g3, g4, g5⟩ := HO.out.1 w4 (H2.out.2.2.1.trans (b4.mono (by omega)))
                   have H4 := Lib.hid (And.intro ho4 b4)
                   clear ho4 hg4 b4 d0 d1 d2 d3 d4 d5)
                | (at_builtin
                   refine wpList_append_bs _ rfl (.tmp 83) (.tmp 85) 22 rfl w2.heap.size 5 i0 Try.underlying22 hi0 hz0 hz1 hz2 _ (4 + tn + n2) _ rfl H4.out.1 w2.heap.size bA 0 _ [] rfl (H2.out.2.2.2.b.below H4.out.2) (by omega) (by omega) ?_
                   intro v6 w6 ho6 hg6
                   have b6 : Below w2.heap.size w2 w6 := H4.out.2.grown hg6 H4.out.2.size (own_ge H4.out.1)
                   have hU : U8 (mwHd k cc i tn) ++ U8 tok ++ U8 L ++ U8 [] = U8 (mwHd k cc i tn ++ (tok ++ (L ++ []))) := by simp only [U8_append, List.append_assoc]
                   have ho6' := ho6
                   rw [hU] at ho6'
                   obtain ⟨A6, c6, rfl, hc6, hb6⟩ := own_bs ho6'
                   have H6 := Lib.hid (And.intro hb6 (And.intro hc6 (And.intro (row_cap ho6) b6)))
                   clear ho6 ho6' hg6 b6 hb6 hc6 hU))
              go_ret2
              rw [HO.out.2.2.2.2.2.2.2.1, if_pos (show ([] : List UInt8).length = 0 from rfl)]
              refine ⟨A6, _, c6, rfl, ⟨H6.out.2.1, H6.out.2.2.1⟩, ?_, H6.out.1, HO.out.2.2.2.1.trans ((H2.out.2.2.1.trans (H6.out.2.2.2.mono (by omega))).mono (by omega))⟩
              have h1 := HO.out.2.2.2.2.2.1
              have h2 := H2.out.2.1
              show _ = _
              simp only [List.length_append, mwHd, List.length_cons, List.length_nil] at h2 ⊢
              omega
            · try (exfalso; omega)
              all_goals
                go_wp2_with (first
                  | (at_builtin
                     refine wpList_append_bs _ rfl (.tmp 69) (.tmp 71) 22 rfl w2.heap.size 5 i0 Try.underlying22 hi0 hz0 hz1 hz2 _ 4 _ rfl (own_lit w2 _ (mwHd k cc i tn) (HO.out.2.2.2.2.2.2.2.2.1 _ rfl) (by simp [mwHd])) w2.heap.size tA tn _ tok rfl (H2.out.2.2.2.t.below (alloc_below w2 _)) (by omega) (by rw [alloc_size]; omega) ?_
                     intro v3 w3 ho3 hg3
                     have b3 : Below w2.heap.size w2 w3 := (alloc_below w2 _).grown hg3 (by rw [alloc_size]; omega) (own_ge (own_lit w2 _ (mwHd k cc i tn) (HO.out.2.2.2.2.2.2.2.2.1 _ rfl) (by simp [mwHd])))
                     have hs3 := b3.size
                     have H3 := Lib.hid (And.intro ho3 b3)
                     clear ho3 hg3 b3)
                  | (at_builtin
                     refine wpList_append_bs _ rfl (.tmp 73) (.tmp 74) 22 rfl w2.heap.size 5 i0 Try.underlying22 hi0 hz0 hz1 hz2 _ (4 + tn) _ rfl H3.out.1 w2.heap.size A2 n2 _ L rfl (H2.out.1.below H3.out.2) (by omega) (by omega) ?_
                     intro v4 w4 ho4 hg4
                     have b4 : Below w2.heap.size w2 w4 := H3.out.2.grown hg4 H3.out.2.size (own_ge H3.out.1)
                     have hs4 := b4.size
                     obtain ⟨g0, g1, g2, g3, g4, g5⟩ := HO.out.1 w4 (H2.out.2.2.1.trans (b4.mono (by omega)))
                     have H4 := Lib.hid (And.intro ho4 b4)
                     have HR4 := Lib.hid (ho4.alloc (.cells #[.int .u8 255] 5))
                     clear ho4 hg4 b4 d0 d1 d2 d3 d4 d5)
                  | (at_builtin
                     refine wpList_append_bs _ rfl (.tmp 80) (.tmp 81) 22 rfl w2.heap.size 5 i0 Try.underlying22 hi0 hz0 hz1 hz2 _ (4 + tn + n2) _ rfl HR4.out (w4.heap.size + 1) (some ⟨w4.heap.size, 0, none⟩) 1 _ [255] rfl (Bs.lit_ w4 5 _ _ [255] rfl) (by omega) (by rw [alloc_size]; omega) ?_
                     intro v5 w5 ho5 hg5
                     have b5 : Below w2.heap.size w2 w5 := (H4.out.2.alloc H4.out.2.size (.cells #[.int .u8 255] 5)).grown hg5 (by rw [alloc_size]; omega) (own_ge HR4.out)
                     have hs5 := b5.size
                     obtain ⟨k0, k1, k2, k3, k4, k5⟩ := HO.out.1 w5 (H2.out.2.2.1.trans (b5.mono (by omega)))
                     have H5 := Lib.hid (And.intro ho5 b5)
                     clear ho5 hg5 b5 g0 g1 g2 g3 g4 g5)
                  | (at_builtin
                     refine wpList_append_bs _ rfl (.tmp 83) (.tmp 85) 22 rfl w2.heap.size 5 i0 Try.underlying22 hi0 hz0 hz1 hz2 _ (4 + tn + n2 + 1) _ rfl H5.out.1 w2.heap.size bA bn _ body rfl (H2.out.2.2.2.b.below H5.out.2) (by omega) (by omega) ?_
                     intro v6 w6 ho6 hg6
                     have b6 : Below w2.heap.size w2 w6 := H5.out.2.grown hg6 H5.out.2.size (own_ge H5.out.1)
                     have hU : U8 (mwHd k cc i tn) ++ U8 tok ++ U8 L ++ U8 [255] ++ U8 body = U8 (mwHd k cc i tn ++ (tok ++ (L ++ 255 :: body))) := by
                       rw [show (255 : UInt8) :: body = [255] ++ body from rfl]
                       simp only [U8_append, List.append_assoc]
                     have ho6' := ho6
                     rw [hU] at ho6'
                     obtain ⟨A6, c6, rfl, hc6, hb6⟩ := own_bs ho6'
                     have H6 := Lib.hid (And.intro hb6 (And.intro hc6 (And.intro (row_cap ho6) b6)))
                     clear ho6 ho6' hg6 b6 hb6 hc6 hU))
                go_ret2
                rw [HO.out.2.2.2.2.2.2.2.1, if_neg hbne]
                refine ⟨A6, _, c6, rfl, ⟨H6.out.2.1, H6.out.2.2.1⟩, ?_, H6.out.1, HO.out.2.2.2.1.trans ((H2.out.2.2.1.trans (H6.out.2.2.2.mono (by omega))).mono (by omega))⟩
                have h1 := HO.out.2.2.2.2.2.1
                have h2 := H2.out.2.1
                have h3 := HO.out.2.2.2.2.2.2.1
                show _ = _
                simp only [List.length_append, mwHd, List.length_cons, List.length_nil] at h2 ⊢
                omega
        · have hfin : mwr kd cd id tok ps body = ([], er) := by
            unfold mwr
            rw [if_neg (by rintro (e | e); rw [hrgb] at e; cases e; omega), if_neg (by omega), hwr, if_pos her]
          have hL0 : L = [] := by
            have h := hwr
            unfold wrP at h
            split at h
            · injection h with _ h; exact absurd h.symm her
            · injection h with h _; exact h.symm
          have hne : (er != 0) = true := bne_iff_ne.2 her
          have hcases : ((cd == 0) = false) ∨ ((cd == 0) = true ∧ ¬ (0 : Int) < (tn : Int) + on + bn) := by
            by_cases e : cd = 0
            · exact .inr ⟨by simpa using e, by have := h1' e; omega⟩
            · exact .inl (by simpa using e)
          have HF := Lib.hid fun w' => @fin er w' hfin
          have HO := Lib.hid (And.intro hgo hopt)
          clear hm htl hol hbl hrg hin fin hrgb hr0 hs0 hbw0 hgo h1 h1' h2 hwr hLl hopt hfin her hL0
          go_enter Try.func10, Try.ntmps10
          go_wp2_with fail
          refine HG.out.2.1.mono ?_
          rintro e w1 ⟨rfl, b1⟩
          obtain ⟨d0, d1, d2, d3, d4, d5⟩ := HO.out.1 w1 b1
          have H1 := Lib.hid b1
          clear b1 c0 c1 c2 c3 c4 c5
          rcases hcases with hcd | ⟨hcd, hsum⟩
          all_goals
            go_wp2_with fail
            refine (HO.out.2 w1 H1.out).mono ?_
            rintro e w2 ⟨A2, n2, c2, rfl, hc2, hn2, hb2, b2⟩
            have H2 : Hid (Below (w.heap.size + 1) W0 w2) := Lib.hid (H1.out.trans (b2.mono (by have := H1.out.size; have := HG.out.2.2.2; omega)))
            clear hn2 hb2 b2 hc2
            try dsimp only
            go_wp2
            go_ret2
            exact HF.out _ H2.out
end Go.Proofs.Ytfbddldcbjhmiaa
