/-
  MsgBack: what is written is read as it, its options sorted, and written again as the same bytes.
-/
import Derived.Test.YtihicplembaoeaaMsgWritesLaw
import Derived.Test.YtihicplembaoeaaMsgRound
import Derived.Test.YtihicplembaoeaaMsgSame2
namespace Go.Proofs.Ytihicplembaoeaa
open Go.RowKit
set_option maxRecDepth 100000
set_option linter.unusedVariables false
theorem cell_set1 {w : World} {R j : Nat} {v : Value} {x : Addr} (h : x ≠ ⟨R, j, none⟩) : (w.setCell ⟨R, j, none⟩ v).cell? x = w.cell? x := by
  have := World.cell?_setCells_out R [v] j w x (fun hb hs => by
    obtain ⟨b, o, s⟩ := x
    dsimp only at hb hs
    subst hb hs
    have : o ≠ j := fun e => h (by rw [e])
    simp only [List.length_cons, List.length_nil]
    show o < j ∨ j + (0 + 1) ≤ o
    omega)
  exact this
theorem Bs.set1 {w : World} {B n R j : Nat} {A : Option Addr} {l : List UInt8} {a : Option Addr} {b c : Nat} (h : Bs w B A n l) (hc : w.cell? ⟨R, j, none⟩ = some (.slice a b c)) (v : Value) : Bs (w.setCell ⟨R, j, none⟩ v) B A n l :=
  ⟨h.len, fun hn => by
    obtain ⟨b', off, e, hb, hk⟩ := h.place hn
    refine ⟨b', off, e, hb, fun k u hu => ?_⟩
    rw [cell_set1 (fun e => by have := hk k u hu; rw [e, hc] at this; cases this)]
    exact hk k u hu⟩
theorem Os.set1 {w : World} {B n R j : Nat} {A : Option Addr} {vs : List Sv} {ps : List (Int × List UInt8)} {a a' : Option Addr} {b c b' c' : Nat} (h : Os w B A n vs ps) (hc : w.cell? ⟨R, j + 1, none⟩ = some (.slice a b c)) (hc' : w.cell? ⟨R, j, none⟩ = some (.slice a' b' c')) (v : Value) :
    Os (w.setCell ⟨R, j + 1, none⟩ v) B A n vs ps := by
  refine ⟨⟨h.sh.len, fun hn => ?_⟩, fun s hs => ?_, ?_⟩
  · obtain ⟨bb, off, e, hb, hk⟩ := h.sh.place hn
    refine ⟨bb, off, e, hb, fun i s hs => ?_⟩
    obtain ⟨q1, q2⟩ := hk i s hs
    refine ⟨?_, ?_⟩
    · rw [cell_set1 (fun e => by rw [e, hc] at q1; cases q1)]; exact q1
    · rw [cell_set1 (fun e => by
        injection e with e1 e2
        have : off + i * 2 = j := by omega
        rw [e1, this, hc'] at q1; cases q1)]
      exact q2
  · have q := h.dp s hs
    exact (SvAt.mk_ (q.bs.set1 hc v) q.cap q.max).1
  · rw [← h.eq]
    refine List.map_congr_left fun s hs => ?_
    have q := h.dp s hs
    exact (SvAt.mk_ (q.bs.set1 hc v) q.cap q.max).2
theorem mwr_sorted {kd cd id : Int} {tok : List UInt8} {ps : List (Int × List UInt8)} {body : List UInt8} (h : (mwr kd cd id tok ps body).2 = 0) : mwr kd cd id tok (sortP ps) body = mwr kd cd id tok ps body := by
  obtain ⟨_, _, _, _, he, _⟩ := mwr_ok h
  obtain ⟨_, _, h1, h2⟩ := wrP_sorted he
  unfold mwr
  rw [h1, h2, sortP_len]
theorem mwr_err {kd cd id : Int} {tok : List UInt8} {ps : List (Int × List UInt8)} {body : List UInt8} (h : (mwr kd cd id tok ps body).2 ≠ 0) : (mwr kd cd id tok ps body).1 = [] := by
  unfold mwr at h ⊢
  split
  · rfl
  · rename_i h1
    rw [if_neg h1] at h
    split
    · rfl
    · rename_i h2
      rw [if_neg h2] at h
      split
      · rfl
      · rename_i h3
        rw [if_neg h3] at h
        exact absurd rfl h
theorem sniff_mw {kd cd id : Int} {tok : List UInt8} {ps : List (Int × List UInt8)} {body : List UInt8} (h : (mwr kd cd id tok ps body).2 = 0) : sniffP (mwr kd cd id tok ps body).1 = (kd, id, true) := by
  obtain ⟨hr, h0, h1, h2, he, hm⟩ := mwr_ok h
  obtain ⟨r1, r2, r3, r4, r5⟩ := rngB_true hr
  rw [hm]
  have hc0 : 0 ≤ cd ∧ cd ≤ 191 := by rcases r3 with h | h <;> omega
  obtain ⟨k, rfl⟩ := Int.eq_ofNat_of_zero_le r1
  obtain ⟨c, rfl⟩ := Int.eq_ofNat_of_zero_le hc0.1
  obtain ⟨i, rfl⟩ := Int.eq_ofNat_of_zero_le r4
  clear h0 hr he hm h r3
  show sniffP (mwHd k c i tok.length ++ (tok ++ ((wrF (sortP ps)).1 ++ (if body.length = 0 then [] else 255 :: body)))) = _
  obtain ⟨b0, b1, b2, b3, hd, hl⟩ := mw_head (k := k) (c := c) (i := i) (t := tok.length) (by omega) (by omega) (by omega) h1 (tok ++ ((wrF (sortP ps)).1 ++ (if body.length = 0 then [] else 255 :: body)))
  unfold sniffP
  rw [b0, b2, b3, hl, if_pos ⟨by omega, by omega⟩, show (64 + 16 * k + tok.length) / 16 % 4 = k by omega, show i / 256 * 256 + i % 256 = i by omega]
/-- What each operation of the line that compares twice leaves. -/
def BkR (m1 m2 : Value) (q : Bool) (i : Nat) (w : World) (v : Value) : Prop :=
  match i with
  | 0 | 3 | 8 | 9 => v = m1
  | 1 | 4 => v = m2
  | 2 | 5 => v = .bool q
  | 10 => v = .bool true
  | _ => v = .bool false
set_option maxHeartbeats 4000000 in
theorem mback_law (kd cd id : Int) (tA : Option Addr) (tn tc : Nat) (oA : Option Addr) (on oc : Nat) (bA : Option Addr) (bn bc : Nat) (vs : List Sv) (tok : List UInt8) (ps : List (Int × List UInt8)) (body : List UInt8)
    (kd' cd' id' : Int) (tA' : Option Addr) (tn' tc' : Nat) (oA' : Option Addr) (on' oc' : Nat) (bA' : Option Addr) (bn' bc' : Nat) (vs' : List Sv) (tok' : List UInt8) (ps' : List (Int × List UInt8)) (body' : List UInt8) (w : World)
    (hm : Ms w w.heap.size tA tn oA on vs bA bn tok ps body) (hon : on ≤ maxLen) (hm' : Ms w w.heap.size tA' tn' oA' on' vs' bA' bn' tok' ps' body') (hon' : on' ≤ maxLen) :
    Calls Try.prog 11 #[.agg #[.int .i64 kd, .int .i64 cd, .int .i64 id, .slice tA tn tc, .slice oA on oc, .slice bA bn bc], .agg #[.int .i64 kd', .int .i64 cd', .int .i64 id', .slice tA' tn' tc', .slice oA' on' oc', .slice bA' bn' bc']] w fun e w' => e = .returned (.bool true) ∧ Below w.heap.size w w' := by
  obtain ⟨W0, hW0⟩ : ∃ W0, (w.alloc (.cells #[.int .i64 kd, .int .i64 cd, .int .i64 id, .slice tA tn tc, .slice oA on oc, .slice bA bn bc] 51)).alloc (.cells #[.int .i64 kd', .int .i64 cd', .int .i64 id', .slice tA' tn' tc', .slice oA' on' oc', .slice bA' bn' bc'] 51) = W0 := ⟨_, rfl⟩
  have hs0 : W0.heap.size = w.heap.size + 2 := by rw [← hW0, alloc_size, alloc_size]
  have hb0 : Below w.heap.size w W0 := by rw [← hW0]; exact ((Below.refl _ _).alloc (Nat.le_refl _) _).alloc (by rw [alloc_size]; omega) _
  have hcs : ∀ W, Below W0.heap.size W0 W → _ := fun W (hb : Below W0.heap.size W0 W) => six2 (W := W) (hW0 ▸ (hs0 ▸ hb : Below (w.heap.size + 2) W0 W))
  have hms := fun W (hb : Below W0.heap.size W0 W) => And.intro ((hm.below (hb0.trans (hb.mono (by omega)))).more (show w.heap.size ≤ W.heap.size by have := hb.size; omega)) ((hm'.below (hb0.trans (hb.mono (by omega)))).more (show w.heap.size ≤ W.heap.size by have := hb.size; omega))
  have hal := malive_any W0
  have hfew := fun W (h : Below W0.heap.size W0 W) => few9_f kd cd id tA tn tc oA on oc bA bn bc vs tok ps body W (hms W h).1 (by simp only [maxLen] at hon; omega)
  have hfew' := fun W (h : Below W0.heap.size W0 W) => few9_f kd' cd' id' tA' tn' tc' oA' on' oc' bA' bn' bc' vs' tok' ps' body' W (hms W h).2 (by simp only [maxLen] at hon'; omega)
  have hlen := And.intro hm.t.len (And.intro hm.o.plen hm.b.len)
  have hlen' := And.intro hm'.t.len (And.intro hm'.o.plen hm'.b.len)
  obtain ⟨fw, hfw⟩ : ∃ fw, fewM ⟨kd, cd, id, tok, ps, body⟩ = fw := ⟨_, rfl⟩
  obtain ⟨fw', hfw'⟩ : ∃ fw', fewM ⟨kd', cd', id', tok', ps', body'⟩ = fw' := ⟨_, rfl⟩
  rw [hfw] at hfew
  rw [hfw'] at hfew'
  have hcl := fun W (hb : Below W0.heap.size W0 W) => hb0.trans (hb.mono (show w.heap.size ≤ W0.heap.size by omega))
  have HA := Lib.hid (And.intro hal (And.intro hcs (And.intro hfew (And.intro hfew' hcl))))
  have HW := Lib.hid hW0
  have HB := Lib.hid (And.intro hms (And.intro hlen (And.intro hlen' (And.intro hfw (And.intro hfw' hs0)))))
  clear hb0 hW0 hs0 hal hcs hfew hfew' hfw hfw' hm hon hm' hon' hms hlen hlen' hcl
  cases fw with
  | false =>
    go_enter Try.func11, Try.ntmps11
    go_wp2_with fail
    rw [HW.out]
    refine HA.out.1.mono ?_
    rintro e w1 ⟨rfl, b1⟩
    obtain ⟨⟨c0, c1, c2, c3, c4, c5⟩, ⟨c0', c1', c2', c3', c4', c5'⟩⟩ := HA.out.2.1 w1 b1
    have H1 := Lib.hid b1
    clear b1
    go_wp2_with fail
    refine (HA.out.2.2.1 w1 H1.out).mono ?_
    rintro e w2 ⟨rfl, b2⟩
    have H2 := Lib.hid (H1.out.trans (b2.mono H1.out.size))
    clear b2 c0 c1 c2 c3 c4 c5 c0' c1' c2' c3' c4' c5'
    go_wp2
    go_ret
    exact ⟨rfl, HA.out.2.2.2.2 w2 H2.out⟩
  | true =>
    cases fw' with
    | false =>
      go_enter Try.func11, Try.ntmps11
      go_wp2_with fail
      rw [HW.out]
      refine HA.out.1.mono ?_
      rintro e w1 ⟨rfl, b1⟩
      obtain ⟨⟨c0, c1, c2, c3, c4, c5⟩, ⟨c0', c1', c2', c3', c4', c5'⟩⟩ := HA.out.2.1 w1 b1
      have H1 := Lib.hid b1
      clear b1
      go_wp2_with fail
      refine (HA.out.2.2.1 w1 H1.out).mono ?_
      rintro e w2 ⟨rfl, b2⟩
      have H2 := Lib.hid (H1.out.trans (b2.mono H1.out.size))
      clear b2 c0 c1 c2 c3 c4 c5 c0' c1' c2' c3' c4' c5'
      obtain ⟨⟨c0, c1, c2, c3, c4, c5⟩, ⟨c0', c1', c2', c3', c4', c5'⟩⟩ := HA.out.2.1 w2 H2.out
      go_wp2_with fail
      refine (HA.out.2.2.2.1 w2 H2.out).mono ?_
      rintro e w3 ⟨rfl, b3⟩
      have H3 := Lib.hid (H2.out.trans (b3.mono H2.out.size))
      clear b3 c0 c1 c2 c3 c4 c5 c0' c1' c2' c3' c4' c5'
      go_wp2
      go_ret
      exact ⟨rfl, HA.out.2.2.2.2 w3 H3.out⟩
    | true =>
      have hq := fewM_iff HB.out.2.2.2.1
      have hq' := fewM_iff HB.out.2.2.2.2.1
      dsimp only at hq hq'
      have hl1 := HB.out.2.1
      have hl2 := HB.out.2.2.1
      have hs12 := fun W (h : Below W0.heap.size W0 W) => msame_f ⟨kd, cd, id, tok, ps, body⟩ ⟨kd', cd', id', tok', ps', body'⟩ tA oA bA tA' oA' bA' tn tc on oc bn bc tn' tc' on' oc' bn' bc' vs vs' W (HB.out.1 W h).1 (HB.out.1 W h).2 (by omega) (by omega) (fun x hx => Nat.le_trans (hq.2.2.2 x hx) (by decide)) (fun x hx => Nat.le_trans (hq'.2.2.2 x hx) (by decide))
      have hr12 := fun W (h : Below W0.heap.size W0 W) => rmsame_f ⟨kd, cd, id, tok, ps, body⟩ ⟨kd', cd', id', tok', ps', body'⟩ tA oA bA tA' oA' bA' tn tc on oc bn bc tn' tc' on' oc' bn' bc' vs vs' W (HB.out.1 W h).1 (HB.out.1 W h).2 (by omega) (by omega) (fun x hx => Nat.le_trans (hq.2.2.2 x hx) (by decide)) (fun x hx => Nat.le_trans (hq'.2.2.2 x hx) (by decide))
      have hs11 := fun W (h : Below W0.heap.size W0 W) => msame_f ⟨kd, cd, id, tok, ps, body⟩ ⟨kd, cd, id, tok, ps, body⟩ tA oA bA tA oA bA tn tc on oc bn bc tn tc on oc bn bc vs vs W (HB.out.1 W h).1 (HB.out.1 W h).1 (by omega) (by omega) (fun x hx => Nat.le_trans (hq.2.2.2 x hx) (by decide)) (fun x hx => Nat.le_trans (hq.2.2.2 x hx) (by decide))
      have hrefl : mqB ⟨kd, cd, id, tok, ps, body⟩ ⟨kd, cd, id, tok, ps, body⟩ = true := decide_eq_true ⟨rfl, rfl, rfl, rfl, rfl, rfl⟩
      rw [hrefl] at hs11
      dsimp only at hs12 hr12 hs11
      generalize mqB ⟨kd, cd, id, tok, ps, body⟩ ⟨kd', cd', id', tok', ps', body'⟩ = q at hs12 hr12
      have hqq : (q != q) = false := bne_self_eq_false _
      have hw1 := fun W (h : Below W0.heap.size W0 W) => mwrite_f kd cd id tA tn tc oA on oc bA bn bc vs tok ps body W (HB.out.1 W h).1 (by omega) (by omega) (by omega)
      have hll := mwr_len kd cd id tok ps body
      have hrd := fun h => rd_mw (kd := kd) (cd := cd) (id := id) (tok := tok) (ps := ps) (body := body) h
      have hsr := fun h => mwr_sorted (kd := kd) (cd := cd) (id := id) (tok := tok) (ps := ps) (body := body) h
      have hsn := fun h => sniff_mw (kd := kd) (cd := cd) (id := id) (tok := tok) (ps := ps) (body := body) h
      have hle := fun h => mwr_err (kd := kd) (cd := cd) (id := id) (tok := tok) (ps := ps) (body := body) h
      have hsl : (sortP ps).length = on := by rw [sortP_len]; exact hl1.2.1
      have hsm : ∀ x ∈ sortP ps, x.2.length ≤ 400 := fun x hx => hq.2.2.2 x (sortP_mem ps x hx)
      obtain ⟨⟨L, er⟩, hL⟩ : ∃ r, mwr kd cd id tok ps body = r := ⟨_, rfl⟩
      rw [hL] at hw1 hll hrd hsr hsn hle
      dsimp only at hll hrd hsn hle
      have hso := fun W (h : Below W0.heap.size W0 W) => rsorted_f oA on oc vs ps W (HB.out.1 W h).1.o (by omega) (fun x hx => Nat.le_trans (hq.2.2.2 x hx) (by decide))
      obtain ⟨P, hP⟩ : ∃ P, sortP ps = P := ⟨_, rfl⟩
      rw [hP] at hrd hsr hsl hsm
      simp only [hP] at hso
      have HE := Lib.hid hle
      have HS := Lib.hid (And.intro hs12 (And.intro hr12 hs11))
      have HC := Lib.hid (And.intro hw1 (And.intro hll (And.intro hrd (And.intro hsr (And.intro hsn (And.intro hsl (And.intro hsm (And.intro hso (And.intro hl1 hq)))))))))
      clear hq hq' hl1 hl2 hs12 hr12 hs11 hrefl hw1 hll hrd hsr hsn hsl hsm hso hL hP hle
      go_enter Try.func11, Try.ntmps11
      go_wp2_with fail
      rw [HW.out]
      refine HA.out.1.mono ?_
      rintro e w1 ⟨rfl, b1⟩
      obtain ⟨⟨c0, c1, c2, c3, c4, c5⟩, ⟨c0', c1', c2', c3', c4', c5'⟩⟩ := HA.out.2.1 w1 b1
      have H1 := Lib.hid b1
      clear b1
      go_wp2_with fail
      refine (HA.out.2.2.1 w1 H1.out).mono ?_
      rintro e w2 ⟨rfl, b2⟩
      have H2 := Lib.hid (H1.out.trans (b2.mono H1.out.size))
      clear b2 c0 c1 c2 c3 c4 c5 c0' c1' c2' c3' c4' c5'
      obtain ⟨⟨c0, c1, c2, c3, c4, c5⟩, ⟨c0', c1', c2', c3', c4', c5'⟩⟩ := HA.out.2.1 w2 H2.out
      go_wp2_with fail
      refine (HA.out.2.2.2.1 w2 H2.out).mono ?_
      rintro e w3 ⟨rfl, b3⟩
      have H3 := Lib.hid (H2.out.trans (b3.mono H2.out.size))
      clear b3 c0 c1 c2 c3 c4 c5 c0' c1' c2' c3' c4' c5'
      go_wp2_with fail
      refine wp_region_rel (fun w' => Below W0.heap.size W0 w') (fun w w' => Below w.heap.size w w') (BkR (.agg #[.int .i64 kd, .int .i64 cd, .int .i64 id, .slice tA tn tc, .slice oA on oc, .slice bA bn bc]) (.agg #[.int .i64 kd', .int .i64 cd', .int .i64 id', .slice tA' tn' tc', .slice oA' on' oc', .slice bA' bn' bc']) q) [(2, .pointer (some ⟨w.heap.size, 0, none⟩)), (3, .pointer (some ⟨w.heap.size + 1, 0, none⟩))] (by kernel_rfl) (by kernel_rfl) (by kernel_rfl) ?base H3.out.drew (fun i w w' v _ h => h) ?steps ?fin
      case base =>
        intro x hx
        simp only [List.mem_cons, List.not_mem_nil, or_false] at hx
        rcases hx with rfl | rfl <;> exact ⟨rfl, rfl⟩
      case steps =>
        refine steps_cons ?_ (steps_cons ?_ (steps_cons ?_ (steps_cons ?_ (steps_cons ?_ (steps_cons ?_ (steps_cons ?_ (steps_cons ?_ (steps_cons ?_ (steps_cons ?_ (steps_cons ?_ (steps_cons ?_ (steps_cons ?_ steps_nil))))))))))))
        · intro a w K hS hB hR hK
          rw [if_pos (wanted_none rfl)]
          have h2 := tmp_is (hB.1)
          obtain ⟨⟨d0, d1, d2, d3, d4, d5⟩, ⟨d0', d1', d2', d3', d4', d5'⟩⟩ := HA.out.2.1 w hS
          go_simp
          exact hK (.agg #[.int .i64 kd, .int .i64 cd, .int .i64 id, .slice tA tn tc, .slice oA on oc, .slice bA bn bc]) w hS (Below.refl _ w) rfl
        · intro a w K hS hB hR hK
          rw [if_pos (wanted_none rfl)]
          have h3 := tmp_is (hB.2.1)
          obtain ⟨⟨d0, d1, d2, d3, d4, d5⟩, ⟨d0', d1', d2', d3', d4', d5'⟩⟩ := HA.out.2.1 w hS
          go_simp
          exact hK (.agg #[.int .i64 kd', .int .i64 cd', .int .i64 id', .slice tA' tn' tc', .slice oA' on' oc', .slice bA' bn' bc']) w hS (Below.refl _ w) rfl
        · intro a w K hS hB hR hK
          rw [if_pos (wanted_none rfl)]
          have h25 := tmp_is (hR.1)
          have h26 := tmp_is (hR.2.1)
          go_simp
          refine (HS.out.1 w hS).mono ?_
          rintro e w' ⟨rfl, hb⟩
          exact hK _ _ (hS.trans (hb.mono hS.size)) hb rfl
        · intro a w K hS hB hR hK
          rw [if_pos (wanted_none rfl)]
          have h2 := tmp_is (hB.1)
          obtain ⟨⟨d0, d1, d2, d3, d4, d5⟩, ⟨d0', d1', d2', d3', d4', d5'⟩⟩ := HA.out.2.1 w hS
          go_simp
          exact hK (.agg #[.int .i64 kd, .int .i64 cd, .int .i64 id, .slice tA tn tc, .slice oA on oc, .slice bA bn bc]) w hS (Below.refl _ w) rfl
        · intro a w K hS hB hR hK
          rw [if_pos (wanted_none rfl)]
          have h3 := tmp_is (hB.2.1)
          obtain ⟨⟨d0, d1, d2, d3, d4, d5⟩, ⟨d0', d1', d2', d3', d4', d5'⟩⟩ := HA.out.2.1 w hS
          go_simp
          exact hK (.agg #[.int .i64 kd', .int .i64 cd', .int .i64 id', .slice tA' tn' tc', .slice oA' on' oc', .slice bA' bn' bc']) w hS (Below.refl _ w) rfl
        · intro a w K hS hB hR hK
          rw [if_pos (wanted_none rfl)]
          have h28 := tmp_is (hR.1)
          have h29 := tmp_is (hR.2.1)
          go_simp
          refine (HS.out.2.1 w hS).mono ?_
          rintro e w' ⟨rfl, hb⟩
          exact hK _ _ (hS.trans (hb.mono hS.size)) hb rfl
        · intro a w K hS hB hR hK
          rw [if_pos (wanted_none rfl)]
          have h27 := tmp_is (hR.1)
          have h30 := tmp_is (hR.2.1)
          go_simp
          exact hK (.bool false) w hS (Below.refl _ w) rfl
        · intro a w K hS hB hR hK
          rw [if_pos (wanted_none rfl)]
          have h31 := tmp_is (hR.1)
          go_simp
          exact hK (.bool false) w hS (Below.refl _ w) rfl
        · intro a w K hS hB hR hK
          rw [if_pos (wanted_some rfl (hR.1))]
          have h2 := tmp_is (hB.1)
          obtain ⟨⟨d0, d1, d2, d3, d4, d5⟩, ⟨d0', d1', d2', d3', d4', d5'⟩⟩ := HA.out.2.1 w hS
          go_simp
          exact hK (.agg #[.int .i64 kd, .int .i64 cd, .int .i64 id, .slice tA tn tc, .slice oA on oc, .slice bA bn bc]) w hS (Below.refl _ w) rfl
        · intro a w K hS hB hR hK
          rw [if_pos (wanted_some rfl (hR.1))]
          have h2 := tmp_is (hB.1)
          obtain ⟨⟨d0, d1, d2, d3, d4, d5⟩, ⟨d0', d1', d2', d3', d4', d5'⟩⟩ := HA.out.2.1 w hS
          go_simp
          exact hK (.agg #[.int .i64 kd, .int .i64 cd, .int .i64 id, .slice tA tn tc, .slice oA on oc, .slice bA bn bc]) w hS (Below.refl _ w) rfl
        · intro a w K hS hB hR hK
          rw [if_pos (wanted_some rfl (hR.2.2.1))]
          have h33 := tmp_is (hR.1)
          have h34 := tmp_is (hR.2.1)
          go_simp
          refine (HS.out.2.2 w hS).mono ?_
          rintro e w' ⟨rfl, hb⟩
          exact hK _ _ (hS.trans (hb.mono hS.size)) hb rfl
        · intro a w K hS hB hR hK
          rw [if_pos (wanted_some rfl (hR.2.1))]
          have h35 := tmp_is (hR.1)
          go_simp
          exact hK (.bool false) w hS (Below.refl _ w) rfl
        · intro a w K hS hB hR hK
          rw [if_pos (wanted_none rfl)]
          have h32 := tmp_is (hR.1)
          have h36 := tmp_is (hR.2.1)
          go_simp
          exact hK (.bool false) w hS (Below.refl _ w) rfl
      case fin =>
        intro a w7 hS7 ha hR
        have h0 : a.eval (.tmp 25) = (.agg #[.int .i64 kd, .int .i64 cd, .int .i64 id, .slice tA tn tc, .slice oA on oc, .slice bA bn bc]) := deps_mem _ hR 0 (by decide)
        have h1 : a.eval (.tmp 26) = (.agg #[.int .i64 kd', .int .i64 cd', .int .i64 id', .slice tA' tn' tc', .slice oA' on' oc', .slice bA' bn' bc']) := deps_mem _ hR 1 (by decide)
        have h2 : a.eval (.tmp 27) = .bool q := deps_mem _ hR 2 (by decide)
        have h3 : a.eval (.tmp 28) = (.agg #[.int .i64 kd, .int .i64 cd, .int .i64 id, .slice tA tn tc, .slice oA on oc, .slice bA bn bc]) := deps_mem _ hR 3 (by decide)
        have h4 : a.eval (.tmp 29) = (.agg #[.int .i64 kd', .int .i64 cd', .int .i64 id', .slice tA' tn' tc', .slice oA' on' oc', .slice bA' bn' bc']) := deps_mem _ hR 4 (by decide)
        have h5 : a.eval (.tmp 30) = .bool q := deps_mem _ hR 5 (by decide)
        have h6 : a.eval (.tmp 31) = .bool false := deps_mem _ hR 6 (by decide)
        have h7 : a.eval (.tmp 32) = .bool false := deps_mem _ hR 7 (by decide)
        have h8 : a.eval (.tmp 33) = (.agg #[.int .i64 kd, .int .i64 cd, .int .i64 id, .slice tA tn tc, .slice oA on oc, .slice bA bn bc]) := deps_mem _ hR 8 (by decide)
        have h9 : a.eval (.tmp 34) = (.agg #[.int .i64 kd, .int .i64 cd, .int .i64 id, .slice tA tn tc, .slice oA on oc, .slice bA bn bc]) := deps_mem _ hR 9 (by decide)
        have h10 : a.eval (.tmp 35) = .bool true := deps_mem _ hR 10 (by decide)
        have h11 : a.eval (.tmp 36) = .bool false := deps_mem _ hR 11 (by decide)
        have h12 : a.eval (.tmp 37) = .bool false := deps_mem _ hR 12 (by decide)
        obtain ⟨⟨c0, c1, c2, c3, c4, c5⟩, _⟩ := HA.out.2.1 w7 hS7
        have H7 := Lib.hid hS7
        clear hR hS7
        simp only [pin] at ha
        rw [ha]
        simp only [List.setIfInBounds_toArray, List.set_cons_zero, List.set_cons_succ, h0, h1, h2, h3, h4, h5, h6, h7, h8, h9, h10, h11, h12]
        clear ha h0 h1 h2 h3 h4 h5 h6 h7 h8 h9 h10 h11 h12 a
        go_wp2_with fail
        refine (HC.out.1 w7 H7.out).mono ?_
        rintro e w8 ⟨A8, n8, c8, rfl, ⟨hc8, hm8⟩, hn8, hb8, b8⟩
        have H8 := Lib.hid (And.intro hb8 (And.intro hc8 (And.intro hm8 (And.intro (show n8 = L.length from hn8.out) (H7.out.trans (b8.mono H7.out.size))))))
        clear hc8 hm8 hn8 hb8 b8 c0 c1 c2 c3 c4 c5
        try dsimp only
        by_cases her : er = 0
        · subst her
          have hrd := mread_f A8 n8 c8 L w8 _ H8.out.1 (Nat.le_refl _) H8.out.2.1 (by have := H8.out.2.2.1; simp only [maxLen] at this; omega) (by have := H8.out.2.2.2.1; have := HC.out.2.1; omega)
          rw [HC.out.2.2.1 (by first | rfl | trivial)] at hrd
          have HR := Lib.hid hrd
          clear hrd
          go_wp2_with fail
          refine HR.out.mono ?_
          rintro e w9 ⟨xA, xn, xc, yA, yn, yc, zA, zn, zc, us, rfl, hcaps, hms9, b9⟩
          obtain rfl : xn = tn := hms9.t.len.symm.trans HC.out.2.2.2.2.2.2.2.2.1.1
          obtain rfl : yn = on := hms9.o.plen.symm.trans HC.out.2.2.2.2.2.1
          obtain rfl : zn = bn := hms9.b.len.symm.trans HC.out.2.2.2.2.2.2.2.2.1.2.2
          have H9 := Lib.hid (And.intro hms9 (And.intro ((H8.out.1.below b9).more b9.size) (H8.out.2.2.2.2.trans (b9.mono H8.out.2.2.2.2.size))))
          clear hcaps hms9 b9
          try dsimp only
          go_wp2_with fail
          refine calls_at_world (F := fun W => Below w9.heap.size w9 W ∧ w9.heap.size + 1 ≤ W.heap.size ∧ W.rangeAt w9.heap.size 0 [.int .i64 kd, .int .i64 cd, .int .i64 id, .slice xA xn xc, .slice yA yn yc, .slice zA zn zc]) ⟨alloc_below w9 _, by rw [alloc_size]; exact Nat.le_refl _, range_newA w9 _ _ rfl⟩ fun W10 ⟨b10, s10, r10⟩ => ?_
          have hms10 := (H9.out.1.below b10).more b10.size
          have hw10 := mwrite_f kd cd id xA xn xc yA yn yc zA zn zc us tok P body W10 hms10 (by have := HC.out.2.2.2.2.2.2.2.2; omega) (by have := HC.out.2.2.2.2.2.2.2.2; omega) (by have := HC.out.2.2.2.2.2.2.2.2; omega)
          rw [HC.out.2.2.2.1 (by first | rfl | trivial)] at hw10
          have B10 := H9.out.2.2.trans (b10.mono H9.out.2.2.size)
          have H10 := Lib.hid (And.intro hms10 (And.intro r10 (And.intro s10 (And.intro ((H9.out.2.1.below b10).more b10.size) B10))))
          clear hms10 b10 s10 r10 B10
          refine hw10.mono ?_
          rintro e w11 ⟨A11, n11, c11, rfl, ⟨hc11, hm11⟩, hn11, hb11, b11⟩
          have B11 := H10.out.2.2.2.2.trans (b11.mono H10.out.2.2.2.2.size)
          have r11 := range_below H10.out.2.1 b11 (by have := H10.out.2.2.1; omega)
          obtain ⟨⟨c0, c1, c2, c3, c4, c5⟩, _⟩ := HA.out.2.1 w11 B11
          have H11 := Lib.hid (And.intro ((H10.out.1.below b11).more b11.size) (And.intro r11 (And.intro (show w9.heap.size + 1 ≤ w11.heap.size by have := b11.size; have := H10.out.2.2.1; omega) (And.intro ((H10.out.2.2.2.1.below b11).more b11.size) (And.intro hb11 (And.intro hn11.out B11))))))
          clear hw10 hc11 hm11 hn11 hb11 b11 B11 r11
          try dsimp only
          have c4a := fun o => (HA.out.2.1 (w11.alloc o) (H11.out.2.2.2.2.2.2.alloc H11.out.2.2.2.2.2.2.size o)).1.2.2.2.2.1
          go_wp2_with fail
          refine calls_at_world (F := fun W => Below w11.heap.size w11 W ∧ w11.heap.size + 1 ≤ W.heap.size ∧ W.rangeAt w11.heap.size 0 [.int .i64 kd, .int .i64 cd, .int .i64 id, .slice tA xn tc, .slice oA yn oc, .slice bA zn bc] ∧ W.there w11.heap.size 0 6) ⟨alloc_below w11 _, by rw [alloc_size]; exact Nat.le_refl _, range_newA w11 _ _ rfl, there_new w11 _ _ rfl⟩ fun W12 ⟨b12, s12, r12, t12⟩ => ?_
          have B12 := H11.out.2.2.2.2.2.2.trans (b12.mono H11.out.2.2.2.2.2.2.size)
          have H12 := Lib.hid (And.intro b12 (And.intro s12 (And.intro r12 (And.intro t12 B12))))
          clear b12 s12 r12 t12 B12 c0 c1 c2 c3 c4 c5 c4a
          refine (HC.out.2.2.2.2.2.2.2.1 W12 H12.out.2.2.2.2).mono ?_
          rintro e w13 ⟨A13, n13, c13, us13, rfl, ⟨hc13, hm13⟩, hn13, hos13, b13⟩
          obtain rfl : n13 = yn := hn13.out.trans HC.out.2.2.2.2.2.1
          have hr13 := range_below H12.out.2.2.1 b13 (by have := H12.out.2.1; omega)
          obtain ⟨e0, e1, e2, e3, e4, e5⟩ := six hr13
          have hfz := (there_below H12.out.2.2.2.1 b13 (by have := H12.out.2.1; omega) 4 (by omega)).2
          rw [Nat.zero_add] at hfz
          have B13 := H12.out.2.2.2.2.trans (b13.mono H12.out.2.2.2.2.size)
          have b1113 : Below w11.heap.size w11 w13 := H12.out.1.trans (b13.mono H12.out.1.size)
          have hsz13 : w11.heap.size + 1 ≤ w13.heap.size := by have := b13.size; have := H12.out.2.1; omega
          have H13 := Lib.hid (And.intro hos13 (And.intro hr13 (And.intro B13 (And.intro b1113 hsz13))))
          clear hc13 hm13 hn13 hos13 b13 hr13 B13 b1113 hsz13
          go_wp2_with fail
          refine calls_at_world (F := fun W => Below W0.heap.size W0 W ∧ Below w11.heap.size w11 W ∧ w11.heap.size + 1 ≤ W.heap.size ∧ W.rangeAt w11.heap.size 0 [.int .i64 kd, .int .i64 cd, .int .i64 id, .slice tA xn tc, .slice A13 n13 c13, .slice bA zn bc] ∧ Os W W.heap.size A13 n13 us13 P) ⟨H13.out.2.2.1.setCell (p := ⟨w11.heap.size, 4, none⟩) H11.out.2.2.2.2.2.2.size _, H13.out.2.2.2.1.setCell (p := ⟨w11.heap.size, 4, none⟩) (Nat.le_refl _) _, ?_, ?_, ?_⟩ fun W14 ⟨b14, b114, s14, r14, o14⟩ => ?_
          · rw [show (w13.setCell ⟨w11.heap.size, 4, none⟩ (.slice A13 n13 c13)).heap.size = w13.heap.size from size_setCells_ [.slice A13 n13 c13] w11.heap.size 4 w13]; exact H13.out.2.2.2.2
          · have ht : w13.there w11.heap.size 4 1 := fun j hj => by
              obtain rfl : j = 0 := by omega
              exact ⟨by rw [e4]; rfl, hfz⟩
            have hs4 := World.rangeAt_setCells_same w13 w11.heap.size 4 [.slice A13 n13 c13] ht 0 _ rfl
            intro j v hv
            match j, hv with
            | 0, hv => obtain rfl := Option.some.inj hv; rw [cell_set1 (by simp)]; exact e0
            | 1, hv => obtain rfl := Option.some.inj hv; rw [cell_set1 (by simp)]; exact e1
            | 2, hv => obtain rfl := Option.some.inj hv; rw [cell_set1 (by simp)]; exact e2
            | 3, hv => obtain rfl := Option.some.inj hv; rw [cell_set1 (by simp)]; exact e3
            | 4, hv => obtain rfl := Option.some.inj hv; exact hs4
            | 5, hv => obtain rfl := Option.some.inj hv; rw [cell_set1 (by simp)]; exact e5
            | j + 6, hv => simp at hv
          · rw [show (w13.setCell ⟨w11.heap.size, 4, none⟩ (.slice A13 n13 c13)).heap.size = w13.heap.size from size_setCells_ [.slice A13 n13 c13] w11.heap.size 4 w13]
            exact H13.out.1.set1 (j := 3) e4 e3 _
          have hsn := sniff_f A8 n8 c8 L W14 _ (H11.out.2.2.2.1.below b114) H8.out.2.1
          rw [HC.out.2.2.2.2.1 (by first | rfl | trivial)] at hsn
          have H14 := Lib.hid (And.intro b14 (And.intro b114 (And.intro s14 (And.intro r14 o14))))
          clear e0 e1 e2 e3 e4 e5 hfz b14 b114 s14 r14 o14
          refine hsn.mono ?_
          rintro e w15 ⟨rfl, m15, hw15⟩
          have b15 : Below W14.heap.size W14 w15 := hw15 ▸ drewN_below _ _ m15
          have B15 := H14.out.1.trans (b15.mono H14.out.1.size)
          have b1115 := H14.out.2.1.trans (b15.mono H14.out.2.1.size)
          have rs := range_below H14.out.2.2.2.1 b15 (by have := H14.out.2.2.1; omega)
          have rn := range_below H11.out.2.1 b1115 (by have := H11.out.2.2.1; omega)
          obtain ⟨c0, c1, c2, c3, c4, c5⟩ := six rn
          obtain ⟨e0, e1, e2, e3, e4, e5⟩ := six rs
          have hmm := HB.out.1 w15 B15
          have hsm := rmsame_f ⟨kd, cd, id, tok, P, body⟩ ⟨kd, cd, id, tok, P, body⟩ xA yA zA tA A13 bA xn xc n13 yc zn zc xn tc n13 c13 zn bc us us13 w15 ((H11.out.1.below b1115).more b1115.size) ⟨hmm.1.t, (H14.out.2.2.2.2.below b15).more b15.size, hmm.1.b⟩ (by have := HC.out.2.2.2.2.2.2.2.2; omega) (by have := HC.out.2.2.2.2.2.2.2.2; omega) (fun x hx => Nat.le_trans (HC.out.2.2.2.2.2.2.1 x hx) (by decide)) (fun x hx => Nat.le_trans (HC.out.2.2.2.2.2.2.1 x hx) (by decide))
          rw [show mqB ⟨kd, cd, id, tok, P, body⟩ ⟨kd, cd, id, tok, P, body⟩ = true from decide_eq_true ⟨rfl, rfl, rfl, rfl, rfl, rfl⟩] at hsm
          dsimp only at hsm
          have H15 := Lib.hid (And.intro B15 (And.intro b1115 hsm))
          clear hsn hw15 b15 B15 b1115 rs rn hmm hsm
          try dsimp only
          go_wp2_with fail
          refine H15.out.2.2.mono ?_
          rintro e w16 ⟨rfl, b16⟩
          have b1116 := H15.out.2.1.trans (b16.mono H15.out.2.1.size)
          have hn8 := H8.out.2.2.2.1
          have hn11 : n11 = L.length := H11.out.2.2.2.2.2.1
          have hll := HC.out.2.1
          have hsa := same_any A8 A11 n8 c8 n11 c11 L L w16 _ _ (H11.out.2.2.2.1.below b1116) (H11.out.2.2.2.2.1.below b1116) (by omega) (by omega)
          rw [decide_eq_true rfl] at hsa
          have H16 := Lib.hid (And.intro hsa (H15.out.1.trans (b16.mono H15.out.1.size)))
          clear c0 c1 c2 c3 c4 c5 e0 e1 e2 e3 e4 e5 b16 b1116 hn8 hn11 hll hsa
          go_wp2_with fail
          refine H16.out.1.mono ?_
          rintro e w17 ⟨rfl, m17, hw17⟩
          have B17 : Below W0.heap.size W0 w17 := H16.out.2.trans ((hw17 ▸ drewN_below _ _ m17 : Below w16.heap.size w16 w17).mono H16.out.2.size)
          obtain ⟨⟨c0, c1, c2, c3, c4, c5⟩, _⟩ := HA.out.2.1 w17 B17
          have H17 := Lib.hid B17
          have hkk : (kd == kd) = true := beq_self_eq_true _
          have hii : (id == id) = true := beq_self_eq_true _
          clear hw17 B17
          go_wp2
          go_ret
          exact ⟨rfl, HA.out.2.2.2.2 w17 H17.out⟩
        · have hne : (er != 0) = true := bne_iff_ne.2 her
          have hL0 : n8 = 0 := by
            have h1 := H8.out.2.2.2.1
            rw [h1, HE.out her]
            rfl
          subst hL0
          go_wp2
          go_ret
          exact ⟨rfl, HA.out.2.2.2.2 w8 H8.out.2.2.2.2⟩
end Go.Proofs.Ytihicplembaoeaa
