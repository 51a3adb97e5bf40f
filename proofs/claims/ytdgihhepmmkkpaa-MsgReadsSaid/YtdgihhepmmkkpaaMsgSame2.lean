/-
  The same messages: the program's answer and the document's, of any two.
-/
import Derived.Test.YtdgihhepmmkkpaaMsgSame
import Derived.Test.YtdgihhepmmkkpaaMsgRead
namespace Go.Proofs.Ytdgihhepmmkkpaa
open Go.RowKit
set_option maxRecDepth 100000
set_option linter.unusedVariables false
set_option maxHeartbeats 4000000 in
theorem osame_any (w : World) (A1 A2 : Option Addr) (n1 n2 c1 c2 : Nat) (us1 us2 : List Sv) (ps1 ps2 : List (Int × List UInt8)) (h1 : Os w w.heap.size A1 n1 us1 ps1) (h2 : Os w w.heap.size A2 n2 us2 ps2) (hn : (n1 : Int) ≤ 1099511627776) (hn2 : (n2 : Int) ≤ 1099511627776) (hl1 : ∀ x, x ∈ ps1 → x.2.length ≤ 1099511627776) (hl2 : ∀ x, x ∈ ps2 → x.2.length ≤ 1099511627776) :
    Calls Try.prog 42 #[.slice A1 n1 c1, .slice A2 n2 c2] w fun e w' => e = .returned (.bool (decide (ps1 = ps2))) ∧ Below w.heap.size w w' := by
  have p1 := h1.plen
  have p2 := h2.plen
  by_cases hnn : n1 = n2
  · subst hnn
    have HP := Lib.hid (And.intro p1 p2)
    have hneq : ((n1 : Int) != (n1 : Int)) = false := bne_self_eq_false _
    clear p1 p2 hn2
    go_enter Try.func42, Try.ntmps42
    go_wp2
    go_loopw [5] (fun i wr => ∃ k : Nat, k ≤ n1 ∧ i = .int .i64 k ∧ Below w.heap.size w wr ∧ Aside (∀ j, j < k → ps1[j]? = ps2[j]?)) (fun i _ => n1 - (intOf i).toNat)
    case atStart => exact ⟨0, by omega, rfl, Below.refl _ _, fun j hj => absurd hj (Nat.not_lt_zero _)⟩
    case round =>
      obtain ⟨k, hk, rfl, hB, HPre⟩ := hrel
      by_cases hlt : k < n1
      · obtain ⟨b1, off1, rfl, hb1, hc1⟩ := h1.sh.place (by omega)
        obtain ⟨b2, off2, rfl, hb2, hc2⟩ := h2.sh.place (by omega)
        obtain ⟨s1, hs1⟩ := sv_get h1.sh hlt
        obtain ⟨s2, hs2⟩ := sv_get h2.sh hlt
        obtain ⟨l, hp1, z1⟩ := h1.get hs1
        obtain ⟨l', hp2, z2⟩ := h2.get hs2
        obtain ⟨x1, y1⟩ := hc1 k s1 hs1
        obtain ⟨x2, y2⟩ := hc2 k s2 hs2
        have hlx := hl1 _ (List.mem_of_getElem? hp1)
        have hlx2 := hl2 _ (List.mem_of_getElem? hp2)
        have hn1 := z1.len
        have hn2 := z2.len
        obtain ⟨k1, P1, m1, d1⟩ := s1
        obtain ⟨k2, P2, m2, d2⟩ := s2
        dsimp only at x1 y1 z1 x2 y2 z2 hn1 hn2 hlx hlx2 hp1 hp2
        have M1 : ∀ wq, Below w.heap.size w wq → wq.cell? ⟨b1, off1 + k * 2, none⟩ = some (.int .i64 k1) ∧ wq.cell? ⟨b1, off1 + k * 2 + 1, none⟩ = some (.slice P1 m1 d1) := fun wq hq =>
          ⟨(hq.cell (p := ⟨b1, off1 + k * 2, none⟩) hb1).trans x1, (hq.cell (p := ⟨b1, off1 + k * 2 + 1, none⟩) hb1).trans y1⟩
        have M2 : ∀ wq, Below w.heap.size w wq → wq.cell? ⟨b2, off2 + k * 2, none⟩ = some (.int .i64 k2) ∧ wq.cell? ⟨b2, off2 + k * 2 + 1, none⟩ = some (.slice P2 m2 d2) := fun wq hq =>
          ⟨(hq.cell (p := ⟨b2, off2 + k * 2, none⟩) hb2).trans x2, (hq.cell (p := ⟨b2, off2 + k * 2 + 1, none⟩) hb2).trans y2⟩
        have hbd : Below w.heap.size w wr.drew := hB.trans ((below_drew2 wr).mono hB.size)
        have ks : ∀ wq, Below w.heap.size w wq → Calls Try.prog 21 #[.slice P1 m1 d1, .slice P2 m2 d2] wq fun e w' => e = .returned (.bool (decide (l = l'))) ∧ ∃ m, w' = wq.drewN m := fun wq hq =>
          same_any P1 P2 m1 d1 m2 d2 l l' wq _ _ (z1.below hq) (z2.below hq) (by omega) (by omega)
        have HQ : Aside _ := And.intro hp1 hp2
        have HM1 : Aside _ := M1
        have HM2 : Aside _ := M2
        have HBW : Aside _ := hB
        obtain ⟨a1, a2⟩ := M1 wr hB
        obtain ⟨a3, a4⟩ := M2 wr hB
        obtain ⟨c1', c2'⟩ := M1 wr.drew hbd
        obtain ⟨c3', c4'⟩ := M2 wr.drew hbd
        have hkn : (k : Int) < n1 := by omega
        have hk0 : (0 : Int) ≤ (k : Int) := by omega
        have ktn : ((k : Int)).toNat = k := by omega
        by_cases hkk : k1 = k2
        · subst hkk
          have keq : (k1 != k1) = false := bne_self_eq_false _
          obtain ⟨q, hq⟩ : ∃ q, decide (l = l') = q := ⟨_, rfl⟩
          rw [hq] at ks
          have KS : Aside _ := ks
          have HD : Aside _ := hq
          clear hc1 hc2 x1 y1 z1 x2 y2 z2 hp1 hp2 M1 M2 ks hbd hs1 hs2 hq hlx hlx2 hn1 hn2
          cases q with
          | true =>
            go_wp2_with fail
            go_region_held (fun wq => (wq.cell? ⟨b1, off1 + k * 2, none⟩ = some (.int .i64 k1) ∧ wq.cell? ⟨b1, off1 + k * 2 + 1, none⟩ = some (.slice P1 m1 d1)) ∧ (wq.cell? ⟨b2, off2 + k * 2, none⟩ = some (.int .i64 k1) ∧ wq.cell? ⟨b2, off2 + k * 2 + 1, none⟩ = some (.slice P2 m2 d2)))
              (first | assumption | exact ⟨⟨c1', c2'⟩, ⟨c3', c4'⟩⟩)
              ((go_at_call 21; refine (KS.out _ (HBW.out.trans ((below_drew2 wr).mono HBW.out.size))).mono ?_; rintro e w5 ⟨rfl, m5, hw5⟩; have b5 : Below wr.drew.heap.size wr.drew w5 := hw5 ▸ drewN_below _ _ m5; have q5 := And.intro (HM1.out w5 ((HBW.out.trans ((below_drew2 wr).mono HBW.out.size)).trans (b5.mono HBW.out.size))) (HM2.out w5 ((HBW.out.trans ((below_drew2 wr).mono HBW.out.size)).trans (b5.mono HBW.out.size)))))
            all_goals
              have hB5 : Aside (Below w.heap.size w w5) := (HBW.out.trans ((below_drew2 wr).mono HBW.out.size)).trans (b5.mono HBW.out.size)
              clear q5 b5 hw5 a1 a2 a3 a4 c1' c2' c3' c4'
              go_wp2
              go_roundw
              case rel =>
                refine ⟨k + 1, by omega, by go_num, HBW.out.trans ((drewN_below wr _ _).mono HBW.out.size), (show Aside _ from fun j hj => ?_)⟩
                by_cases e : j = k
                · subst e
                  rw [HQ.out.1, HQ.out.2, of_decide_eq_true HD.out]
                · exact HPre.out j (by omega)
              case measure => simp [intOf]; omega
          | false =>
            go_wp2_with fail
            go_region_held (fun wq => (wq.cell? ⟨b1, off1 + k * 2, none⟩ = some (.int .i64 k1) ∧ wq.cell? ⟨b1, off1 + k * 2 + 1, none⟩ = some (.slice P1 m1 d1)) ∧ (wq.cell? ⟨b2, off2 + k * 2, none⟩ = some (.int .i64 k1) ∧ wq.cell? ⟨b2, off2 + k * 2 + 1, none⟩ = some (.slice P2 m2 d2)))
              (first | assumption | exact ⟨⟨c1', c2'⟩, ⟨c3', c4'⟩⟩)
              ((go_at_call 21; refine (KS.out _ (HBW.out.trans ((below_drew2 wr).mono HBW.out.size))).mono ?_; rintro e w5 ⟨rfl, m5, hw5⟩; have b5 : Below wr.drew.heap.size wr.drew w5 := hw5 ▸ drewN_below _ _ m5; have q5 := And.intro (HM1.out w5 ((HBW.out.trans ((below_drew2 wr).mono HBW.out.size)).trans (b5.mono HBW.out.size))) (HM2.out w5 ((HBW.out.trans ((below_drew2 wr).mono HBW.out.size)).trans (b5.mono HBW.out.size)))))
            all_goals
              have hB5 : Aside (Below w.heap.size w w5) := (HBW.out.trans ((below_drew2 wr).mono HBW.out.size)).trans (b5.mono HBW.out.size)
              clear q5 b5 hw5 a1 a2 a3 a4 c1' c2' c3' c4'
              go_wp2
              go_ret
              refine ⟨retB ?_, HBW.out.trans ((drewN_below wr _ _).mono HBW.out.size)⟩
              symm
              refine decide_eq_false fun e => of_decide_eq_false HD.out ?_
              have e1 := HQ.out.1
              rw [e, HQ.out.2] at e1
              injection e1 with e1
              injection e1 with _ e1
              exact e1.symm
        · have keq : (k1 != k2) = true := bne_iff_ne.2 hkk
          have HK := Lib.hid hkk
          clear hc1 hc2 x1 y1 z1 x2 y2 z2 hp1 hp2 M1 M2 ks hbd hs1 hs2 hlx hlx2 hn1 hn2 hkk
          go_wp2
          go_quiet (fail)
          go_wp2
          go_ret
          refine ⟨retB ?_, HBW.out.trans ((drewN_below wr _ _).mono HBW.out.size)⟩
          symm
          refine decide_eq_false fun e => HK.out ?_
          have e1 := HQ.out.1
          rw [e, HQ.out.2] at e1
          injection e1 with e1
          injection e1 with e1 _
          exact e1.symm
      · have : k = n1 := by omega
        subst this
        go_wp2
        go_ret
        exact ⟨retB (decide_eq_true (take_eq_of HP.out.1 HP.out.2 HPre.out)).symm, hB⟩
  · have hneq : ((n1 : Int) != (n2 : Int)) = true := bne_iff_ne.2 (by omega)
    have hd : decide (ps1 = ps2) = false := decide_eq_false fun e => hnn (by rw [← p1, ← p2, e])
    rw [hd]
    clear h1 h2 p1 p2 hnn hd hl1 hl2
    go_enter Try.func42, Try.ntmps42
    go_wp2
    go_ret
    exact ⟨rfl, Below.refl _ _⟩
def mqB (a b : Mq) : Bool := decide (a.kd = b.kd ∧ a.cd = b.cd ∧ a.id = b.id ∧ a.tok = b.tok ∧ a.ps = b.ps ∧ a.body = b.body)
theorem six2 {w W : World} {v0 v1 v2 v3 v4 v5 u0 u1 u2 u3 u4 u5 : Value} (hb : Below (w.heap.size + 2) ((w.alloc (.cells #[v0, v1, v2, v3, v4, v5] 26)).alloc (.cells #[u0, u1, u2, u3, u4, u5] 26)) W) :
    (W.cell? ⟨w.heap.size, 0, none⟩ = some v0 ∧ W.cell? ⟨w.heap.size, 1, none⟩ = some v1 ∧ W.cell? ⟨w.heap.size, 2, none⟩ = some v2 ∧ W.cell? ⟨w.heap.size, 3, none⟩ = some v3 ∧ W.cell? ⟨w.heap.size, 4, none⟩ = some v4 ∧ W.cell? ⟨w.heap.size, 5, none⟩ = some v5)
    ∧ (W.cell? ⟨w.heap.size + 1, 0, none⟩ = some u0 ∧ W.cell? ⟨w.heap.size + 1, 1, none⟩ = some u1 ∧ W.cell? ⟨w.heap.size + 1, 2, none⟩ = some u2 ∧ W.cell? ⟨w.heap.size + 1, 3, none⟩ = some u3 ∧ W.cell? ⟨w.heap.size + 1, 4, none⟩ = some u4 ∧ W.cell? ⟨w.heap.size + 1, 5, none⟩ = some u5) := by
  have r0 := range_newA w #[v0, v1, v2, v3, v4, v5] 26 rfl
  have r1 := range_below r0 (alloc_below _ (.cells #[u0, u1, u2, u3, u4, u5] 26)) (by rw [alloc_size]; omega)
  have r2 := range_newA (w.alloc (.cells #[v0, v1, v2, v3, v4, v5] 26)) #[u0, u1, u2, u3, u4, u5] 26 rfl
  rw [alloc_size] at r2
  exact ⟨six (range_below r1 hb (by omega)), six (range_below r2 hb (by omega))⟩
set_option maxHeartbeats 4000000 in
theorem msame_f (a b : Mq) (tA oA bA tA' oA' bA' : Option Addr) (tn tc on oc bn bc tn' tc' on' oc' bn' bc' : Nat) (vs vs' : List Sv) (w : World) (h1 : Ms w w.heap.size tA tn oA on vs bA bn a.tok a.ps a.body) (h2 : Ms w w.heap.size tA' tn' oA' on' vs' bA' bn' b.tok b.ps b.body)
    (hn1 : (tn : Int) ≤ 1099511627776 ∧ (on : Int) ≤ 1099511627776 ∧ (bn : Int) ≤ 1099511627776) (hn2 : (tn' : Int) ≤ 1099511627776 ∧ (on' : Int) ≤ 1099511627776 ∧ (bn' : Int) ≤ 1099511627776) (hl1 : ∀ x, x ∈ a.ps → x.2.length ≤ 1099511627776) (hl2 : ∀ x, x ∈ b.ps → x.2.length ≤ 1099511627776) :
    Calls Try.prog 32 #[.agg #[.int .i64 a.kd, .int .i64 a.cd, .int .i64 a.id, .slice tA tn tc, .slice oA on oc, .slice bA bn bc], .agg #[.int .i64 b.kd, .int .i64 b.cd, .int .i64 b.id, .slice tA' tn' tc', .slice oA' on' oc', .slice bA' bn' bc']] w fun e w' => e = .returned (.bool (mqB a b)) ∧ Below w.heap.size w w' := by
  obtain ⟨kd, cd, id, tok, ps, body⟩ := a
  obtain ⟨kd', cd', id', tok', ps', body'⟩ := b
  dsimp only at h1 h2 hl1 hl2 ⊢
  have hm : mqB ⟨kd, cd, id, tok, ps, body⟩ ⟨kd', cd', id', tok', ps', body'⟩ = (decide (kd = kd') && decide (cd = cd') && decide (id = id') && decide (tok = tok') && decide (ps = ps') && decide (body = body')) := by
    unfold mqB; rw [Bool.eq_iff_iff]; simp [and_assoc]
  rw [hm]
  obtain ⟨W2, hW2⟩ : ∃ W2, (w.alloc (.cells #[.int .i64 kd, .int .i64 cd, .int .i64 id, .slice tA tn tc, .slice oA on oc, .slice bA bn bc] 26)).alloc (.cells #[.int .i64 kd', .int .i64 cd', .int .i64 id', .slice tA' tn' tc', .slice oA' on' oc', .slice bA' bn' bc'] 26) = W2 := ⟨_, rfl⟩
  have hs2 : W2.heap.size = w.heap.size + 2 := by rw [← hW2, alloc_size, alloc_size]
  have hb2 : Below w.heap.size w W2 := by rw [← hW2]; exact ((Below.refl _ _).alloc (Nat.le_refl _) _).alloc (by rw [alloc_size]; omega) _
  have hcs := fun W (hb : Below (w.heap.size + 2) W2 W) => six2 (hW2 ▸ hb)
  have hms := fun W (hb : Below (w.heap.size + 2) W2 W) => And.intro ((h1.below (hb2.trans (hb.mono (by omega)))).more (show w.heap.size ≤ W.heap.size by have := hb.size; omega)) ((h2.below (hb2.trans (hb.mono (by omega)))).more (show w.heap.size ≤ W.heap.size by have := hb.size; omega))
  have hq1 := fun W (hb : Below (w.heap.size + 2) W2 W) => equal_any tA tA' tn tc tn' tc' tok tok' W _ _ (hms W hb).1.t (hms W hb).2.t
  have hq2 := fun W (hb : Below (w.heap.size + 2) W2 W) => eqf_any W oA oA' on on' oc oc' vs vs' ps ps' (hms W hb).1.o (hms W hb).2.o (by omega) (by omega)
  have hq3 := fun W (hb : Below (w.heap.size + 2) W2 W) => equal_any bA bA' bn bc bn' bc' body body' W _ _ (hms W hb).1.b (hms W hb).2.b
  have hcl := fun W (hb : Below (w.heap.size + 2) W2 W) => hb2.trans (hb.mono (show w.heap.size ≤ w.heap.size + 2 by omega))
  generalize decide (tok = tok') = q1 at *
  generalize decide (ps = ps') = q2 at *
  generalize decide (body = body') = q3 at *
  obtain ⟨⟨c0, c1, c2, c3, c4, c5⟩, ⟨c0', c1', c2', c3', c4', c5'⟩⟩ := hcs W2 (Below.refl _ _)
  have HO := Lib.hid (And.intro hcs (And.intro hq1 (And.intro hq2 (And.intro hq3 hcl))))
  have HW := Lib.hid hW2
  have HS := Lib.hid hs2
  clear hm hW2 hs2 hb2 hcs hms hq1 hq2 hq3 hcl h1 h2 hn1 hn2 hl1 hl2
  by_cases hk : kd = kd'
  · subst hk
    have bk : (kd == kd) = true := beq_self_eq_true _
    by_cases hc : cd = cd'
    · subst hc
      have bc : (cd == cd) = true := beq_self_eq_true _
      by_cases hi : id = id'
      · subst hi
        have bi : (id == id) = true := beq_self_eq_true _
        cases q1 with
        | false =>
          go_enter Try.func32, Try.ntmps32
          go_wp2_with fail
          rw [HW.out]
          refine (HO.out.2.1 W2 (Below.refl _ _)).mono ?_
          rintro e w3 ⟨rfl, hw3⟩
          have b3 : Below (w.heap.size + 2) W2 w3 := hw3 ▸ Below.refl _ _
          have H3 := Lib.hid b3
          obtain ⟨⟨d0, d1, d2, d3, d4, d5⟩, ⟨d0', d1', d2', d3', d4', d5'⟩⟩ := HO.out.1 w3 b3
          clear hw3 b3 c0 c1 c2 c3 c4 c5 c0' c1' c2' c3' c4' c5'
          go_wp2
          go_ret
          exact ⟨retB (by simp), HO.out.2.2.2.2 w3 H3.out⟩
        | true =>
          cases q2 with
          | false =>
            go_enter Try.func32, Try.ntmps32
            go_wp2_with fail
            rw [HW.out]
            refine (HO.out.2.1 W2 (Below.refl _ _)).mono ?_
            rintro e w3 ⟨rfl, hw3⟩
            have b3 : Below (w.heap.size + 2) W2 w3 := hw3 ▸ Below.refl _ _
            have H3 := Lib.hid b3
            obtain ⟨⟨d0, d1, d2, d3, d4, d5⟩, ⟨d0', d1', d2', d3', d4', d5'⟩⟩ := HO.out.1 w3 b3
            clear hw3 b3 c0 c1 c2 c3 c4 c5 c0' c1' c2' c3' c4' c5'
            go_wp2_with fail
            refine (HO.out.2.2.1 w3 H3.out).mono ?_
            rintro e w4 ⟨rfl, b4⟩
            have H4 : Hid (Below (w.heap.size + 2) W2 w4) := Lib.hid (H3.out.trans (b4.mono (by have := H3.out.size; have := HS.out; omega)))
            obtain ⟨⟨c0, c1, c2, c3, c4, c5⟩, ⟨c0', c1', c2', c3', c4', c5'⟩⟩ := HO.out.1 w4 H4.out
            clear b4 d0 d1 d2 d3 d4 d5 d0' d1' d2' d3' d4' d5'
            go_wp2
            go_ret
            exact ⟨retB (by simp), HO.out.2.2.2.2 w4 H4.out⟩
          | true =>
            go_enter Try.func32, Try.ntmps32
            go_wp2_with fail
            rw [HW.out]
            refine (HO.out.2.1 W2 (Below.refl _ _)).mono ?_
            rintro e w3 ⟨rfl, hw3⟩
            have b3 : Below (w.heap.size + 2) W2 w3 := hw3 ▸ Below.refl _ _
            have H3 := Lib.hid b3
            obtain ⟨⟨d0, d1, d2, d3, d4, d5⟩, ⟨d0', d1', d2', d3', d4', d5'⟩⟩ := HO.out.1 w3 b3
            clear hw3 b3 c0 c1 c2 c3 c4 c5 c0' c1' c2' c3' c4' c5'
            go_wp2_with fail
            refine (HO.out.2.2.1 w3 H3.out).mono ?_
            rintro e w4 ⟨rfl, b4⟩
            have H4 : Hid (Below (w.heap.size + 2) W2 w4) := Lib.hid (H3.out.trans (b4.mono (by have := H3.out.size; have := HS.out; omega)))
            obtain ⟨⟨c0, c1, c2, c3, c4, c5⟩, ⟨c0', c1', c2', c3', c4', c5'⟩⟩ := HO.out.1 w4 H4.out
            clear b4 d0 d1 d2 d3 d4 d5 d0' d1' d2' d3' d4' d5'
            go_wp2_with fail
            refine (HO.out.2.2.2.1 w4 H4.out).mono ?_
            rintro e w5 ⟨rfl, hw5⟩
            have H5 : Hid (Below (w.heap.size + 2) W2 w5) := Lib.hid (hw5 ▸ H4.out)
            clear hw5
            go_wp2
            go_ret
            exact ⟨retB (by simp), HO.out.2.2.2.2 w5 H5.out⟩
      · have bi : (id == id') = false := beq_eq_false_iff_ne.2 hi
        have HK := Lib.hid hi
        clear hi
        go_enter Try.func32, Try.ntmps32
        go_wp2
        go_ret
        exact ⟨retB (by simp [HK.out]), HW.out ▸ HO.out.2.2.2.2 W2 (Below.refl _ _)⟩
    · have bc : (cd == cd') = false := beq_eq_false_iff_ne.2 hc
      have HK := Lib.hid hc
      clear hc
      go_enter Try.func32, Try.ntmps32
      go_wp2
      go_ret
      exact ⟨retB (by simp [HK.out]), HW.out ▸ HO.out.2.2.2.2 W2 (Below.refl _ _)⟩
  · have bk : (kd == kd') = false := beq_eq_false_iff_ne.2 hk
    have HK := Lib.hid hk
    clear hk
    go_enter Try.func32, Try.ntmps32
    go_wp2
    go_ret
    exact ⟨retB (by simp [HK.out]), HW.out ▸ HO.out.2.2.2.2 W2 (Below.refl _ _)⟩
set_option maxHeartbeats 4000000 in
theorem rmsame_f (a b : Mq) (tA oA bA tA' oA' bA' : Option Addr) (tn tc on oc bn bc tn' tc' on' oc' bn' bc' : Nat) (vs vs' : List Sv) (w : World) (h1 : Ms w w.heap.size tA tn oA on vs bA bn a.tok a.ps a.body) (h2 : Ms w w.heap.size tA' tn' oA' on' vs' bA' bn' b.tok b.ps b.body)
    (hn1 : (tn : Int) ≤ 1099511627776 ∧ (on : Int) ≤ 1099511627776 ∧ (bn : Int) ≤ 1099511627776) (hn2 : (tn' : Int) ≤ 1099511627776 ∧ (on' : Int) ≤ 1099511627776 ∧ (bn' : Int) ≤ 1099511627776) (hl1 : ∀ x, x ∈ a.ps → x.2.length ≤ 1099511627776) (hl2 : ∀ x, x ∈ b.ps → x.2.length ≤ 1099511627776) :
    Calls Try.prog 12 #[.agg #[.int .i64 a.kd, .int .i64 a.cd, .int .i64 a.id, .slice tA tn tc, .slice oA on oc, .slice bA bn bc], .agg #[.int .i64 b.kd, .int .i64 b.cd, .int .i64 b.id, .slice tA' tn' tc', .slice oA' on' oc', .slice bA' bn' bc']] w fun e w' => e = .returned (.bool (mqB a b)) ∧ Below w.heap.size w w' := by
  obtain ⟨kd, cd, id, tok, ps, body⟩ := a
  obtain ⟨kd', cd', id', tok', ps', body'⟩ := b
  dsimp only at h1 h2 hl1 hl2 ⊢
  have hm : mqB ⟨kd, cd, id, tok, ps, body⟩ ⟨kd', cd', id', tok', ps', body'⟩ = (decide (kd = kd') && decide (cd = cd') && decide (id = id') && decide (tok = tok') && decide (ps = ps') && decide (body = body')) := by
    unfold mqB; rw [Bool.eq_iff_iff]; simp [and_assoc]
  rw [hm]
  obtain ⟨W2, hW2⟩ : ∃ W2, (w.alloc (.cells #[.int .i64 kd, .int .i64 cd, .int .i64 id, .slice tA tn tc, .slice oA on oc, .slice bA bn bc] 26)).alloc (.cells #[.int .i64 kd', .int .i64 cd', .int .i64 id', .slice tA' tn' tc', .slice oA' on' oc', .slice bA' bn' bc'] 26) = W2 := ⟨_, rfl⟩
  have hs2 : W2.heap.size = w.heap.size + 2 := by rw [← hW2, alloc_size, alloc_size]
  have hb2 : Below w.heap.size w W2 := by rw [← hW2]; exact ((Below.refl _ _).alloc (Nat.le_refl _) _).alloc (by rw [alloc_size]; omega) _
  have hcs := fun W (hb : Below (w.heap.size + 2) W2 W) => six2 (hW2 ▸ hb)
  have hms := fun W (hb : Below (w.heap.size + 2) W2 W) => And.intro ((h1.below (hb2.trans (hb.mono (by omega)))).more (show w.heap.size ≤ W.heap.size by have := hb.size; omega)) ((h2.below (hb2.trans (hb.mono (by omega)))).more (show w.heap.size ≤ W.heap.size by have := hb.size; omega))
  have hq1 := fun W (hb : Below (w.heap.size + 2) W2 W) => same_any tA tA' tn tc tn' tc' tok tok' W _ _ (hms W hb).1.t (hms W hb).2.t (by omega) (by omega)
  have hq2 := fun W (hb : Below (w.heap.size + 2) W2 W) => osame_any W oA oA' on on' oc oc' vs vs' ps ps' (hms W hb).1.o (hms W hb).2.o (by omega) (by omega) hl1 hl2
  have hq3 := fun W (hb : Below (w.heap.size + 2) W2 W) => same_any bA bA' bn bc bn' bc' body body' W _ _ (hms W hb).1.b (hms W hb).2.b (by omega) (by omega)
  have hcl := fun W (hb : Below (w.heap.size + 2) W2 W) => hb2.trans (hb.mono (show w.heap.size ≤ w.heap.size + 2 by omega))
  generalize decide (tok = tok') = q1 at *
  generalize decide (ps = ps') = q2 at *
  generalize decide (body = body') = q3 at *
  obtain ⟨⟨c0, c1, c2, c3, c4, c5⟩, ⟨c0', c1', c2', c3', c4', c5'⟩⟩ := hcs W2 (Below.refl _ _)
  have HO := Lib.hid (And.intro hcs (And.intro hq1 (And.intro hq2 (And.intro hq3 hcl))))
  have HW := Lib.hid hW2
  have HS := Lib.hid hs2
  clear hm hW2 hs2 hb2 hcs hms hq1 hq2 hq3 hcl h1 h2 hn1 hn2 hl1 hl2
  by_cases hk : kd = kd'
  · subst hk
    have bk : (kd == kd) = true := beq_self_eq_true _
    by_cases hc : cd = cd'
    · subst hc
      have bc : (cd == cd) = true := beq_self_eq_true _
      by_cases hi : id = id'
      · subst hi
        have bi : (id == id) = true := beq_self_eq_true _
        cases q1 with
        | false =>
          go_enter Try.func12, Try.ntmps12
          go_wp2_with fail
          rw [HW.out]
          refine (HO.out.2.1 W2 (Below.refl _ _)).mono ?_
          rintro e w3 ⟨rfl, m3, hw3⟩
          have b3 : Below (w.heap.size + 2) W2 w3 := hw3 ▸ drewN_below _ _ m3
          have H3 := Lib.hid b3
          obtain ⟨⟨d0, d1, d2, d3, d4, d5⟩, ⟨d0', d1', d2', d3', d4', d5'⟩⟩ := HO.out.1 w3 b3
          clear hw3 b3 c0 c1 c2 c3 c4 c5 c0' c1' c2' c3' c4' c5'
          go_wp2
          go_ret
          exact ⟨retB (by simp), HO.out.2.2.2.2 w3 H3.out⟩
        | true =>
          cases q2 with
          | false =>
            go_enter Try.func12, Try.ntmps12
            go_wp2_with fail
            rw [HW.out]
            refine (HO.out.2.1 W2 (Below.refl _ _)).mono ?_
            rintro e w3 ⟨rfl, m3, hw3⟩
            have b3 : Below (w.heap.size + 2) W2 w3 := hw3 ▸ drewN_below _ _ m3
            have H3 := Lib.hid b3
            obtain ⟨⟨d0, d1, d2, d3, d4, d5⟩, ⟨d0', d1', d2', d3', d4', d5'⟩⟩ := HO.out.1 w3 b3
            clear hw3 b3 c0 c1 c2 c3 c4 c5 c0' c1' c2' c3' c4' c5'
            go_wp2_with fail
            refine (HO.out.2.2.1 w3 H3.out).mono ?_
            rintro e w4 ⟨rfl, b4⟩
            have H4 : Hid (Below (w.heap.size + 2) W2 w4) := Lib.hid (H3.out.trans (b4.mono (by have := H3.out.size; have := HS.out; omega)))
            obtain ⟨⟨c0, c1, c2, c3, c4, c5⟩, ⟨c0', c1', c2', c3', c4', c5'⟩⟩ := HO.out.1 w4 H4.out
            clear b4 d0 d1 d2 d3 d4 d5 d0' d1' d2' d3' d4' d5'
            go_wp2
            go_ret
            exact ⟨retB (by simp), HO.out.2.2.2.2 w4 H4.out⟩
          | true =>
            go_enter Try.func12, Try.ntmps12
            go_wp2_with fail
            rw [HW.out]
            refine (HO.out.2.1 W2 (Below.refl _ _)).mono ?_
            rintro e w3 ⟨rfl, m3, hw3⟩
            have b3 : Below (w.heap.size + 2) W2 w3 := hw3 ▸ drewN_below _ _ m3
            have H3 := Lib.hid b3
            obtain ⟨⟨d0, d1, d2, d3, d4, d5⟩, ⟨d0', d1', d2', d3', d4', d5'⟩⟩ := HO.out.1 w3 b3
            clear hw3 b3 c0 c1 c2 c3 c4 c5 c0' c1' c2' c3' c4' c5'
            go_wp2_with fail
            refine (HO.out.2.2.1 w3 H3.out).mono ?_
            rintro e w4 ⟨rfl, b4⟩
            have H4 : Hid (Below (w.heap.size + 2) W2 w4) := Lib.hid (H3.out.trans (b4.mono (by have := H3.out.size; have := HS.out; omega)))
            obtain ⟨⟨c0, c1, c2, c3, c4, c5⟩, ⟨c0', c1', c2', c3', c4', c5'⟩⟩ := HO.out.1 w4 H4.out
            clear b4 d0 d1 d2 d3 d4 d5 d0' d1' d2' d3' d4' d5'
            go_wp2_with fail
            refine (HO.out.2.2.2.1 w4 H4.out).mono ?_
            rintro e w5 ⟨rfl, m5, hw5⟩
            have H5 : Hid (Below (w.heap.size + 2) W2 w5) := Lib.hid (H4.out.trans (hw5 ▸ drewN_below _ _ m5))
            clear hw5
            go_wp2
            go_ret
            exact ⟨retB (by simp), HO.out.2.2.2.2 w5 H5.out⟩
      · have bi : (id == id') = false := beq_eq_false_iff_ne.2 hi
        have HK := Lib.hid hi
        clear hi
        go_enter Try.func12, Try.ntmps12
        go_wp2
        go_ret
        exact ⟨retB (by simp [HK.out]), HW.out ▸ HO.out.2.2.2.2 W2 (Below.refl _ _)⟩
    · have bc : (cd == cd') = false := beq_eq_false_iff_ne.2 hc
      have HK := Lib.hid hc
      clear hc
      go_enter Try.func12, Try.ntmps12
      go_wp2
      go_ret
      exact ⟨retB (by simp [HK.out]), HW.out ▸ HO.out.2.2.2.2 W2 (Below.refl _ _)⟩
  · have bk : (kd == kd') = false := beq_eq_false_iff_ne.2 hk
    have HK := Lib.hid hk
    clear hk
    go_enter Try.func12, Try.ntmps12
    go_wp2
    go_ret
    exact ⟨retB (by simp [HK.out]), HW.out ▸ HO.out.2.2.2.2 W2 (Below.refl _ _)⟩
end Go.Proofs.Ytdgihhepmmkkpaa
