/-
  The document's examples of layer 16, and PathOpts: all options tell the path, the pairs and the conditions, or have the errors, that the document says.
-/
import Derived.Test.YtbclgalocipmfaaDoorPaRCond
import Derived.Test.YtbclgalocipmfaaDoorPaCond
import Derived.Test.YtbclgalocipmfaaDoorPaRead
import Derived.Test.YtbclgalocipmfaaDoorPlAlive
namespace Go.Proofs.YtbclgalocipmfaaDoor
open Go.RowKit
set_option maxRecDepth 100000
set_option linter.unusedVariables false
theorem at_lit {α : Type} {z : Nat} (K : RowK α z) (w : World) (t : TypeId) (cs : Array Value) (fr : Nat × Nat) (X : List α) (h : cs.toList = K.all X) : K.At (w.alloc (.cells cs t fr)) (w.heap.size + 1) (some ⟨w.heap.size, 0, none⟩) X.length X :=
  ⟨rfl, fun _ => ⟨w.heap.size, 0, rfl, Nat.lt_succ_self _, fun i s hs j u hj => by
    rw [Nat.zero_add, cell_of_row _ _ _ _ _ _ (heap_alloc_new w _), ← Array.getElem?_toList, h]
    exact K.all_get X i s j u hs hj⟩⟩
set_option maxHeartbeats 2000000 in
theorem sameints_f (A1 A2 : Option Addr) (n1 c1 n2 c2 : Nat) (l1 l2 : List Int) (w : World) (B1 B2 : Nat) (h1 : inK.At w B1 A1 n1 l1) (h2 : inK.At w B2 A2 n2 l2) (hn : n1 ≤ 1000000) (hn2 : n2 ≤ 1000000) :
    Calls Tryd.prog 19 #[.slice A1 n1 c1, .slice A2 n2 c2] w fun e w' => e = .returned (.bool (decide (l1 = l2))) ∧ ∃ m, w' = w.drewN m := by
  have hl1 := Lib.hid h1.len
  have hl2 := Lib.hid h2.len
  have hnI : (n1 : Int) ≤ 1000000 := by omega
  have hnJ : (n2 : Int) ≤ 1000000 := by omega
  by_cases hne : n1 = n2
  · obtain rfl := hne
    have hb : ((n1 : Int) != (n1 : Int)) = false := by simp
    go_enter Tryd.func19, Tryd.ntmps19
    go_wp2
    go_loopw [5] (fun i wr => ∃ k : Nat, k ≤ n1 ∧ i = .int .i64 k ∧ Aside (l1.take k = l2.take k ∧ ∃ m, wr = w.drewN m)) (fun i _ => n1 - (intOf i).toNat)
    case atStart => exact ⟨0, by omega, rfl, (show Aside _ from ⟨rfl, 0, rfl⟩)⟩
    case round =>
      obtain ⟨k, hk, rfl, hrel⟩ := hrel
      obtain ⟨htk, q, rfl⟩ := hrel.out
      have Htk := Lib.hid htk; clear htk hrel
      by_cases hlt : k < n1
      · have hltI : (k : Int) < n1 := by omega
        obtain ⟨b1, o1, rfl, hb1, hc1⟩ := h1.place (by omega)
        obtain ⟨b2, o2, rfl, hb2, hc2⟩ := h2.place (by omega)
        obtain ⟨u1, hu1⟩ := h1.get hlt
        obtain ⟨u2, hu2⟩ := h2.get hlt
        have hk1 : w.cell? ⟨b1, o1 + k, none⟩ = some (.int .i64 u1) := by have := hc1 k u1 hu1 0 _ rfl; rwa [Nat.mul_one, Nat.add_zero] at this
        have hk2 : w.cell? ⟨b2, o2 + k, none⟩ = some (.int .i64 u2) := by have := hc2 k u2 hu2 0 _ rfl; rwa [Nat.mul_one, Nat.add_zero] at this
        clear hc1 hc2
        by_cases hu : u1 = u2
        · subst hu
          have huu : (u1 != u1) = false := by simp
          have huv : (u1 == u1) = true := beq_self_eq_true _
          have Hu := Lib.hid (And.intro hu1 hu2)
          clear hu1 hu2
          go_wp2
          go_quiet (fail)
          go_wp2
          go_roundw
          case rel => exact ⟨k + 1, by omega, by go_num, (show Aside _ from ⟨by rw [List.take_add_one, List.take_add_one, Htk.out, Hu.out.1, Hu.out.2], _, rfl⟩)⟩
          case measure => simp [intOf]; omega
        · have huu : (u1 != u2) = true := bne_iff_ne.2 hu
          have huv : (u1 == u2) = false := beq_eq_false_iff_ne.2 hu
          have Hd : Hid (l1 ≠ l2) := by
            intro e; subst e; rw [hu1] at hu2; exact hu (Option.some.inj hu2)
          clear hu1 hu2
          go_wp2
          go_quiet (fail)
          go_wp2
          go_ret
          exact ⟨retB (decide_eq_false Hd.out).symm, q + nq, World.drewN_drewN ..⟩
      · have hltI : ¬ (k : Int) < n1 := by omega
        go_wp2
        go_ret
        refine ⟨retB (decide_eq_true ?_).symm, _, rfl⟩
        have h3 := Htk.out
        rwa [List.take_of_length_le (by rw [hl1.out]; omega), List.take_of_length_le (by rw [hl2.out]; omega)] at h3
  · have hb : ((n1 : Int) != (n2 : Int)) = true := by rw [bne_iff_ne]; omega
    have hbn : ¬ (n1 : Int) = (n2 : Int) := by omega
    have Hd : Hid (l1 ≠ l2) := by intro e; subst e; exact hne (hl1.out.symm.trans hl2.out)
    clear hne
    go_enter Tryd.func19, Tryd.ntmps19
    go_wp2
    go_ret
    exact ⟨retB (decide_eq_false Hd.out).symm, 0, rfl⟩
theorem pe_1 : readP [47, 53, 47, 48, 47, 51] = some [5, 0, 3] := by decide +kernel
theorem pe_2 : readP [53, 47, 48] = none := by decide +kernel
theorem pe_3 : numsQ (allO 11 (opOf 11 [⟨#[53]⟩, ⟨#[48]⟩])) = some [5, 0] := by decide +kernel
theorem pe_4 : numsQ (allO 11 (opOf 11 [⟨#[53]⟩, ⟨#[120]⟩])) = none := by decide +kernel
def pq_5 : List Pr := [⟨⟨#[112, 109, 105, 110]⟩, ⟨#[49, 48]⟩, false⟩, ⟨⟨#[112, 109, 97, 120]⟩, ⟨#[53]⟩, false⟩]
def pq_6 : List Pr := [⟨⟨#[103, 116]⟩, ⟨#[45, 53]⟩, false⟩]
def pq_7 : List Pr := [⟨⟨#[120]⟩, ⟨#[]⟩, true⟩]
theorem pe_5 : (condQ ((allO 15 (opPr pq_5)).map pairQ)).2 = (false, 1) := by decide +kernel
theorem pe_6 : (condQ ((allO 15 (opPr pq_6)).map pairQ)).2 = (true, 0) := by decide +kernel
theorem pe_6g : (condQ ((allO 15 (opPr pq_6)).map pairQ)).1.g = -5 := by decide +kernel
theorem pe_6h : (condQ ((allO 15 (opPr pq_6)).map pairQ)).1.hg = true := by decide +kernel
theorem pe_7 : ((allO 15 (opPr pq_7)).map pairQ).map (·.bare) = [true] := by decide +kernel
theorem itoa_3 : Lib.itoa 3 = [51] := by simp [Lib.itoa, Lib.decDigits]
theorem pe_8 : textP [5, 0, 3] = [47, 53, 47, 48, 47, 51] := by
  unfold textP textQ
  rw [show rightP [5, 0, 3] = true from by decide +kernel]
  simp only [List.flatMap_cons, List.flatMap_nil, itoa_5, itoa_0, itoa_3]
  rfl
theorem pe_9 : rightP [5, 0, 3] = true := by decide +kernel
theorem pe_10 : rightP [-1] = false := by decide +kernel
theorem pe_11 : (strs (allO 11 (opOf 11 [⟨#[97]⟩]))).length = 1 := by decide +kernel
/-- What is read stands in each later world. -/
theorem ints_later {zs : List Int} {w w1 w' : World} {A : Option Addr} {n c : Nat} (h : w1.ownsRow w.heap.size 3 1 (.slice A n c) n (inK.all zs)) (hb : Below w1.heap.size w1 w') : inK.At w' w1.heap.size A n zs := by
  obtain ⟨A', c', e, _, _, hat, _⟩ := RowK.At.of_own h
  injection e with e1 _ e3
  subst e1 e3
  exact hat.below' hb (Nat.le_refl _)
theorem of_few {ls : List (List UInt8)} {w : World} (h : ¬ 3 < ls.length) : OfRet16 ls w = NumsRet (numsQ ls) w := by
  funext e w'
  unfold OfRet16
  rw [if_neg h]
theorem al16_opts (ss : List ByteArray) (w : World) (cs : Array Value) (hcs : cs.toList = stK.all ss) (hm : ∀ s ∈ ss, s.size ≤ 1000000) (hn : ss.length ≤ 1048576) : Calls Tryd.prog 31 #[.slice (some ⟨w.heap.size, 0, none⟩) ss.length ss.length] (w.alloc (.cells cs 9)) (RetOq (opOf 11 ss) (w.alloc (.cells cs 9))) :=
  popts_f _ _ _ ss _ (w.heap.size + 1) (at_lit stK w 9 cs (0, 0) ss hcs) (by rw [alloc_size]; exact Nat.le_refl _) hn hm
theorem al16_queries (ps : List Pr) (w : World) (cs : Array Value) (hcs : cs.toList = prK.all ps) (hm : ∀ p ∈ ps, p.nm.size ≤ 1000000 ∧ p.vl.size ≤ 1000000) (hn : ps.length ≤ 1048576) : Calls Tryd.prog 32 #[.slice (some ⟨w.heap.size, 0, none⟩) ps.length ps.length] (w.alloc (.cells cs 60)) (RetOq (opPr ps) (w.alloc (.cells cs 60))) :=
  pqueries_f _ _ _ ps _ (w.heap.size + 1) (at_lit prK w 60 cs (0, 0) ps hcs) (by rw [alloc_size]; exact Nat.le_refl _) hn hm
set_option maxHeartbeats 8000000 in
theorem alive16_f (w : World) (hT : Tab7 w) : Calls Tryd.prog 12 #[] w fun e w' => e = .returned (.bool true) ∧ Below w.heap.size w w' := by
  have HT := Lib.hid fun W (h : Below w.heap.size w W) => hT.below h
  clear hT
  go_enter Tryd.func12, Tryd.ntmps12
  go_wp2_with fail
  have c1 := pread_f ⟨#[47, 53, 47, 48, 47, 51]⟩ (by decide) w (HT.out w (Below.refl _ _)).e
  rw [show readP (ByteArray.data ⟨#[47, 53, 47, 48, 47, 51]⟩).toList = some [5, 0, 3] from pe_1] at c1
  refine c1.mono ?_
  rintro e w1 ⟨A1, n1, d1, rfl, hnc1, hn1, hown1, hb1⟩
  obtain rfl : n1 = 3 := hn1.out
  have H1 := Lib.hid (And.intro hb1 hown1)
  clear c1 hnc1 hn1 hown1 hb1
  try dsimp only
  go_wp2_with fail
  have c2 := pread_f ⟨#[53, 47, 48]⟩ (by decide) w1 (HT.out w1 H1.out.1).e
  rw [show readP (ByteArray.data ⟨#[53, 47, 48]⟩).toList = none from pe_2] at c2
  refine c2.mono ?_
  rintro e w2 ⟨rfl, b2⟩
  have H2 := Lib.hid (And.intro (H1.out.1.trans (b2.mono H1.out.1.size)) (And.intro b2 H1.out.2))
  clear c2 b2
  try dsimp only
  go_wp2_with fail
  refine (al16_opts [⟨#[53]⟩, ⟨#[48]⟩] w2 #[.string ⟨#[53]⟩, .string ⟨#[48]⟩] rfl (by decide) (by decide)).mono ?_
  rintro e w3 ⟨A3, n3, d3, us3, rfl, hnc3, hn3, hos3, b3⟩
  obtain rfl : n3 = 2 := hn3.out
  have k3 := (alloc_below w2 (.cells #[.string ⟨#[53]⟩, .string ⟨#[48]⟩] 9)).trans (b3.mono (alloc_below w2 _).size)
  have H3 := Lib.hid (And.intro (H2.out.1.trans (k3.mono H2.out.1.size)) (And.intro (H2.out.2.1.trans (k3.mono H2.out.2.1.size)) hos3))
  clear b3 k3 hos3 hn3 hnc3
  try dsimp only
  go_wp2_with fail
  have c4 := pof_f A3 2 d3 us3 _ w3 _ H3.out.2.2 (Nat.le_refl _) (by decide) (by decide) (HT.out w3 H3.out.1).e
  rw [of_few (by decide), pe_3] at c4
  refine c4.mono ?_
  rintro e w4 ⟨A4, n4, d4, rfl, hnc4, hn4, hown4, b4⟩
  obtain rfl : n4 = 2 := hn4.out
  have H4 := Lib.hid (And.intro (H3.out.1.trans (b4.mono H3.out.1.size)) (H3.out.2.1.trans (b4.mono H3.out.2.1.size)))
  clear b4 c4 hown4 hn4 hnc4
  try dsimp only
  go_wp2_with fail
  refine (al16_opts [⟨#[53]⟩, ⟨#[120]⟩] w4 #[.string ⟨#[53]⟩, .string ⟨#[120]⟩] rfl (by decide) (by decide)).mono ?_
  rintro e w5 ⟨A5, n5, d5, us5, rfl, hnc5, hn5, hos5, b5⟩
  obtain rfl : n5 = 2 := hn5.out
  have k5 := (alloc_below w4 (.cells #[.string ⟨#[53]⟩, .string ⟨#[120]⟩] 9)).trans (b5.mono (alloc_below w4 _).size)
  have H5 := Lib.hid (And.intro (H4.out.1.trans (k5.mono H4.out.1.size)) (And.intro (H4.out.2.trans (k5.mono H4.out.2.size)) hos5))
  clear b5 k5 hos5 hn5 hnc5
  try dsimp only
  go_wp2_with fail
  have c6 := pof_f A5 2 d5 us5 _ w5 _ H5.out.2.2 (Nat.le_refl _) (by decide) (by decide) (HT.out w5 H5.out.1).e
  rw [of_few (by decide), pe_4] at c6
  refine c6.mono ?_
  rintro e w6 ⟨rfl, b6⟩
  have H6 := Lib.hid (And.intro (H5.out.1.trans (b6.mono H5.out.1.size)) (H5.out.2.1.trans (b6.mono H5.out.2.1.size)))
  clear b6 c6
  try dsimp only
  go_wp2_with fail
  refine (al16_queries pq_5 w6 #[.string ⟨#[112, 109, 105, 110]⟩, .string ⟨#[49, 48]⟩, .bool false, .string ⟨#[112, 109, 97, 120]⟩, .string ⟨#[53]⟩, .bool false] rfl (by decide) (by decide)).mono ?_
  rintro e w7 ⟨A7, n7, d7, us7, rfl, hnc7, hn7, hos7, b7⟩
  obtain rfl : n7 = 2 := hn7.out
  have k7 := (alloc_below w6 (.cells #[.string ⟨#[112, 109, 105, 110]⟩, .string ⟨#[49, 48]⟩, .bool false, .string ⟨#[112, 109, 97, 120]⟩, .string ⟨#[53]⟩, .bool false] 60)).trans (b7.mono (alloc_below w6 _).size)
  have H7 := Lib.hid (And.intro (H6.out.1.trans (k7.mono H6.out.1.size)) (And.intro (H6.out.2.trans (k7.mono H6.out.2.size)) hos7))
  clear b7 k7 hos7 hn7 hnc7
  try dsimp only
  go_wp2_with fail
  have c8 := cond_f A7 2 d7 us7 _ w7 _ H7.out.2.2 (Nat.le_refl _) (by decide) (by decide) (HT.out w7 H7.out.1).e
  obtain ⟨⟨q8, x8, y8⟩, hq8⟩ : ∃ q, condQ ((allO 15 (opPr pq_5)).map pairQ) = q := ⟨_, rfl⟩
  have p8 := pe_5
  rw [hq8] at c8 p8
  obtain ⟨rfl, rfl⟩ : x8 = false ∧ y8 = 1 := Prod.mk.inj p8
  obtain ⟨a8, b8, ha8, hb8, g8, l8, s8, hg8, hl8, hs8⟩ := q8
  clear p8 hq8
  unfold condE Cq.vals at c8
  dsimp only at c8
  refine c8.mono ?_
  rintro e w9 ⟨rfl, b9⟩
  have H9 := Lib.hid (And.intro (H7.out.1.trans (b9.mono H7.out.1.size)) (H7.out.2.1.trans (b9.mono H7.out.2.1.size)))
  clear b9 c8
  try dsimp only
  go_wp2_with fail
  obtain ⟨W9, hW9⟩ : ∃ W9, w9.alloc (.cells #[.int .i64 a8, .int .i64 b8, .bool ha8, .bool hb8, .int .i64 g8, .int .i64 l8, .int .i64 s8, .bool hg8, .bool hl8, .bool hs8] 47) = W9 := ⟨_, rfl⟩
  have kA := alloc_below w9 (.cells #[.int .i64 a8, .int .i64 b8, .bool ha8, .bool hb8, .int .i64 g8, .int .i64 l8, .int .i64 s8, .bool hg8, .bool hl8, .bool hs8] 47)
  have hz9 : w9.heap.size + 1 = W9.heap.size := by rw [← hW9, alloc_size]
  rw [hW9] at kA ⊢
  rw [hz9]
  have HA := Lib.hid (And.intro (H9.out.1.trans (kA.mono H9.out.1.size)) (H9.out.2.trans (kA.mono H9.out.2.size)))
  clear kA hW9 hz9
  refine (al16_queries pq_6 W9 #[.string ⟨#[103, 116]⟩, .string ⟨#[45, 53]⟩, .bool false] rfl (by decide) (by decide)).mono ?_
  rintro e wB ⟨AB, nB, dB, usB, rfl, hncB, hnB, hosB, bB⟩
  obtain rfl : nB = 1 := hnB.out
  have kB := (alloc_below W9 (.cells #[.string ⟨#[103, 116]⟩, .string ⟨#[45, 53]⟩, .bool false] 60)).trans (bB.mono (alloc_below W9 _).size)
  have HB := Lib.hid (And.intro (HA.out.1.trans (kB.mono HA.out.1.size)) (And.intro (HA.out.2.trans (kB.mono HA.out.2.size)) hosB))
  clear bB kB hosB hnB hncB
  try dsimp only
  go_wp2_with fail
  have cC := cond_f AB 1 dB usB _ wB _ HB.out.2.2 (Nat.le_refl _) (by decide) (by decide) (HT.out wB HB.out.1).e
  obtain ⟨⟨qC, xC, yC⟩, hqC⟩ : ∃ q, condQ ((allO 15 (opPr pq_6)).map pairQ) = q := ⟨_, rfl⟩
  have pC := pe_6
  have pCg := pe_6g
  have pCh := pe_6h
  rw [hqC] at cC pC pCg pCh
  obtain ⟨rfl, rfl⟩ : xC = true ∧ yC = 0 := Prod.mk.inj pC
  obtain ⟨aC, bC, haC, hbC, gC, lC, sC, hgC, hlC, hsC⟩ := qC
  obtain rfl : gC = -5 := pCg
  obtain rfl : hgC = true := pCh
  clear pC hqC
  unfold condE Cq.vals at cC
  dsimp only at cC
  refine cC.mono ?_
  rintro e wD ⟨rfl, bD⟩
  have kD := alloc_below wD (.cells #[.int .i64 aC, .int .i64 bC, .bool haC, .bool hbC, .int .i64 (-5), .int .i64 lC, .int .i64 sC, .bool true, .bool hlC, .bool hsC] 47)
  have rD := range_newV wD #[.int .i64 aC, .int .i64 bC, .bool haC, .bool hbC, .int .i64 (-5), .int .i64 lC, .int .i64 sC, .bool true, .bool hlC, .bool hsC] 47 rfl
  have HD := Lib.hid (And.intro (HB.out.1.trans ((bD.trans (kD.mono bD.size)).mono HB.out.1.size)) (And.intro (HB.out.2.1.trans ((bD.trans (kD.mono bD.size)).mono HB.out.2.1.size)) (And.intro rD (alloc_size wD (.cells #[.int .i64 aC, .int .i64 bC, .bool haC, .bool hbC, .int .i64 (-5), .int .i64 lC, .int .i64 sC, .bool true, .bool hlC, .bool hsC] 47)))))
  clear bD cC kD rD
  try dsimp only
  go_wp2_with fail
  obtain ⟨WD, hWD⟩ : ∃ WD, wD.alloc (.cells #[.int .i64 aC, .int .i64 bC, .bool haC, .bool hbC, .int .i64 (-5), .int .i64 lC, .int .i64 sC, .bool true, .bool hlC, .bool hsC] 47) = WD := ⟨_, rfl⟩
  have hzD : wD.heap.size + 1 = WD.heap.size := by rw [← hWD, alloc_size]
  rw [hWD] at HD ⊢
  rw [hzD]
  obtain ⟨gD, hgD⟩ : ∃ gD, wD.heap.size = gD := ⟨_, rfl⟩
  rw [hgD] at HD ⊢
  clear hWD hgD hzD
  refine (al16_queries pq_7 WD #[.string ⟨#[120]⟩, .string ⟨#[]⟩, .bool true] rfl (by decide) (by decide)).mono ?_
  rintro e wE ⟨AE, nE, dE, usE, rfl, hncE, hnE, hosE, bE⟩
  obtain rfl : nE = 1 := hnE.out
  have kE := (alloc_below WD (.cells #[.string ⟨#[120]⟩, .string ⟨#[]⟩, .bool true] 60)).trans (bE.mono (alloc_below WD _).size)
  have HE := Lib.hid (And.intro (HD.out.1.trans (kE.mono HD.out.1.size)) (And.intro (HD.out.2.1.trans (kE.mono HD.out.2.1.size)) (And.intro hosE (And.intro (range_below HD.out.2.2.1 kE (by have := HD.out.2.2.2; omega)) (Nat.lt_of_lt_of_le (show gD < WD.heap.size by have := HD.out.2.2.2; omega) kE.size)))))
  clear bE kE hosE hnE hncE
  try dsimp only
  go_wp2_with fail
  have cF := query_f AE 1 dE usE _ wE _ HE.out.2.2.1 (Nat.le_refl _) (by decide) (by decide)
  obtain ⟨qs, hqs⟩ : ∃ qs, (allO 15 (opPr pq_7)).map pairQ = qs := ⟨_, rfl⟩
  have pF := pe_7
  rw [hqs] at cF pF
  obtain ⟨p7, rfl, hp7⟩ : ∃ p7 : Pr, qs = [p7] ∧ p7.bare = true := by
    cases qs with
    | nil => cases pF
    | cons p r => cases r with
      | nil => exact ⟨p, rfl, by injection pF⟩
      | cons q r => simp at pF
  obtain ⟨nm7, vl7, bare7⟩ := p7
  obtain rfl : bare7 = true := hp7
  clear pF hqs
  refine cF.mono ?_
  rintro e wF ⟨AF, nF, dF, rfl, hncF, hnF, hownF, bF⟩
  obtain rfl : nF = 1 := hnF.out
  obtain ⟨A', c', e2, _, _, hatF, _⟩ := RowK.At.of_own hownF
  injection e2 with q1 _ q3
  subst q1 q3
  obtain ⟨bb, boff, rfl, hbb, hrF⟩ := hatF.place (by decide)
  have hrF0 := hrF 0 _ rfl
  rw [Nat.zero_mul, Nat.add_zero] at hrF0
  have HF := Lib.hid (And.intro (HE.out.1.trans (bF.mono HE.out.1.size)) (And.intro (HE.out.2.1.trans (bF.mono HE.out.2.1.size)) (And.intro hrF0 (And.intro hbb (And.intro (range_below HE.out.2.2.2.1 bF HE.out.2.2.2.2) (Nat.lt_of_lt_of_le HE.out.2.2.2.2 bF.size))))))
  clear bF cF hownF hnF hncF hatF hrF hrF0 hbb
  try dsimp only
  go_wp2_with fail
  have hal := alloc_below wF (.cells #[.int .i64 5, .int .i64 0, .int .i64 3] 3)
  have hlit := at_lit inK wF 3 #[.int .i64 5, .int .i64 0, .int .i64 3] (0, 0) [5, 0, 3] rfl
  have kup : Below w1.heap.size w1 (wF.alloc (.cells #[.int .i64 5, .int .i64 0, .int .i64 3] 3)) := HF.out.2.1.trans (hal.mono HF.out.2.1.size)
  have cG := sameints_f A1 (some ⟨wF.heap.size, 0, none⟩) 3 d1 3 3 [5, 0, 3] [5, 0, 3] _ _ _ (ints_later H1.out.2 kup) hlit (by decide) (by decide)
  have HG := Lib.hid (And.intro cG (And.intro (HF.out.1.trans (hal.mono HF.out.1.size)) (And.intro kup (And.intro hal (Nat.lt_of_lt_of_le HF.out.2.2.2.1 hal.size)))))
  clear hal hlit kup cG
  refine HG.out.1.mono ?_
  rintro e wG ⟨rfl, mG, hwG⟩
  have bG : Below wF.heap.size wF wG := by rw [hwG]; exact HG.out.2.2.2.1.trans (drewN_below _ _ _)
  have HH := Lib.hid (And.intro (HF.out.1.trans (bG.mono HF.out.1.size)) (And.intro (HF.out.2.1.trans (bG.mono HF.out.2.1.size)) (And.intro (range_below HF.out.2.2.1 bG HF.out.2.2.2.1) (And.intro (Nat.lt_of_lt_of_le HF.out.2.2.2.1 bG.size) (And.intro (range_below HF.out.2.2.2.2.1 bG HF.out.2.2.2.2.2) (Nat.lt_of_lt_of_le HF.out.2.2.2.2.2 bG.size))))))
  clear hwG bG
  try dsimp only
  go_wp2_with fail
  have cI := ptext_f A1 3 d1 [5, 0, 3] wG _ (ints_later H1.out.2 HH.out.2.1) HH.out.2.1.size (HT.out wG HH.out.1).d
  rw [pe_8] at cI
  refine cI.mono ?_
  rintro e wI ⟨rfl, bI⟩
  have HI := Lib.hid (And.intro (HH.out.1.trans (bI.mono HH.out.1.size)) (HH.out.2.1.trans (bI.mono HH.out.2.1.size)))
  obtain ⟨z0, z1, z2, z3, z4, z5, z6, z7, z8, z9⟩ := ten (range_below HH.out.2.2.2.2.1 bI HH.out.2.2.2.2.2)
  have y2 : wI.cell? ⟨bb, boff + 2, none⟩ = some (.bool true) := range_below HH.out.2.2.1 bI HH.out.2.2.2.1 2 _ rfl
  clear bI cI
  try dsimp only
  go_wp2_with fail
  refine (pright_f A1 3 d1 [5, 0, 3] wI _ (ints_later H1.out.2 HI.out.2) HI.out.2.size).mono ?_
  rw [pe_9]
  rintro e wJ ⟨rfl, bJ⟩
  have HJ := Lib.hid (HI.out.1.trans (bJ.mono HI.out.1.size))
  clear bJ z0 z1 z2 z3 z4 z5 z6 z7 z8 z9 y2
  try dsimp only
  go_wp2_with fail
  refine (pright_f (some ⟨wJ.heap.size, 0, none⟩) 1 1 [-1] (wJ.alloc (.cells #[.int .i64 (-1)] 3)) (wJ.heap.size + 1) (at_lit inK wJ 3 #[.int .i64 (-1)] (0, 0) [-1] rfl) (by rw [alloc_size]; exact Nat.le_refl _)).mono ?_
  rw [pe_10]
  rintro e wK ⟨rfl, bK⟩
  have kK := (alloc_below wJ (.cells #[.int .i64 (-1)] 3)).trans (bK.mono (alloc_below wJ _).size)
  have HK := Lib.hid (HJ.out.trans (kK.mono HJ.out.size))
  clear bK kK
  try dsimp only
  go_wp2_with fail
  refine (al16_opts [⟨#[97]⟩] wK #[.string ⟨#[97]⟩] rfl (by decide) (by decide)).mono ?_
  rintro e wL ⟨AL, nL, dL, usL, rfl, hncL, hnL, hosL, bL⟩
  obtain rfl : nL = 1 := hnL.out
  have kL := (alloc_below wK (.cells #[.string ⟨#[97]⟩] 9)).trans (bL.mono (alloc_below wK _).size)
  have HL := Lib.hid (And.intro (HK.out.trans (kL.mono HK.out.size)) hosL)
  clear bL kL hosL hnL hncL
  try dsimp only
  go_wp2_with fail
  refine (segs_f AL 1 dL usL _ wL _ HL.out.2 (Nat.le_refl _) (by decide) (by decide)).mono ?_
  rintro e wM ⟨AM, nM, dM, rfl, hncM, hnM, hownM, bM⟩
  obtain rfl : nM = 1 := hnM.out.trans pe_11
  have HM := Lib.hid (HL.out.1.trans (bM.mono HL.out.1.size))
  clear bM hownM hnM hncM
  try dsimp only
  go_wp2
  go_ret
  exact ⟨rfl, HM.out⟩
def fewB (ps : List (Int × List UInt8)) : Bool := decide (ps.length ≤ 40) && ps.all fun x => decide (x.2.length ≤ 400)
theorem fewB_iff (ps : List (Int × List UInt8)) : fewB ps = true ↔ ps.length ≤ 40 ∧ ∀ x ∈ ps, x.2.length ≤ 400 := by
  unfold fewB
  rw [Bool.and_eq_true, decide_eq_true_iff, List.all_eq_true]
  constructor
  · rintro ⟨a, b⟩; exact ⟨a, fun x hx => of_decide_eq_true (b x hx)⟩
  · rintro ⟨a, b⟩; exact ⟨a, fun x hx => decide_eq_true (b x hx)⟩
set_option maxHeartbeats 2000000 in
theorem few_f (A : Option Addr) (n c : Nat) (vs : List Sv) (ps : List (Int × List UInt8)) (w : World) (B : Nat) (hos : Os w B A n vs ps) (hn : (n : Int) ≤ 9223372036854775807) :
    Calls Tryd.prog 20 #[.slice A n c] w fun e w' => e = .returned (.bool (fewB ps)) ∧ w' = w := by
  have hpl := hos.plen
  by_cases h40 : (40 : Int) < n
  · have hr : fewB ps = false := by unfold fewB; rw [decide_eq_false (by omega)]; rfl
    have HR := Lib.hid hr
    clear hr hos hpl
    go_enter Tryd.func20, Tryd.ntmps20
    go_wp2
    go_ret
    exact ⟨retB HR.out.symm, rfl⟩
  · have HO := Lib.hid (And.intro hos hpl)
    clear hos hpl
    go_enter Tryd.func20, Tryd.ntmps20
    go_wp2
    go_loop [3] (fun i => ∃ k : Nat, k ≤ n ∧ i = .int .i64 k ∧ Hid (∀ x ∈ ps.take k, x.2.length ≤ 400)) (fun i => n - (intOf i).toNat)
    case atStart => exact ⟨0, by omega, rfl, fun x hx => by simp at hx⟩
    case round =>
      obtain ⟨k, hk, rfl, hall⟩ := hrel
      by_cases hlt : k < n
      · obtain ⟨b, off, rfl, hb, hc⟩ := HO.out.1.sh.place (by omega)
        obtain ⟨s, hs⟩ := sv_get HO.out.1.sh hlt
        obtain ⟨l, hl, hbs⟩ := HO.out.1.get hs
        have c1 := (hc k s hs).2
        have hsl := hbs.len
        obtain ⟨sk, sA, sn, sc⟩ := s
        dsimp only at c1 hsl hl
        have hltI : (k : Int) < n := by omega
        by_cases h4 : (400 : Int) < sn
        · have hr : fewB ps = false := by
            have : ¬ fewB ps = true := fun e => by
              have := ((fewB_iff ps).1 e).2 _ (List.mem_of_getElem? hl)
              simp only at this
              omega
            cases e : fewB ps with
            | true => exact absurd e this
            | false => rfl
          have HR := Lib.hid hr
          clear hr hc hs hl hbs hsl
          go_wp2
          go_ret
          exact ⟨retB HR.out.symm, rfl⟩
        · have HS : Hid (∀ x ∈ ps.take (k + 1), x.2.length ≤ 400) := Lib.hid (fun x hx => by
            rw [List.take_add_one, hl] at hx
            rcases List.mem_append.1 hx with h | h
            · exact hall.out x h
            · obtain rfl := List.mem_singleton.1 h
              show l.length ≤ 400
              omega)
          clear hc hs hl hbs hsl
          go_wp2
          go_round
          case rel => exact ⟨k + 1, by omega, by go_num, HS⟩
          case measure => simp [intOf]; omega
      · obtain rfl : k = n := by omega
        have hr : fewB ps = true := (fewB_iff ps).2 ⟨by have := HO.out.2; omega, fun x hx => hall.out x (by rw [List.take_of_length_le (by have := HO.out.2; omega)]; exact hx)⟩
        have HR := Lib.hid hr
        clear hr
        go_wp2
        go_ret
        exact ⟨retB HR.out.symm, rfl⟩
/-- What a message's path is told as: its numbers, the error's number. -/
def ofV (ls : List (List UInt8)) : List Int × Int := if 3 < ls.length then ([], 3) else match numsQ ls with | none => ([], 20) | some zs => (zs, 0)
theorem numsQ_len : ∀ {ls : List (List UInt8)} {zs : List Int}, numsQ ls = some zs → zs.length = ls.length
  | [], zs, h => by injection h with h; subst h; rfl
  | x :: r, zs, h => by
    rw [numsQ] at h
    split at h
    · cases h
    · split at h
      · cases h
      · rename_i q hq
        injection h with h
        subst h
        rw [List.length_cons, numsQ_len hq, List.length_cons]
theorem ofV_len (ls : List (List UInt8)) : (ofV ls).1.length ≤ ls.length := by
  unfold ofV
  split
  · exact Nat.zero_le _
  · split
    · exact Nat.zero_le _
    · rename_i zs hz
      rw [numsQ_len hz]; exact Nat.le_refl _
theorem OfRet16.shape {ls : List (List UInt8)} {w w' : World} {e : Ending} (h : OfRet16 ls w e w') : ∃ A n c, e = .returned (.tuple #[.slice A n c, .int .i64 (ofV ls).2]) ∧ inK.At w' w'.heap.size A n (ofV ls).1 ∧ Below w.heap.size w w' := by
  unfold OfRet16 at h
  unfold ofV
  split at h
  · rename_i h3
    rw [if_pos h3]
    exact ⟨none, 0, 0, h.1, RowK.At.nil_ _ _ _, h.2⟩
  · rename_i h3
    rw [if_neg h3]
    unfold NumsRet at h
    split at h
    · rename_i hq
      rw [hq]
      exact ⟨none, 0, 0, h.1, RowK.At.nil_ _ _ _, h.2⟩
    · rename_i zs hq
      rw [hq]
      obtain ⟨A, n, c, e1, hc, hn, hown, hb⟩ := h
      exact ⟨A, n, c, e1, own_at hown, hb⟩
theorem cq_refl (a b : Int) (ha hb : Bool) (g l s : Int) (hg hl hs : Bool) (w : World) : (binOp .eql 47 (.agg #[.int .i64 a, .int .i64 b, .bool ha, .bool hb, .int .i64 g, .int .i64 l, .int .i64 s, .bool hg, .bool hl, .bool hs]) (.agg #[.int .i64 a, .int .i64 b, .bool ha, .bool hb, .int .i64 g, .int .i64 l, .int .i64 s, .bool hg, .bool hl, .bool hs])).run Tryd.prog w = .ok (.bool true) w := by
  have hS : Tryd.prog.underlying 47 = some (.struct (Tryd.prog.fieldsOf 47)) := by kernel_rfl
  have hp : Tryd.prog.stoodInHeld 47 = false := by kernel_rfl
  have u2 := Tryd.underlying2
  have a2 := Tryd.isAgg2
  have z2 := Tryd.sizeOf2
  have u4 := Tryd.underlying4
  have a4 := Tryd.isAgg4
  have z4 := Tryd.sizeOf4
  have q1 : (a == a) = true := beq_self_eq_true _
  have q2 : (b == b) = true := beq_self_eq_true _
  have q3 : (g == g) = true := beq_self_eq_true _
  have q4 : (l == l) = true := beq_self_eq_true _
  have q5 : (s == s) = true := beq_self_eq_true _
  have q6 : (ha == ha) = true := beq_self_eq_true _
  have q7 : (hb == hb) = true := beq_self_eq_true _
  have q8 : (hg == hg) = true := beq_self_eq_true _
  have q9 : (hl == hl) = true := beq_self_eq_true _
  have q0 : (hs == hs) = true := beq_self_eq_true _
  rw [run_eql_struct, show (10000 : Nat) = 9999 + 1 from rfl, run_equalIn_agg w 9999 47 _ _ hS hp]
  simp only [Program.fieldsOf, Tryd.underlying47]
  go_simp
set_option maxHeartbeats 16000000 in
theorem popts_law (A : Option Addr) (n c : Nat) (vs : List Sv) (ps : List (Int × List UInt8)) (w : World) (hos : Os w w.heap.size A n vs ps) (hcm : n ≤ maxLen) (hT : Tab7 w) :
    Calls Tryd.prog 5 #[.slice A n c] w fun e w' => e = .returned (.bool true) ∧ Below w.heap.size w w' := by
  have hnI : (n : Int) ≤ 9223372036854775807 := by simp only [maxLen] at hcm; omega
  have HT := Lib.hid fun W (h : Below w.heap.size w W) => hT.below h
  have HL := Lib.hid (alive16_f w hT)
  have hfew := fun W (b : Below w.heap.size w W) => few_f A n c vs ps W _ (hos.below b) hnI
  clear hT
  obtain ⟨q, hq⟩ : ∃ q, fewB ps = q := ⟨_, rfl⟩
  rw [hq] at hfew
  cases q with
  | false =>
    have HF := Lib.hid hfew
    clear hfew hq hos
    go_enter Tryd.func5, Tryd.ntmps5
    go_wp2_with fail
    refine HL.out.mono ?_
    rintro e w1 ⟨rfl, b1⟩
    have H1 := Lib.hid b1
    clear b1
    try dsimp only
    go_wp2_with fail
    refine (HF.out w1 H1.out).mono ?_
    rintro e w2 ⟨rfl, hw⟩
    obtain rfl := hw.symm
    go_wp2
    go_ret
    exact ⟨rfl, H1.out⟩
  | true =>
    have hfw := (fewB_iff ps).1 hq
    have hn40 : n ≤ 40 := by have := hos.plen; omega
    have hmx : ∀ x ∈ ps, x.2.length ≤ 1000000 := fun x hx => by have := hfw.2 x hx; omega
    have hnm : n ≤ 1048576 := by omega
    have hl11 : (allO 11 ps).length ≤ 40 := by have := allO_len 11 ps; have := hfw.1; omega
    have hl15 : (allO 15 ps).length ≤ 40 := by have := allO_len 15 ps; have := hfw.1; omega
    have c1 := fun W (b : Below w.heap.size w W) => pof_f A n c vs ps W _ (hos.below b) b.size hnm hmx (HT.out W b).e
    have c2 := fun W (b : Below w.heap.size w W) => rof_f A n c vs ps W _ (hos.below b) b.size hnm hmx
    have c3 := fun W (b : Below w.heap.size w W) => cond_f A n c vs ps W _ (hos.below b) b.size hnm hmx (HT.out W b).e
    have c4 := fun W (b : Below w.heap.size w W) => rcond_f A n c vs ps W _ (hos.below b) b.size hnm hmx
    have c5 := fun W (b : Below w.heap.size w W) => segs_f A n c vs ps W _ (hos.below b) b.size hnm hmx
    have c6 := fun W (b : Below w.heap.size w W) => rsegs_f A n c vs ps W _ (hos.below b) b.size hnm
    have c7 := fun W (b : Below w.heap.size w W) => query_f A n c vs ps W _ (hos.below b) b.size hnm hmx
    have c8 := fun W (b : Below w.heap.size w W) => rquery_f A n c vs ps W _ (hos.below b) b.size hnm hmx
    have hvl := ofV_len (allO 11 ps)
    obtain ⟨⟨⟨ca, cb, cha, chb, cg, cl, cs, chg, chl, chs⟩, sm, er4⟩, hR⟩ : ∃ R, condQ ((allO 15 ps).map pairQ) = R := ⟨_, rfl⟩
    rw [hR] at c3 c4
    obtain ⟨⟨zs, er1⟩, hV⟩ : ∃ V, ofV (allO 11 ps) = V := ⟨_, rfl⟩
    rw [hV] at hvl
    have hz40 : zs.length ≤ 40 := by dsimp only at hvl; omega
    have HC := Lib.hid (And.intro hfew (And.intro c1 (And.intro c2 (And.intro c3 (And.intro c4 (And.intro c5 (And.intro c6 (And.intro c7 c8))))))))
    have HV := Lib.hid (And.intro hV (And.intro hz40 (And.intro hl11 hl15)))
    have he1 : (er1 == er1) = true := beq_self_eq_true _
    have he4 : (er4 == er4) = true := beq_self_eq_true _
    have hsm : (sm == sm) = true := beq_self_eq_true _
    have hce := fun W => cq_refl ca cb cha chb cg cl cs chg chl chs W
    have hgd : Tryd.prog.eqGuardType Tryd.prog.depth 47 = false := by kernel_rfl
    clear hfew c1 c2 c3 c4 c5 c6 c7 c8 hV hvl hz40 hl11 hl15 hfw hmx hnm hn40 hos hq hR
    go_enter Tryd.func5, Tryd.ntmps5
    go_wp2_with fail
    refine HL.out.mono ?_
    rintro e w1 ⟨rfl, b1⟩
    have H1 := Lib.hid b1
    clear b1
    try dsimp only
    go_wp2_with fail
    refine (HC.out.1 w1 H1.out).mono ?_
    rintro e w2 ⟨rfl, hw⟩
    obtain rfl := hw.symm
    try dsimp only
    go_wp2_with fail
    refine (HC.out.2.1 w1 H1.out).mono ?_
    intro e w2 h2
    obtain ⟨A2, n2, c2, rfl, hat2, b2⟩ := OfRet16.shape h2
    rw [HV.out.1] at hat2
    have H2 := Lib.hid (And.intro (H1.out.trans (b2.mono H1.out.size)) hat2)
    clear h2 hat2 b2
    rw [HV.out.1]
    try dsimp only
    go_wp2_with fail
    refine (HC.out.2.2.1 w2 H2.out.1).mono ?_
    intro e w3 h3
    obtain ⟨Wm, h3, hWm⟩ := h3
    obtain ⟨A3, n3, c3, rfl, hat3, b3⟩ := OfRet16.shape h3
    rw [HV.out.1] at hat3
    have b3' := hWm.trans (b3.mono hWm.size)
    have H3 := Lib.hid (And.intro (H2.out.1.trans (b3'.mono H2.out.1.size)) (And.intro (H2.out.2.below b3') (hat3)))
    have hsz3 := b3'.size
    have HS3 := Lib.hid hsz3
    clear h3 hat3 b3 b3' hWm hsz3
    rw [HV.out.1]
    try dsimp only
    go_wp2_with fail
    refine (HC.out.2.2.2.1 w3 H3.out.1).mono ?_
    rintro e w4 ⟨rfl, b4⟩
    have hal4 := alloc_below w4 (.cells #[.int .i64 ca, .int .i64 cb, .bool cha, .bool chb, .int .i64 cg, .int .i64 cl, .int .i64 cs, .bool chg, .bool chl, .bool chs] 47)
    have r4 := range_newV w4 #[.int .i64 ca, .int .i64 cb, .bool cha, .bool chb, .int .i64 cg, .int .i64 cl, .int .i64 cs, .bool chg, .bool chl, .bool chs] 47 (vs := [.int .i64 ca, .int .i64 cb, .bool cha, .bool chb, .int .i64 cg, .int .i64 cl, .int .i64 cs, .bool chg, .bool chl, .bool chs]) rfl
    have b4' := b4.trans (hal4.mono b4.size)
    have H4 := Lib.hid (And.intro (H3.out.1.trans (b4'.mono H3.out.1.size)) (And.intro b4' r4))
    clear b4 b4' hal4 r4
    unfold condE
    dsimp only [Cq.vals]
    go_wp2_with fail
    refine (HC.out.2.2.2.2.1 _ H4.out.1).mono ?_
    rintro e w5 ⟨rfl, b5⟩
    have hal5 := alloc_below w5 (.cells #[.int .i64 ca, .int .i64 cb, .bool cha, .bool chb, .int .i64 cg, .int .i64 cl, .int .i64 cs, .bool chg, .bool chl, .bool chs] 47)
    have r5 := range_newV w5 #[.int .i64 ca, .int .i64 cb, .bool cha, .bool chb, .int .i64 cg, .int .i64 cl, .int .i64 cs, .bool chg, .bool chl, .bool chs] 47 (vs := [.int .i64 ca, .int .i64 cb, .bool cha, .bool chb, .int .i64 cg, .int .i64 cl, .int .i64 cs, .bool chg, .bool chl, .bool chs]) rfl
    have b5' := b5.trans (hal5.mono b5.size)
    have r4' := range_below H4.out.2.2 b5' (by rw [alloc_size]; omega)
    have b35 := H4.out.2.1.trans (b5'.mono H4.out.2.1.size)
    have hlt4 : w4.heap.size < (w5.alloc (.cells #[.int .i64 ca, .int .i64 cb, .bool cha, .bool chb, .int .i64 cg, .int .i64 cl, .int .i64 cs, .bool chg, .bool chl, .bool chs] 47)).heap.size := by have := b5'.size; rw [alloc_size] at this; omega
    have hlt5 : w5.heap.size < (w5.alloc (.cells #[.int .i64 ca, .int .i64 cb, .bool cha, .bool chb, .int .i64 cg, .int .i64 cl, .int .i64 cs, .bool chg, .bool chl, .bool chs] 47)).heap.size := by rw [alloc_size]; omega
    have H5 := Lib.hid (And.intro (H4.out.1.trans (b5'.mono H4.out.1.size)) (And.intro (H3.out.2.1.below' b35 HS3.out) (And.intro (H3.out.2.2.below b35) (And.intro r4' (And.intro r5 (And.intro hlt4 hlt5))))))
    have HZ5 := Lib.hid (And.intro HS3.out b35.size)
    clear b5 b5' hal5 r5 r4' b35 hlt4 hlt5
    unfold condE
    dsimp only [Cq.vals]
    go_wp2_with fail
    have c9 := sameints_f A2 A3 n2 c2 n3 c3 zs zs _ _ _ H5.out.2.1 H5.out.2.2.1 (by have := H5.out.2.1.len; have := HV.out.2.1; omega) (by have := H5.out.2.2.1.len; have := HV.out.2.1; omega)
    rw [decide_eq_true rfl] at c9
    refine c9.mono ?_
    rintro e w6 ⟨rfl, m6, hw6⟩
    have b6 : Below (w5.alloc (.cells #[.int .i64 ca, .int .i64 cb, .bool cha, .bool chb, .int .i64 cg, .int .i64 cl, .int .i64 cs, .bool chg, .bool chl, .bool chs] 47)).heap.size (w5.alloc (.cells #[.int .i64 ca, .int .i64 cb, .bool cha, .bool chb, .int .i64 cg, .int .i64 cl, .int .i64 cs, .bool chg, .bool chl, .bool chs] 47)) w6 := by rw [hw6]; exact drewN_below _ _ _
    have H6 := Lib.hid (And.intro (H5.out.1.trans (b6.mono H5.out.1.size)) b6)
    clear c9 hw6 b6
    try dsimp only
    go_wp2_with fail
    refine (HC.out.2.2.2.2.2.1 w6 H6.out.1).mono ?_
    rintro e w7 ⟨A7, n7, c7, rfl, hc7, hn7, hown7, b7⟩
    have H7 := Lib.hid (And.intro (H6.out.1.trans (b7.mono H6.out.1.size)) (And.intro (H6.out.2.trans (b7.mono H6.out.2.size)) (And.intro (own_at hown7) (show n7 ≤ 1048576 by have := hn7.out; unfold strs at this; rw [List.length_map] at this; have := HV.out.2.2.1; omega))))
    clear hc7 hn7 hown7 b7
    try dsimp only
    go_wp2_with fail
    refine (HC.out.2.2.2.2.2.2.1 w7 H7.out.1).mono ?_
    rintro e w8 ⟨A8, n8, c8, rfl, hc8, hn8, hown8, b8⟩
    have hnn : n8 = n7 := by have h1 := H7.out.2.2.1.len; have h2 := hn8.out; omega
    subst hnn
    have H8 := Lib.hid (And.intro (H7.out.1.trans (b8.mono H7.out.1.size)) (And.intro (H7.out.2.1.trans (b8.mono H7.out.2.1.size)) (And.intro (H7.out.2.2.1.below b8) (And.intro (own_at hown8) b8.size))))
    clear hc8 hn8 hown8 b8
    try dsimp only
    go_wp2_with fail
    refine (sametexts_f A7 A8 n8 c7 c8 _ w8 _ _ H8.out.2.2.1 H8.out.2.2.2.1 H7.out.2.2.2).mono ?_
    rintro e w9 ⟨rfl, m9, hw9⟩
    have b9 : Below w8.heap.size w8 w9 := by rw [hw9]; exact drewN_below _ _ _
    have H9 := Lib.hid (And.intro (H8.out.1.trans (b9.mono H8.out.1.size)) (H8.out.2.1.trans (b9.mono H8.out.2.1.size)))
    clear hw9 b9
    try dsimp only
    go_wp2_with fail
    refine (HC.out.2.2.2.2.2.2.2.1 w9 H9.out.1).mono ?_
    rintro e w10 ⟨A10, n10, c10, rfl, hc10, hn10, hown10, b10⟩
    have H10 := Lib.hid (And.intro (H9.out.1.trans (b10.mono H9.out.1.size)) (And.intro (H9.out.2.trans (b10.mono H9.out.2.size)) (And.intro (own_at hown10) (show n10 ≤ 1000000 by have := hn10.out; rw [List.length_map] at this; have := HV.out.2.2.2; omega))))
    clear hc10 hn10 hown10 b10
    try dsimp only
    go_wp2_with fail
    refine (HC.out.2.2.2.2.2.2.2.2 w10 H10.out.1).mono ?_
    rintro e w11 ⟨A11, n11, c11, rfl, hc11, hn11, hown11, b11⟩
    have hnn : n11 = n10 := by have h1 := H10.out.2.2.1.len; have h2 := hn11.out; omega
    subst hnn
    have H11 := Lib.hid (And.intro (H10.out.1.trans (b11.mono H10.out.1.size)) (And.intro (H10.out.2.1.trans (b11.mono H10.out.2.1.size)) (And.intro (H10.out.2.2.1.below b11) (own_at hown11))))
    clear hc11 hn11 hown11 b11
    try dsimp only
    go_wp2_with fail
    refine (samepairs_f A10 A11 n11 c10 c11 _ w11 _ _ H11.out.2.2.1 H11.out.2.2.2 H10.out.2.2.2).mono ?_
    rintro e w12 ⟨rfl, m12, hw12⟩
    have b12 : Below w11.heap.size w11 w12 := by rw [hw12]; exact drewN_below _ _ _
    have b512 := H11.out.2.1.trans (b12.mono H11.out.2.1.size)
    have rC := range_below H5.out.2.2.2.1 b512 H5.out.2.2.2.2.2.1
    have rD := range_below H5.out.2.2.2.2.1 b512 H5.out.2.2.2.2.2.2
    have HE := Lib.hid (H11.out.1.trans (b12.mono H11.out.1.size))
    obtain ⟨x0, x1, x2, x3, x4, x5, x6, x7, x8, x9⟩ := ten rC
    obtain ⟨y0, y1, y2, y3, y4, y5, y6, y7, y8, y9⟩ := ten rD
    clear hw12 b12 b512 rC rD
    try dsimp only
    go_wp2
    go_ret
    exact ⟨rfl, HE.out⟩
end Go.Proofs.YtbclgalocipmfaaDoor
