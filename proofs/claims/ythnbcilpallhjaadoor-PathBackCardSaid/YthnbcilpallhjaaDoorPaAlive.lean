/-
  The document's examples of layer 16.
-/
import Derived.Test.YthnbcilpallhjaaDoorPaCond
import Derived.Test.YthnbcilpallhjaaDoorPaRead
import Derived.Test.YthnbcilpallhjaaDoorPlAlive
namespace Go.Proofs.YthnbcilpallhjaaDoor
open Go.RowKit
set_option maxRecDepth 100000
set_option maxRecDepth 100000
set_option linter.unusedVariables false
theorem at_lit {α : Type} {z : Nat} (K : RowK α z) (w : World) (t : TypeId) (cs : Array Value) (fr : Nat × Nat) (X : List α) (h : cs.toList = K.all X) : K.At (w.alloc (.cells cs t fr)) (w.heap.size + 1) (some ⟨w.heap.size, 0, none⟩) X.length X :=
  ⟨rfl, fun _ => ⟨w.heap.size, 0, rfl, Nat.lt_succ_self _, fun i s hs j u hj => by
    rw [Nat.zero_add, cell_of_row _ _ _ _ _ _ (heap_alloc_new w _), ← Array.getElem?_toList, h]
    exact K.all_get X i s j u hs hj⟩⟩
set_option maxHeartbeats 2000000 in
theorem sameints_f (A1 A2 : Option Addr) (n1 c1 n2 c2 : Nat) (l1 l2 : List Int) (w : World) (B1 B2 : Nat) (h1 : inK.At w B1 A1 n1 l1) (h2 : inK.At w B2 A2 n2 l2) (hn : n1 ≤ 1000000) (hn2 : n2 ≤ 1000000) :
    Calls Tryd.prog 19 #[.slice A1 n1 c1, .slice A2 n2 c2] w fun e w' => e = .returned (.bool (decide (l1 = l2))) ∧ ∃ m, w' = w.drewN m := by
  have hl1 := Lib.hid h1.len
  have hl2 := Lib.hid h2.len
  have hnI : (n1 : Int) ≤ 1000000 := by omega
  have hnJ : (n2 : Int) ≤ 1000000 := by omega
  by_cases hne : n1 = n2
  · obtain rfl := hne
    have hb : ((n1 : Int) != (n1 : Int)) = false := by simp
    go_enter Tryd.func19, Tryd.ntmps19
    go_wp2
    go_loopw [5] (fun i wr => ∃ k : Nat, k ≤ n1 ∧ i = .int .i64 k ∧ Aside (l1.take k = l2.take k ∧ ∃ m, wr = w.drewN m)) (fun i _ => n1 - (intOf i).toNat)
    case atStart => exact ⟨0, by omega, rfl, (show Aside _ from ⟨rfl, 0, rfl⟩)⟩
    case round =>
      obtain ⟨k, hk, rfl, hrel⟩ := hrel
      obtain ⟨htk, q, rfl⟩ := hrel.out
      have Htk := Lib.hid htk; clear htk hrel
      by_cases hlt : k < n1
      · have hltI : (k : Int) < n1 := by omega
        obtain ⟨b1, o1, rfl, hb1, hc1⟩ := h1.place (by omega)
        obtain ⟨b2, o2, rfl, hb2, hc2⟩ := h2.place (by omega)
        obtain ⟨u1, hu1⟩ := h1.get hlt
        obtain ⟨u2, hu2⟩ := h2.get hlt
        have hk1 : w.cell? ⟨b1, o1 + k, none⟩ = some (.int .i64 u1) := by have := hc1 k u1 hu1 0 _ rfl; rwa [Nat.mul_one, Nat.add_zero] at this
        have hk2 : w.cell? ⟨b2, o2 + k, none⟩ = some (.int .i64 u2) := by have := hc2 k u2 hu2 0 _ rfl; rwa [Nat.mul_one, Nat.add_zero] at this
        clear hc1 hc2
        by_cases hu : u1 = u2
        · subst hu
          have huu : (u1 != u1) = false := by simp
          have huv : (u1 == u1) = true := beq_self_eq_true _
          have Hu := Lib.hid (And.intro hu1 hu2)
          clear hu1 hu2
          go_wp2
          go_quiet (fail)
          go_wp2
          go_roundw
          case rel => exact ⟨k + 1, by omega, by go_num, (show Aside _ from ⟨by rw [List.take_add_one, List.take_add_one, Htk.out, Hu.out.1, Hu.out.2], _, rfl⟩)⟩
          case measure => simp [intOf]; omega
        · have huu : (u1 != u2) = true := bne_iff_ne.2 hu
          have huv : (u1 == u2) = false := beq_eq_false_iff_ne.2 hu
          have Hd : Hid (l1 ≠ l2) := by
            intro e; subst e; rw [hu1] at hu2; exact hu (Option.some.inj hu2)
          clear hu1 hu2
          go_wp2
          go_quiet (fail)
          go_wp2
          go_ret
          exact ⟨retB (decide_eq_false Hd.out).symm, q + nq, World.drewN_drewN ..⟩
      · have hltI : ¬ (k : Int) < n1 := by omega
        go_wp2
        go_ret
        refine ⟨retB (decide_eq_true ?_).symm, _, rfl⟩
        have h3 := Htk.out
        rwa [List.take_of_length_le (by rw [hl1.out]; omega), List.take_of_length_le (by rw [hl2.out]; omega)] at h3
  · have hb : ((n1 : Int) != (n2 : Int)) = true := by rw [bne_iff_ne]; omega
    have hbn : ¬ (n1 : Int) = (n2 : Int) := by omega
    have Hd : Hid (l1 ≠ l2) := by intro e; subst e; exact hne (hl1.out.symm.trans hl2.out)
    clear hne
    go_enter Tryd.func19, Tryd.ntmps19
    go_wp2
    go_ret
    exact ⟨retB (decide_eq_false Hd.out).symm, 0, rfl⟩
theorem pe_1 : readP [47, 53, 47, 48, 47, 51] = some [5, 0, 3] := by decide +kernel
theorem pe_2 : readP [53, 47, 48] = none := by decide +kernel
theorem pe_3 : numsQ (allO 11 (opOf 11 [⟨#[53]⟩, ⟨#[48]⟩])) = some [5, 0] := by decide +kernel
theorem pe_4 : numsQ (allO 11 (opOf 11 [⟨#[53]⟩, ⟨#[120]⟩])) = none := by decide +kernel
def pq_5 : List Pr := [⟨⟨#[112, 109, 105, 110]⟩, ⟨#[49, 48]⟩, false⟩, ⟨⟨#[112, 109, 97, 120]⟩, ⟨#[53]⟩, false⟩]
def pq_6 : List Pr := [⟨⟨#[103, 116]⟩, ⟨#[45, 53]⟩, false⟩]
def pq_7 : List Pr := [⟨⟨#[120]⟩, ⟨#[]⟩, true⟩]
theorem pe_5 : (condQ ((allO 15 (opPr pq_5)).map pairQ)).2 = (false, 1) := by decide +kernel
theorem pe_6 : (condQ ((allO 15 (opPr pq_6)).map pairQ)).2 = (true, 0) := by decide +kernel
theorem pe_6g : (condQ ((allO 15 (opPr pq_6)).map pairQ)).1.g = -5 := by decide +kernel
theorem pe_6h : (condQ ((allO 15 (opPr pq_6)).map pairQ)).1.hg = true := by decide +kernel
theorem pe_7 : ((allO 15 (opPr pq_7)).map pairQ).map (·.bare) = [true] := by decide +kernel
theorem itoa_3 : Lib.itoa 3 = [51] := by simp [Lib.itoa, Lib.decDigits]
theorem pe_8 : textP [5, 0, 3] = [47, 53, 47, 48, 47, 51] := by
  unfold textP textQ
  rw [show rightP [5, 0, 3] = true from by decide +kernel]
  simp only [List.flatMap_cons, List.flatMap_nil, itoa_5, itoa_0, itoa_3]
  rfl
theorem pe_9 : rightP [5, 0, 3] = true := by decide +kernel
theorem pe_10 : rightP [-1] = false := by decide +kernel
theorem pe_11 : (strs (allO 11 (opOf 11 [⟨#[97]⟩]))).length = 1 := by decide +kernel
/-- What is read stands in each later world. -/
theorem ints_later {zs : List Int} {w w1 w' : World} {A : Option Addr} {n c : Nat} (h : w1.ownsRow w.heap.size 3 1 (.slice A n c) n (inK.all zs)) (hb : Below w1.heap.size w1 w') : inK.At w' w1.heap.size A n zs := by
  obtain ⟨A', c', e, _, _, hat, _⟩ := RowK.At.of_own h
  injection e with e1 _ e3
  subst e1 e3
  exact hat.below' hb (Nat.le_refl _)
theorem of_few {ls : List (List UInt8)} {w : World} (h : ¬ 3 < ls.length) : OfRet16 ls w = NumsRet (numsQ ls) w := by
  funext e w'
  unfold OfRet16
  rw [if_neg h]
theorem al16_opts (ss : List ByteArray) (w : World) (cs : Array Value) (hcs : cs.toList = stK.all ss) (hm : ∀ s ∈ ss, s.size ≤ 1000000) (hn : ss.length ≤ 1048576) : Calls Tryd.prog 31 #[.slice (some ⟨w.heap.size, 0, none⟩) ss.length ss.length] (w.alloc (.cells cs 9)) (RetOq (opOf 11 ss) (w.alloc (.cells cs 9))) :=
  popts_f _ _ _ ss _ (w.heap.size + 1) (at_lit stK w 9 cs (0, 0) ss hcs) (by rw [alloc_size]; exact Nat.le_refl _) hn hm
theorem al16_queries (ps : List Pr) (w : World) (cs : Array Value) (hcs : cs.toList = prK.all ps) (hm : ∀ p ∈ ps, p.nm.size ≤ 1000000 ∧ p.vl.size ≤ 1000000) (hn : ps.length ≤ 1048576) : Calls Tryd.prog 32 #[.slice (some ⟨w.heap.size, 0, none⟩) ps.length ps.length] (w.alloc (.cells cs 60)) (RetOq (opPr ps) (w.alloc (.cells cs 60))) :=
  pqueries_f _ _ _ ps _ (w.heap.size + 1) (at_lit prK w 60 cs (0, 0) ps hcs) (by rw [alloc_size]; exact Nat.le_refl _) hn hm
set_option maxHeartbeats 8000000 in
theorem alive16_f (w : World) (hT : Tab7 w) : Calls Tryd.prog 12 #[] w fun e w' => e = .returned (.bool true) ∧ Below w.heap.size w w' := by
  have HT := Lib.hid fun W (h : Below w.heap.size w W) => hT.below h
  clear hT
  go_enter Tryd.func12, Tryd.ntmps12
  go_wp2_with fail
  have c1 := pread_f ⟨#[47, 53, 47, 48, 47, 51]⟩ (by decide) w (HT.out w (Below.refl _ _)).e
  rw [show readP (ByteArray.data ⟨#[47, 53, 47, 48, 47, 51]⟩).toList = some [5, 0, 3] from pe_1] at c1
  refine c1.mono ?_
  rintro e w1 ⟨A1, n1, d1, rfl, hnc1, hn1, hown1, hb1⟩
  obtain rfl : n1 = 3 := hn1.out
  have H1 := Lib.hid (And.intro hb1 hown1)
  clear c1 hnc1 hn1 hown1 hb1
  try dsimp only
  go_wp2_with fail
  have c2 := pread_f ⟨#[53, 47, 48]⟩ (by decide) w1 (HT.out w1 H1.out.1).e
  rw [show readP (ByteArray.data ⟨#[53, 47, 48]⟩).toList = none from pe_2] at c2
  refine c2.mono ?_
  rintro e w2 ⟨rfl, b2⟩
  have H2 := Lib.hid (And.intro (H1.out.1.trans (b2.mono H1.out.1.size)) (And.intro b2 H1.out.2))
  clear c2 b2
  try dsimp only
  go_wp2_with fail
  refine (al16_opts [⟨#[53]⟩, ⟨#[48]⟩] w2 #[.string ⟨#[53]⟩, .string ⟨#[48]⟩] rfl (by decide) (by decide)).mono ?_
  rintro e w3 ⟨A3, n3, d3, us3, rfl, hnc3, hn3, hos3, b3⟩
  obtain rfl : n3 = 2 := hn3.out
  have k3 := (alloc_below w2 (.cells #[.string ⟨#[53]⟩, .string ⟨#[48]⟩] 9)).trans (b3.mono (alloc_below w2 _).size)
  have H3 := Lib.hid (And.intro (H2.out.1.trans (k3.mono H2.out.1.size)) (And.intro (H2.out.2.1.trans (k3.mono H2.out.2.1.size)) hos3))
  clear b3 k3 hos3 hn3 hnc3
  try dsimp only
  go_wp2_with fail
  have c4 := pof_f A3 2 d3 us3 _ w3 _ H3.out.2.2 (Nat.le_refl _) (by decide) (by decide) (HT.out w3 H3.out.1).e
  rw [of_few (by decide), pe_3] at c4
  refine c4.mono ?_
  rintro e w4 ⟨A4, n4, d4, rfl, hnc4, hn4, hown4, b4⟩
  obtain rfl : n4 = 2 := hn4.out
  have H4 := Lib.hid (And.intro (H3.out.1.trans (b4.mono H3.out.1.size)) (H3.out.2.1.trans (b4.mono H3.out.2.1.size)))
  clear b4 c4 hown4 hn4 hnc4
  try dsimp only
  go_wp2_with fail
  refine (al16_opts [⟨#[53]⟩, ⟨#[120]⟩] w4 #[.string ⟨#[53]⟩, .string ⟨#[120]⟩] rfl (by decide) (by decide)).mono ?_
  rintro e w5 ⟨A5, n5, d5, us5, rfl, hnc5, hn5, hos5, b5⟩
  obtain rfl : n5 = 2 := hn5.out
  have k5 := (alloc_below w4 (.cells #[.string ⟨#[53]⟩, .string ⟨#[120]⟩] 9)).trans (b5.mono (alloc_below w4 _).size)
  have H5 := Lib.hid (And.intro (H4.out.1.trans (k5.mono H4.out.1.size)) (And.intro (H4.out.2.trans (k5.mono H4.out.2.size)) hos5))
  clear b5 k5 hos5 hn5 hnc5
  try dsimp only
  go_wp2_with fail
  have c6 := pof_f A5 2 d5 us5 _ w5 _ H5.out.2.2 (Nat.le_refl _) (by decide) (by decide) (HT.out w5 H5.out.1).e
  rw [of_few (by decide), pe_4] at c6
  refine c6.mono ?_
  rintro e w6 ⟨rfl, b6⟩
  have H6 := Lib.hid (And.intro (H5.out.1.trans (b6.mono H5.out.1.size)) (H5.out.2.1.trans (b6.mono H5.out.2.1.size)))
  clear b6 c6
  try dsimp only
  go_wp2_with fail
  refine (al16_queries pq_5 w6 #[.string ⟨#[112, 109, 105, 110]⟩, .string ⟨#[49, 48]⟩, .bool false, .string ⟨#[112, 109, 97, 120]⟩, .string ⟨#[53]⟩, .bool false] rfl (by decide) (by decide)).mono ?_
  rintro e w7 ⟨A7, n7, d7, us7, rfl, hnc7, hn7, hos7, b7⟩
  obtain rfl : n7 = 2 := hn7.out
  have k7 := (alloc_below w6 (.cells #[.string ⟨#[112, 109, 105, 110]⟩, .string ⟨#[49, 48]⟩, .bool false, .string ⟨#[112, 109, 97, 120]⟩, .string ⟨#[53]⟩, .bool false] 60)).trans (b7.mono (alloc_below w6 _).size)
  have H7 := Lib.hid (And.intro (H6.out.1.trans (k7.mono H6.out.1.size)) (And.intro (H6.out.2.trans (k7.mono H6.out.2.size)) hos7))
  clear b7 k7 hos7 hn7 hnc7
  try dsimp only
  go_wp2_with fail
  have c8 := cond_f A7 2 d7 us7 _ w7 _ H7.out.2.2 (Nat.le_refl _) (by decide) (by decide) (HT.out w7 H7.out.1).e
  obtain ⟨⟨q8, x8, y8⟩, hq8⟩ : ∃ q, condQ ((allO 15 (opPr pq_5)).map pairQ) = q := ⟨_, rfl⟩
  have p8 := pe_5
  rw [hq8] at c8 p8
  obtain ⟨rfl, rfl⟩ : x8 = false ∧ y8 = 1 := Prod.mk.inj p8
  obtain ⟨a8, b8, ha8, hb8, g8, l8, s8, hg8, hl8, hs8⟩ := q8
  clear p8 hq8
  unfold condE Cq.vals at c8
  dsimp only at c8
  refine c8.mono ?_
  rintro e w9 ⟨rfl, b9⟩
  have H9 := Lib.hid (And.intro (H7.out.1.trans (b9.mono H7.out.1.size)) (H7.out.2.1.trans (b9.mono H7.out.2.1.size)))
  clear b9 c8
  try dsimp only
  go_wp2_with fail
  obtain ⟨W9, hW9⟩ : ∃ W9, w9.alloc (.cells #[.int .i64 a8, .int .i64 b8, .bool ha8, .bool hb8, .int .i64 g8, .int .i64 l8, .int .i64 s8, .bool hg8, .bool hl8, .bool hs8] 47) = W9 := ⟨_, rfl⟩
  have kA := alloc_below w9 (.cells #[.int .i64 a8, .int .i64 b8, .bool ha8, .bool hb8, .int .i64 g8, .int .i64 l8, .int .i64 s8, .bool hg8, .bool hl8, .bool hs8] 47)
  have hz9 : w9.heap.size + 1 = W9.heap.size := by rw [← hW9, alloc_size]
  rw [hW9] at kA ⊢
  rw [hz9]
  have HA := Lib.hid (And.intro (H9.out.1.trans (kA.mono H9.out.1.size)) (H9.out.2.trans (kA.mono H9.out.2.size)))
  clear kA hW9 hz9
  refine (al16_queries pq_6 W9 #[.string ⟨#[103, 116]⟩, .string ⟨#[45, 53]⟩, .bool false] rfl (by decide) (by decide)).mono ?_
  rintro e wB ⟨AB, nB, dB, usB, rfl, hncB, hnB, hosB, bB⟩
  obtain rfl : nB = 1 := hnB.out
  have kB := (alloc_below W9 (.cells #[.string ⟨#[103, 116]⟩, .string ⟨#[45, 53]⟩, .bool false] 60)).trans (bB.mono (alloc_below W9 _).size)
  have HB := Lib.hid (And.intro (HA.out.1.trans (kB.mono HA.out.1.size)) (And.intro (HA.out.2.trans (kB.mono HA.out.2.size)) hosB))
  clear bB kB hosB hnB hncB
  try dsimp only
  go_wp2_with fail
  have cC := cond_f AB 1 dB usB _ wB _ HB.out.2.2 (Nat.le_refl _) (by decide) (by decide) (HT.out wB HB.out.1).e
  obtain ⟨⟨qC, xC, yC⟩, hqC⟩ : ∃ q, condQ ((allO 15 (opPr pq_6)).map pairQ) = q := ⟨_, rfl⟩
  have pC := pe_6
  have pCg := pe_6g
  have pCh := pe_6h
  rw [hqC] at cC pC pCg pCh
  obtain ⟨rfl, rfl⟩ : xC = true ∧ yC = 0 := Prod.mk.inj pC
  obtain ⟨aC, bC, haC, hbC, gC, lC, sC, hgC, hlC, hsC⟩ := qC
  obtain rfl : gC = -5 := pCg
  obtain rfl : hgC = true := pCh
  clear pC hqC
  unfold condE Cq.vals at cC
  dsimp only at cC
  refine cC.mono ?_
  rintro e wD ⟨rfl, bD⟩
  have kD := alloc_below wD (.cells #[.int .i64 aC, .int .i64 bC, .bool haC, .bool hbC, .int .i64 (-5), .int .i64 lC, .int .i64 sC, .bool true, .bool hlC, .bool hsC] 47)
  have rD := range_newV wD #[.int .i64 aC, .int .i64 bC, .bool haC, .bool hbC, .int .i64 (-5), .int .i64 lC, .int .i64 sC, .bool true, .bool hlC, .bool hsC] 47 rfl
  have HD := Lib.hid (And.intro (HB.out.1.trans ((bD.trans (kD.mono bD.size)).mono HB.out.1.size)) (And.intro (HB.out.2.1.trans ((bD.trans (kD.mono bD.size)).mono HB.out.2.1.size)) (And.intro rD (alloc_size wD (.cells #[.int .i64 aC, .int .i64 bC, .bool haC, .bool hbC, .int .i64 (-5), .int .i64 lC, .int .i64 sC, .bool true, .bool hlC, .bool hsC] 47)))))
  clear bD cC kD rD
  try dsimp only
  go_wp2_with fail
  obtain ⟨WD, hWD⟩ : ∃ WD, wD.alloc (.cells #[.int .i64 aC, .int .i64 bC, .bool haC, .bool hbC, .int .i64 (-5), .int .i64 lC, .int .i64 sC, .bool true, .bool hlC, .bool hsC] 47) = WD := ⟨_, rfl⟩
  have hzD : wD.heap.size + 1 = WD.heap.size := by rw [← hWD, alloc_size]
  rw [hWD] at HD ⊢
  rw [hzD]
  obtain ⟨gD, hgD⟩ : ∃ gD, wD.heap.size = gD := ⟨_, rfl⟩
  rw [hgD] at HD ⊢
  clear hWD hgD hzD
  refine (al16_queries pq_7 WD #[.string ⟨#[120]⟩, .string ⟨#[]⟩, .bool true] rfl (by decide) (by decide)).mono ?_
  rintro e wE ⟨AE, nE, dE, usE, rfl, hncE, hnE, hosE, bE⟩
  obtain rfl : nE = 1 := hnE.out
  have kE := (alloc_below WD (.cells #[.string ⟨#[120]⟩, .string ⟨#[]⟩, .bool true] 60)).trans (bE.mono (alloc_below WD _).size)
  have HE := Lib.hid (And.intro (HD.out.1.trans (kE.mono HD.out.1.size)) (And.intro (HD.out.2.1.trans (kE.mono HD.out.2.1.size)) (And.intro hosE (And.intro (range_below HD.out.2.2.1 kE (by have := HD.out.2.2.2; omega)) (Nat.lt_of_lt_of_le (show gD < WD.heap.size by have := HD.out.2.2.2; omega) kE.size)))))
  clear bE kE hosE hnE hncE
  try dsimp only
  go_wp2_with fail
  have cF := query_f AE 1 dE usE _ wE _ HE.out.2.2.1 (Nat.le_refl _) (by decide) (by decide)
  obtain ⟨qs, hqs⟩ : ∃ qs, (allO 15 (opPr pq_7)).map pairQ = qs := ⟨_, rfl⟩
  have pF := pe_7
  rw [hqs] at cF pF
  obtain ⟨p7, rfl, hp7⟩ : ∃ p7 : Pr, qs = [p7] ∧ p7.bare = true := by
    cases qs with
    | nil => cases pF
    | cons p r => cases r with
      | nil => exact ⟨p, rfl, by injection pF⟩
      | cons q r => simp at pF
  obtain ⟨nm7, vl7, bare7⟩ := p7
  obtain rfl : bare7 = true := hp7
  clear pF hqs
  refine cF.mono ?_
  rintro e wF ⟨AF, nF, dF, rfl, hncF, hnF, hownF, bF⟩
  obtain rfl : nF = 1 := hnF.out
  obtain ⟨A', c', e2, _, _, hatF, _⟩ := RowK.At.of_own hownF
  injection e2 with q1 _ q3
  subst q1 q3
  obtain ⟨bb, boff, rfl, hbb, hrF⟩ := hatF.place (by decide)
  have hrF0 := hrF 0 _ rfl
  rw [Nat.zero_mul, Nat.add_zero] at hrF0
  have HF := Lib.hid (And.intro (HE.out.1.trans (bF.mono HE.out.1.size)) (And.intro (HE.out.2.1.trans (bF.mono HE.out.2.1.size)) (And.intro hrF0 (And.intro hbb (And.intro (range_below HE.out.2.2.2.1 bF HE.out.2.2.2.2) (Nat.lt_of_lt_of_le HE.out.2.2.2.2 bF.size))))))
  clear bF cF hownF hnF hncF hatF hrF hrF0 hbb
  try dsimp only
  go_wp2_with fail
  have hal := alloc_below wF (.cells #[.int .i64 5, .int .i64 0, .int .i64 3] 3)
  have hlit := at_lit inK wF 3 #[.int .i64 5, .int .i64 0, .int .i64 3] (0, 0) [5, 0, 3] rfl
  have kup : Below w1.heap.size w1 (wF.alloc (.cells #[.int .i64 5, .int .i64 0, .int .i64 3] 3)) := HF.out.2.1.trans (hal.mono HF.out.2.1.size)
  have cG := sameints_f A1 (some ⟨wF.heap.size, 0, none⟩) 3 d1 3 3 [5, 0, 3] [5, 0, 3] _ _ _ (ints_later H1.out.2 kup) hlit (by decide) (by decide)
  have HG := Lib.hid (And.intro cG (And.intro (HF.out.1.trans (hal.mono HF.out.1.size)) (And.intro kup (And.intro hal (Nat.lt_of_lt_of_le HF.out.2.2.2.1 hal.size)))))
  clear hal hlit kup cG
  refine HG.out.1.mono ?_
  rintro e wG ⟨rfl, mG, hwG⟩
  have bG : Below wF.heap.size wF wG := by rw [hwG]; exact HG.out.2.2.2.1.trans (drewN_below _ _ _)
  have HH := Lib.hid (And.intro (HF.out.1.trans (bG.mono HF.out.1.size)) (And.intro (HF.out.2.1.trans (bG.mono HF.out.2.1.size)) (And.intro (range_below HF.out.2.2.1 bG HF.out.2.2.2.1) (And.intro (Nat.lt_of_lt_of_le HF.out.2.2.2.1 bG.size) (And.intro (range_below HF.out.2.2.2.2.1 bG HF.out.2.2.2.2.2) (Nat.lt_of_lt_of_le HF.out.2.2.2.2.2 bG.size))))))
  clear hwG bG
  try dsimp only
  go_wp2_with fail
  have cI := ptext_f A1 3 d1 [5, 0, 3] wG _ (ints_later H1.out.2 HH.out.2.1) HH.out.2.1.size (HT.out wG HH.out.1).d
  rw [pe_8] at cI
  refine cI.mono ?_
  rintro e wI ⟨rfl, bI⟩
  have HI := Lib.hid (And.intro (HH.out.1.trans (bI.mono HH.out.1.size)) (HH.out.2.1.trans (bI.mono HH.out.2.1.size)))
  obtain ⟨z0, z1, z2, z3, z4, z5, z6, z7, z8, z9⟩ := ten (range_below HH.out.2.2.2.2.1 bI HH.out.2.2.2.2.2)
  have y2 : wI.cell? ⟨bb, boff + 2, none⟩ = some (.bool true) := range_below HH.out.2.2.1 bI HH.out.2.2.2.1 2 _ rfl
  clear bI cI
  try dsimp only
  go_wp2_with fail
  refine (pright_f A1 3 d1 [5, 0, 3] wI _ (ints_later H1.out.2 HI.out.2) HI.out.2.size).mono ?_
  rw [pe_9]
  rintro e wJ ⟨rfl, bJ⟩
  have HJ := Lib.hid (HI.out.1.trans (bJ.mono HI.out.1.size))
  clear bJ z0 z1 z2 z3 z4 z5 z6 z7 z8 z9 y2
  try dsimp only
  go_wp2_with fail
  refine (pright_f (some ⟨wJ.heap.size, 0, none⟩) 1 1 [-1] (wJ.alloc (.cells #[.int .i64 (-1)] 3)) (wJ.heap.size + 1) (at_lit inK wJ 3 #[.int .i64 (-1)] (0, 0) [-1] rfl) (by rw [alloc_size]; exact Nat.le_refl _)).mono ?_
  rw [pe_10]
  rintro e wK ⟨rfl, bK⟩
  have kK := (alloc_below wJ (.cells #[.int .i64 (-1)] 3)).trans (bK.mono (alloc_below wJ _).size)
  have HK := Lib.hid (HJ.out.trans (kK.mono HJ.out.size))
  clear bK kK
  try dsimp only
  go_wp2_with fail
  refine (al16_opts [⟨#[97]⟩] wK #[.string ⟨#[97]⟩] rfl (by decide) (by decide)).mono ?_
  rintro e wL ⟨AL, nL, dL, usL, rfl, hncL, hnL, hosL, bL⟩
  obtain rfl : nL = 1 := hnL.out
  have kL := (alloc_below wK (.cells #[.string ⟨#[97]⟩] 9)).trans (bL.mono (alloc_below wK _).size)
  have HL := Lib.hid (And.intro (HK.out.trans (kL.mono HK.out.size)) hosL)
  clear bL kL hosL hnL hncL
  try dsimp only
  go_wp2_with fail
  refine (segs_f AL 1 dL usL _ wL _ HL.out.2 (Nat.le_refl _) (by decide) (by decide)).mono ?_
  rintro e wM ⟨AM, nM, dM, rfl, hncM, hnM, hownM, bM⟩
  obtain rfl : nM = 1 := hnM.out.trans pe_11
  have HM := Lib.hid (HL.out.1.trans (bM.mono HL.out.1.size))
  clear bM hownM hnM hncM
  try dsimp only
  go_wp2
  go_ret
  exact ⟨rfl, HM.out⟩
end Go.Proofs.YthnbcilpallhjaaDoor
