/-
  ImageMakes: every body is made an image, and all bytes are checked, as the document says.
-/
import Derived.Test.YtiieianbmldnbaaDoorImgRefCheck
import Derived.Test.YtiieianbmldnbaaDoorImgAlive
namespace Go.Proofs.YtiieianbmldnbaaDoor
open Go.RowKit
set_option maxRecDepth 100000
set_option linter.unusedVariables false
set_option maxRecDepth 100000
def mErr (nm : ByteArray) : Int := if named nm.data.toList then 0 else 1
def mOut (nm : ByteArray) (v : Int) (l : List UInt8) : List UInt8 := if named nm.data.toList then makeOf nm.data.toList v l else []
def RetM (nm : ByteArray) (v : Int) (l : List UInt8) (w : World) (e : Ending) (w' : World) : Prop :=
  ∃ A n c, e = .returned (.tuple #[.slice A n c, .int .i64 (mErr nm)]) ∧ n ≤ c ∧ (n : Int) ≤ 2064 ∧ Bs w' w'.heap.size A n (mOut nm v l) ∧ Below w.heap.size w w'
theorem retM_no {w w' : World} {nm : ByteArray} {v : Int} {l : List UInt8} {e : Ending} (hr : named nm.data.toList = false) (h : e = .returned (.tuple #[.slice none 0 0, .int .i64 1]) ∧ Below w.heap.size w w') : RetM nm v l w e w' := by
  obtain ⟨rfl, hb⟩ := h
  refine ⟨none, 0, 0, ?_, Nat.le_refl _, by omega, ?_, hb⟩
  · unfold mErr; rw [hr]; rfl
  · unfold mOut; rw [hr]; exact Bs.empty _ _ _
theorem retM_yes {w w' : World} {nm : ByteArray} {v : Int} {l : List UInt8} {e : Ending} {m : Nat} (hr : named nm.data.toList = true) (hm : (m : Int) ≤ 2064) (h : ∃ x, e = .returned (.tuple #[x, .int .i64 0]) ∧ w'.ownsRow w.heap.size 5 1 x m (U8 (makeOf nm.data.toList v l)) ∧ Below w.heap.size w w') : RetM nm v l w e w' := by
  obtain ⟨x, rfl, ho, hb⟩ := h
  obtain ⟨A, c, rfl, hc, hbs⟩ := Bs.of_own ho
  refine ⟨A, m, c, ?_, hc, hm, ?_, hb⟩
  · unfold mErr; rw [hr]; rfl
  · unfold mOut; rw [hr]; exact hbs
theorem make_all (w : World) (nm : ByteArray) (v : Int) (A : Option Addr) (n c : Nat) (l : List UInt8) (hbs : Bs w w.heap.size A n l) (hc : n ≤ c) (hn : (n : Int) ≤ 2000) (hv0 : 0 ≤ v) (hv1 : v < 4294967296) (hK : Ks w) :
    Calls Tryd.prog 17 #[.string nm, .int .u32 v, .slice A n c] w (RetM nm v l w) := by
  cases hr : named nm.data.toList with
  | false => exact (make_no w nm v A n c hr).mono fun _ _ h => retM_no hr h
  | true => exact (make_yes w nm v A n c l _ hbs (Nat.le_refl _) hc (by omega) hr hv0 hv1 hK.1 hK.2).mono fun _ _ h => retM_yes hr (by omega) h
theorem rmake_all (w : World) (nm : ByteArray) (v : Int) (A : Option Addr) (n c : Nat) (l : List UInt8) (hbs : Bs w w.heap.size A n l) (hc : n ≤ c) (hn : (n : Int) ≤ 2000) (hv0 : 0 ≤ v) (hv1 : v < 4294967296) (hK : Ks w) (hW : w.rangeAt 0 0 (W32 KS)) :
    Calls Tryd.prog 18 #[.string nm, .int .u32 v, .slice A n c] w (RetM nm v l w) := by
  have hl := hbs.len
  cases hr : named nm.data.toList with
  | false => exact (rmake_no w nm v A n c hr).mono fun _ _ h => retM_no hr h
  | true => exact (rmake_yes w nm v A n c l hbs hc hn hr hv0 hv1 hK.1 hW).mono fun _ _ h => retM_yes hr (by rw [makeOf_length hr]; omega) h
theorem body_all (A : Option Addr) (n c : Nat) (l : List UInt8) (w : World) (hbs : Bs w w.heap.size A n l) (hc : n ≤ c) (hn : (n : Int) ≤ 2000) :
    Calls Tryd.prog 21 #[.slice A n c] w fun e w' => ∃ A' N c', e = .returned (.slice A' N c') ∧ N ≤ c' ∧ (N : Int) ≤ 2000 ∧ Bs w' w'.heap.size A' N (l.drop 64) ∧ Below w.heap.size w w' := by
  have hl := hbs.len
  by_cases h : (n : Int) < 64
  · refine (body_few A n c w h).mono ?_
    rintro e w' ⟨rfl, hw⟩
    obtain rfl := hw.symm
    refine ⟨none, 0, 0, rfl, Nat.le_refl _, by omega, ?_, Below.refl _ _⟩
    rw [List.drop_eq_nil_of_le (by omega)]; exact Bs.empty _ _ _
  · refine (body_yes A n c l w _ hbs (Nat.le_refl _) hc (by omega) (by omega)).mono ?_
    intro e w' hret
    obtain ⟨A', N, c', rfl, hc', hN, hy, hb⟩ := hret.slice_
    have := hN.out
    rw [List.length_drop] at this
    exact ⟨A', N, c', rfl, hc', by omega, hy, hb⟩
/-- What lies there while the answers are held against each other. -/
structure MW (w0 : World) (h g : Nat) (P : Hd) (A1 A2 A3 A4 : Option Addr) (n1 n2 n3 n4 : Nat) (lo lb lc : List UInt8) (w : World) : Prop where
  bel : Below w0.heap.size w0 w
  mine : HdAt w h P.v P.sz ⟨P.nm.toArray⟩ P.d
  told : HdAt w g P.v P.sz ⟨P.nm.toArray⟩ P.d
  one : Bs w w.heap.size A1 n1 lo
  two : Bs w w.heap.size A2 n2 lo
  arg : Bs w w.heap.size A3 n3 lb
  beh : Bs w w.heap.size A4 n4 lc
theorem MW.step {w0 : World} {h g : Nat} {P : Hd} {A1 A2 A3 A4 : Option Addr} {n1 n2 n3 n4 : Nat} {lo lb lc : List UInt8} {w w' : World} (s : MW w0 h g P A1 A2 A3 A4 n1 n2 n3 n4 lo lb lc w) (hb : Below w.heap.size w w') : MW w0 h g P A1 A2 A3 A4 n1 n2 n3 n4 lo lb lc w' :=
  ⟨s.bel.trans (hb.mono s.bel.size), s.mine.below hb s.mine.lt, s.told.below hb s.told.lt, (s.one.below hb).more hb.size, (s.two.below hb).more hb.size, (s.arg.below hb).more hb.size, (s.beh.below hb).more hb.size⟩
/-- What each operation of the last line leaves. -/
def MkC (P : Hd) (A1 A2 A3 A4 : Option Addr) (n1 c1 n2 c2 n3 c3 n4 c4 : Nat) (lc : List UInt8) (me ce : Int) (i : Nat) (w : World) (x : Value) : Prop :=
  match i with
  | 0 => x = .int .i64 me
  | 1 => x = .int .i64 me
  | 4 => x = .slice A1 n1 c1
  | 5 => x = .slice A2 n2 c2
  | 9 => x = .int .i64 ce
  | 10 => x = .int .i64 ce
  | 14 => x = .agg (Hv P.v P.sz ⟨P.nm.toArray⟩ P.d).toArray
  | 15 => x = .agg (Hv P.v P.sz ⟨P.nm.toArray⟩ P.d).toArray
  | 16 => x = .agg (Hv P.v P.sz ⟨P.nm.toArray⟩ P.d).toArray
  | 20 => x = .slice A3 n3 c3
  | 21 => ∃ A N c, x = .slice A N c ∧ (N : Int) ≤ 2000 ∧ Bs w w.heap.size A N lc
  | 22 => x = .slice A4 n4 c4
  | _ => x = .bool true
theorem MkC.grow {P : Hd} {A1 A2 A3 A4 : Option Addr} {n1 c1 n2 c2 n3 c3 n4 c4 : Nat} {lc : List UInt8} {me ce : Int} (i : Nat) (w w' : World) (x : Value) (hb : Below w.heap.size w w') (h : MkC P A1 A2 A3 A4 n1 c1 n2 c2 n3 c3 n4 c4 lc me ce i w x) : MkC P A1 A2 A3 A4 n1 c1 n2 c2 n3 c3 n4 c4 lc me ce i w' x := by
  match i, h with
  | 21, h =>
    obtain ⟨A, N, c, e, hN, hy⟩ := h
    exact ⟨A, N, c, e, hN, (hy.below hb).more hb.size⟩
  | 0, h => exact h
  | 1, h => exact h
  | 2, h => exact h
  | 3, h => exact h
  | 4, h => exact h
  | 5, h => exact h
  | 6, h => exact h
  | 7, h => exact h
  | 8, h => exact h
  | 9, h => exact h
  | 10, h => exact h
  | 11, h => exact h
  | 12, h => exact h
  | 13, h => exact h
  | 14, h => exact h
  | 15, h => exact h
  | 16, h => exact h
  | 17, h => exact h
  | 18, h => exact h
  | 19, h => exact h
  | 20, h => exact h
  | 22, h => exact h
  | _ + 23, h => exact h
theorem checkOf_d (l : List UInt8) : (checkOf l).d.length = 32 := by
  unfold checkOf; split
  · exact readOf_d l
  · rfl
set_option maxHeartbeats 4000000 in
theorem makes_law (nm : ByteArray) (v : Int) (A1 : Option Addr) (n1 c1 : Nat) (l1 : List UInt8) (A2 : Option Addr) (n2 c2 : Nat) (l2 : List UInt8) (w : World) (hbs1 : Bs w w.heap.size A1 n1 l1) (hc1 : n1 ≤ c1) (hbs2 : Bs w w.heap.size A2 n2 l2) (hc2 : n2 ≤ c2) (hv0 : 0 ≤ v) (hv1 : v < 4294967296) (hK : Ks w) (hW : w.rangeAt 0 0 (W32 KS)) :
    Calls Tryd.prog 4 #[.string nm, .int .u32 v, .slice A1 n1 c1, .slice A2 n2 c2] w fun e w' => e = .returned (.bool true) ∧ Below w.heap.size w w' := by
  go_enter Tryd.func4, Tryd.ntmps4
  go_wp2_with fail
  refine (alive_any w hK).mono ?_
  rintro e w1 ⟨rfl, B1⟩
  have K1 := hK.step B1
  have W1 := range_below hW B1 (by have := hK.1; omega)
  have x1 := (hbs1.below B1).more B1.size
  have y1 := (hbs2.below B1).more B1.size
  clear hK hW hbs1 hbs2
  by_cases hn1 : (2000 : Int) < n1
  · go_wp2
    go_ret
    exact ⟨rfl, B1⟩
  by_cases hn2 : (2000 : Int) < n2
  · go_wp2
    go_ret
    exact ⟨rfl, B1⟩
  go_wp2_with fail
  refine (make_all w1 nm v A1 n1 c1 l1 x1 hc1 (by omega) hv0 hv1 K1).mono ?_
  rintro e w2 ⟨Aa, na, ca, rfl, hca, hna, za, b2⟩
  have B2 := B1.trans (b2.mono B1.size)
  have K2 := K1.step b2
  have W2 := range_below W1 b2 (by have := K1.1; omega)
  have x2 := (x1.below b2).more b2.size
  have y2 := (y1.below b2).more b2.size
  clear x1 y1 b2 W1 K1 B1
  go_wp2_with fail
  refine (rmake_all w2 nm v A1 n1 c1 l1 x2 hc1 (by omega) hv0 hv1 K2 W2).mono ?_
  rintro e w3 ⟨Ab, nb, cb, rfl, hcb, hnb, zb, b3⟩
  have B3 := B2.trans (b3.mono B2.size)
  have K3 := K2.step b3
  have W3 := range_below W2 b3 (by have := K2.1; omega)
  have y3 := (y2.below b3).more b3.size
  have za3 := (za.below b3).more b3.size
  clear x2 y2 b3 W2 K2 B2 za
  generalize mErr nm = me at *
  generalize mOut nm v l1 = lo at *
  have hP := checkOf_d l2
  have hr5 := fun W B hbs hB => check_any A2 n2 c2 l2 W B hbs hB hc2 (by omega)
  have hr6 := fun W B hbs hB => rcheck_any A2 n2 c2 l2 W B hbs hB hc2 (by omega)
  unfold Hd.val at hr5 hr6
  generalize checkOf l2 = P at hP hr5 hr6
  generalize (checkErr l2 : Int) = ce at hr5 hr6
  have hvs := Hv_size (v := P.v) (sz := P.sz) (nm := ⟨P.nm.toArray⟩) hP
  go_wp2_with fail
  refine (hr5 w3 _ y3 (Nat.le_refl _) K3.1 K3.2).mono ?_
  rintro e w5 ⟨rfl, b5⟩
  have B5 := B3.trans (b5.mono B3.size)
  have K5 := K3.step b5
  have W5 := range_below W3 b5 (by have := K3.1; omega)
  have y5 := (y3.below b5).more b5.size
  have za5 := (za3.below b5).more b5.size
  have zb5 := (zb.below b5).more b5.size
  clear y3 b5 W3 K3 B3 za3 zb
  go_wp2_with (first
    | (refine wpList_store_mid rfl 25 (.tmp 13) (.tmp 45) rfl w5.heap.size 0 (Hv P.v P.sz ⟨P.nm.toArray⟩ P.d).toArray rfl rfl (by rw [hvs]; exact z35_there w5 _) (by rw [size25h, hvs]) (all_oneCell_toArray (Hv_one _ _ _ _)) ?_
       refine gen_world (F := fun W => wpList Tryd.prog _ _ _ _ W) (fun W => HdAt W w5.heap.size P.v P.sz ⟨P.nm.toArray⟩ P.d ∧ Below w5.heap.size w5 W) (hd_stored w5 P.v P.sz ⟨P.nm.toArray⟩ P.d hP) ?_
       rintro w6 ⟨M6, b6⟩)
    | fail)
  have B6 := B5.trans (b6.mono B5.size)
  have K6 := K5.step b6
  have W6 := range_below W5 b6 (by have := K5.1; omega)
  have y6 := (y5.below b6).more b6.size
  have za6 := (za5.below b6).more b6.size
  have zb6 := (zb5.below b6).more b6.size
  generalize w5.heap.size = h at *
  clear y5 b6 W5 K5 za5 zb5
  refine (hr6 w6 _ y6 (Nat.le_refl _) K6.1 W6).mono ?_
  rintro e w7 ⟨rfl, b7⟩
  have B7 := B6.trans (b7.mono B6.size)
  have M7 := M6.below b7 M6.lt
  have y7 := (y6.below b7).more b7.size
  have za7 := (za6.below b7).more b7.size
  have zb7 := (zb6.below b7).more b7.size
  clear y6 b7 W6 K6 za6 zb6 M6 B6 B5 hr5 hr6
  have hst : HdAt ((w7.alloc (.cells Z35.toArray 33)).setCells w7.heap.size 0 (Hv P.v P.sz ⟨P.nm.toArray⟩ P.d)) w7.heap.size P.v P.sz ⟨P.nm.toArray⟩ P.d ∧ Below w7.heap.size w7 ((w7.alloc (.cells Z35.toArray 33)).setCells w7.heap.size 0 (Hv P.v P.sz ⟨P.nm.toArray⟩ P.d)) :=
    ⟨⟨hP, World.rangeAt_setCells_same _ _ _ _ (by rw [Hv_length hP]; exact z35_there w7 _), World.there_setCells (z35_there w7 _) _ _ _⟩, below_setCells (alloc_below w7 _) (Nat.le_refl _) _ _⟩
  have hl2 := y7.len
  by_cases h64 : (64 : Int) < n2
  · obtain ⟨bq, oq, rfl, _, _⟩ := y7.place (by omega)
    have hcc : 64 < (c2 : Int) := by omega
    have g0 : 64 ≤ (c2 : Int) := by omega
    have g1 : 64 ≤ (n2 : Int) := by omega
    have g2 : (n2 : Int) ≤ c2 := by omega
    go_wp2_with (first
      | (refine wpList_store_mid rfl 33 (.tmp 15) (.tmp 50) rfl w7.heap.size 0 (Hv P.v P.sz ⟨P.nm.toArray⟩ P.d).toArray rfl rfl (by rw [hvs]; exact z35_there w7 _) (by rw [size33h, hvs]) (all_oneCell_toArray (Hv_one _ _ _ _)) ?_
         refine gen_world (F := fun W => wpList Tryd.prog _ _ _ _ W) (fun W => HdAt W w7.heap.size P.v P.sz ⟨P.nm.toArray⟩ P.d ∧ Below w7.heap.size w7 W) hst ?_
         rintro w8 ⟨T8, b8⟩)
      | fail)
    have hG : Below w8.heap.size w8 (w8.alloc (.cells #[] 5)) := alloc_below w8 _
    have hG7 : Below w7.heap.size w7 (w8.alloc (.cells #[] 5)) := b8.trans (hG.mono b8.size)
    have hS8 : MW w h w7.heap.size P Aa Ab (some ⟨bq, oq, none⟩) (some ⟨bq, oq + 64, none⟩) na nb n2 (n2 - 64) lo l2 (l2.drop 64) (w8.alloc (.cells #[] 5)) := ⟨B7.trans (hG7.mono B7.size), M7.below hG7 M7.lt, T8.below hG T8.lt, (za7.below hG7).more hG7.size, (zb7.below hG7).more hG7.size, (y7.below hG7).more hG7.size, ((y7.drop_ 64).below hG7).more hG7.size⟩
    generalize w8.alloc (.cells #[] 5) = w9 at *
    generalize w7.heap.size = g at *
    clear hG hG7 hst B7 M7 T8 b8 za7 zb7 y7
    clear hcc g0 g1 g2
    refine wp_region_rel (MW w h g P Aa Ab (some ⟨bq, oq, none⟩) (some ⟨bq, oq + 64, none⟩) na nb n2 (n2 - 64) lo l2 (l2.drop 64)) (fun w w' => Below w.heap.size w w') (MkC P Aa Ab (some ⟨bq, oq, none⟩) (some ⟨bq, oq + 64, none⟩) na ca nb cb n2 c2 (n2 - 64) (c2 - 64) (l2.drop 64) me ce) [(10, .int .i64 me), (12, .int .i64 me), (9, .slice Aa na ca), (11, .slice Ab nb cb), (14, .int .i64 ce), (16, .int .i64 ce), (13, .pointer (some ⟨h, 0, none⟩)), (15, .pointer (some ⟨g, 0, none⟩)), (3, .slice (some ⟨bq, oq, none⟩) n2 c2), (17, .slice (some ⟨bq, oq + 64, none⟩) (n2 - 64) (c2 - 64))] (by kernel_rfl) (by kernel_rfl) (by kernel_rfl) ?base (hS8.step (drew_below _ _)) MkC.grow ?steps ?fin
    case base =>
      intro p hp
      simp only [List.mem_cons, List.not_mem_nil, or_false] at hp
      rcases hp with rfl | rfl | rfl | rfl | rfl | rfl | rfl | rfl | rfl | rfl <;> exact ⟨rfl, rfl⟩
    case steps =>
      refine steps_cons ?_ (steps_cons ?_ (steps_cons ?_ (steps_cons ?_ (steps_cons ?_ (steps_cons ?_ (steps_cons ?_ (steps_cons ?_ (steps_cons ?_ (steps_cons ?_ (steps_cons ?_ (steps_cons ?_ (steps_cons ?_ (steps_cons ?_ (steps_cons ?_ (steps_cons ?_ (steps_cons ?_ (steps_cons ?_ (steps_cons ?_ (steps_cons ?_ (steps_cons ?_ (steps_cons ?_ (steps_cons ?_ (steps_cons ?_ (steps_cons ?_ (steps_cons ?_ steps_nil)))))))))))))))))))))))))
      · intro a w0 K hS hB hR hK
        rw [if_pos (wanted_none rfl)]
        have e0 := tmp_is (hB.1)
        go_simp
        exact hK (.int .i64 me) w0 hS (Below.refl _ _) rfl
      · intro a w0 K hS hB hR hK
        rw [if_pos (wanted_none rfl)]
        have e0 := tmp_is (hB.2.1)
        go_simp
        exact hK (.int .i64 me) w0 hS (Below.refl _ _) rfl
      · intro a w0 K hS hB hR hK
        rw [if_pos (wanted_none rfl)]
        have e0 := tmp_is (hR.1)
        have e1 := tmp_is (hR.2.1)
        have e2 : (me == me) = true := beq_self_eq_true _
        go_simp
        exact hK (.bool true) w0 hS (Below.refl _ _) rfl
      · intro a w0 K hS hB hR hK
        rw [if_pos (wanted_none rfl)]
        have e0 := tmp_is (hR.1)
        go_simp
        exact hK (.bool true) w0 hS (Below.refl _ _) rfl
      · intro a w0 K hS hB hR hK
        rw [if_pos (wanted_some rfl (hR.1))]
        have e0 := tmp_is (hB.2.2.1)
        go_simp
        exact hK (.slice Aa na ca) w0 hS (Below.refl _ _) rfl
      · intro a w0 K hS hB hR hK
        rw [if_pos (wanted_some rfl (hR.1))]
        have e0 := tmp_is (hB.2.2.2.1)
        go_simp
        exact hK (.slice Ab nb cb) w0 hS (Below.refl _ _) rfl
      · intro a w0 K hS hB hR hK
        rw [if_pos (wanted_some rfl (hR.2.2.2.1))]
        have e0 := tmp_is (hR.1)
        have e1 := tmp_is (hR.2.1)
        go_simp
        refine (same_any Aa Ab na ca nb cb lo lo w0 _ _ hS.one hS.two (by omega) (by omega)).mono ?_
        rintro e w' ⟨rfl, m, rfl⟩
        rw [decide_eq_true rfl]
        exact hK _ _ (hS.step (drewN_below w0 _ m)) (drewN_below w0 _ m) rfl
      · intro a w0 K hS hB hR hK
        rw [if_pos (wanted_none rfl)]
        have e0 := tmp_is (hR.1)
        have e1 := tmp_is (hR.2.1)
        go_simp
        exact hK (.bool true) w0 hS (Below.refl _ _) rfl
      · intro a w0 K hS hB hR hK
        rw [if_pos (wanted_none rfl)]
        have e0 := tmp_is (hR.1)
        go_simp
        exact hK (.bool true) w0 hS (Below.refl _ _) rfl
      · intro a w0 K hS hB hR hK
        rw [if_pos (wanted_some rfl (hR.1))]
        have e0 := tmp_is (hB.2.2.2.2.1)
        go_simp
        exact hK (.int .i64 ce) w0 hS (Below.refl _ _) rfl
      · intro a w0 K hS hB hR hK
        rw [if_pos (wanted_some rfl (hR.1))]
        have e0 := tmp_is (hB.2.2.2.2.2.1)
        go_simp
        exact hK (.int .i64 ce) w0 hS (Below.refl _ _) rfl
      · intro a w0 K hS hB hR hK
        rw [if_pos (wanted_some rfl (hR.2.2.1))]
        have e0 := tmp_is (hR.1)
        have e1 := tmp_is (hR.2.1)
        have e2 : (ce == ce) = true := beq_self_eq_true _
        go_simp
        exact hK (.bool true) w0 hS (Below.refl _ _) rfl
      · intro a w0 K hS hB hR hK
        rw [if_pos (wanted_none rfl)]
        have e0 := tmp_is (hR.1)
        have e1 := tmp_is (hR.2.1)
        go_simp
        exact hK (.bool true) w0 hS (Below.refl _ _) rfl
      · intro a w0 K hS hB hR hK
        rw [if_pos (wanted_none rfl)]
        have e0 := tmp_is (hR.1)
        go_simp
        exact hK (.bool true) w0 hS (Below.refl _ _) rfl
      · intro a w0 K hS hB hR hK
        rw [if_pos (wanted_some rfl (hR.1))]
        refine wp_load_mid _ _ rfl _ _ (hB.2.2.2.2.2.2.1) (Hv P.v P.sz ⟨P.nm.toArray⟩ P.d) _ hS.mine.range Tryd.underlying25 rfl (by rw [size25h, Hv_length hP]) ?_
        exact hK (.agg (Hv P.v P.sz ⟨P.nm.toArray⟩ P.d).toArray) w0 hS (Below.refl _ _) rfl
      · intro a w0 K hS hB hR hK
        rw [if_pos (wanted_some rfl (hR.2.2.1))]
        have e0 := tmp_is (hR.1)
        go_simp
        refine (as_any w0 P.v P.sz ⟨P.nm.toArray⟩ P.d hP).mono ?_
        rintro e w' ⟨rfl, hb⟩
        exact hK _ _ (hS.step hb) hb rfl
      · intro a w0 K hS hB hR hK
        rw [if_pos (wanted_some rfl (hR.1))]
        refine wp_load_mid _ _ rfl _ _ (hB.2.2.2.2.2.2.2.1) (Hv P.v P.sz ⟨P.nm.toArray⟩ P.d) _ hS.told.range Tryd.underlying33 rfl (by rw [size33h, Hv_length hP]) ?_
        exact hK (.agg (Hv P.v P.sz ⟨P.nm.toArray⟩ P.d).toArray) w0 hS (Below.refl _ _) rfl
      · intro a w0 K hS hB hR hK
        rw [if_pos (wanted_some rfl (hR.2.2.1))]
        have e0 := tmp_is (hR.1)
        have e1 := tmp_is (hR.2.1)
        have hg := run_eqGuard_agg (P := Tryd.prog) w0 .eql 33 (.tmp 73) (.tmp 74) (Hv P.v P.sz ⟨P.nm.toArray⟩ P.d).toArray (Hv P.v P.sz ⟨P.nm.toArray⟩ P.d).toArray guard33
        have hq := run_eql_hd w0 P.v P.sz ⟨P.nm.toArray⟩ P.d hP
        generalize Value.agg (Hv P.v P.sz ⟨P.nm.toArray⟩ P.d).toArray = X at hg hq e0 e1
        go_simp
        exact hK (.bool true) w0 hS (Below.refl _ _) rfl
      · intro a w0 K hS hB hR hK
        rw [if_pos (wanted_none rfl)]
        have e0 := tmp_is (hR.1)
        have e1 := tmp_is (hR.2.1)
        go_simp
        exact hK (.bool true) w0 hS (Below.refl _ _) rfl
      · intro a w0 K hS hB hR hK
        rw [if_pos (wanted_none rfl)]
        have e0 := tmp_is (hR.1)
        go_simp
        exact hK (.bool true) w0 hS (Below.refl _ _) rfl
      · intro a w0 K hS hB hR hK
        rw [if_pos (wanted_some rfl (hR.1))]
        have e0 := tmp_is (hB.2.2.2.2.2.2.2.2.1)
        go_simp
        exact hK (.slice (some ⟨bq, oq, none⟩) n2 c2) w0 hS (Below.refl _ _) rfl
      · intro a w0 K hS hB hR hK
        rw [if_pos (wanted_some rfl (hR.2.2.1))]
        have e0 := tmp_is (hR.1)
        go_simp
        refine (body_all _ n2 c2 l2 w0 hS.arg hc2 (by omega)).mono ?_
        rintro e w' ⟨A', N, c', rfl, hc', hN, hy, hb⟩
        exact hK _ _ (hS.step hb) hb ⟨A', N, c', rfl, hN, hy⟩
      · intro a w0 K hS hB hR hK
        rw [if_pos (wanted_some rfl (hR.1))]
        have e0 := tmp_is (hB.2.2.2.2.2.2.2.2.2.1)
        go_simp
        exact hK (.slice (some ⟨bq, oq + 64, none⟩) (n2 - 64) (c2 - 64)) w0 hS (Below.refl _ _) rfl
      · intro a w0 K hS hB hR hK
        rw [if_pos (wanted_some rfl (hR.2.2.2.1))]
        obtain ⟨A', N, c', hv', hN, hy⟩ := hR.1
        have e0 := tmp_is hv'
        have e1 := tmp_is (hR.2.1)
        go_simp
        refine (same_any A' (some ⟨bq, oq + 64, none⟩) N c' (n2 - 64) (c2 - 64) (l2.drop 64) (l2.drop 64) w0 _ _ hy hS.beh (by omega) (by omega)).mono ?_
        rintro e w' ⟨rfl, m, rfl⟩
        rw [decide_eq_true rfl]
        exact hK _ _ (hS.step (drewN_below w0 _ m)) (drewN_below w0 _ m) rfl
      · intro a w0 K hS hB hR hK
        rw [if_pos (wanted_none rfl)]
        have e0 := tmp_is (hR.1)
        have e1 := tmp_is (hR.2.1)
        go_simp
        exact hK (.bool true) w0 hS (Below.refl _ _) rfl
      · intro a w0 K hS hB hR hK
        rw [if_pos (wanted_none rfl)]
        have e0 := tmp_is (hR.1)
        go_simp
        exact hK (.bool true) w0 hS (Below.refl _ _) rfl
    case fin =>
      intro a w' HS0 ha hR
      have r25 : a.eval (.tmp 8) = .bool true := deps_mem _ hR 25 (by decide)
      have hbel := HS0.bel
      clear hR HS0
      simp only [pin] at ha
      rw [ha]
      simp only [List.setIfInBounds_toArray, List.set_cons_zero, List.set_cons_succ, r25]
      clear ha r25
      go_wp2
      go_ret
      exact ⟨rfl, hbel⟩
  · have hd0 : l2.drop 64 = [] := List.drop_eq_nil_of_le (by omega)
    go_wp2_with (first
      | (refine wpList_store_mid rfl 33 (.tmp 15) (.tmp 50) rfl w7.heap.size 0 (Hv P.v P.sz ⟨P.nm.toArray⟩ P.d).toArray rfl rfl (by rw [hvs]; exact z35_there w7 _) (by rw [size33h, hvs]) (all_oneCell_toArray (Hv_one _ _ _ _)) ?_
         refine gen_world (F := fun W => wpList Tryd.prog _ _ _ _ W) (fun W => HdAt W w7.heap.size P.v P.sz ⟨P.nm.toArray⟩ P.d ∧ Below w7.heap.size w7 W) hst ?_
         rintro w8 ⟨T8, b8⟩)
      | fail)
    have hw8 : some (⟨w8.heap.size, 0, none⟩ : Addr) = some ⟨w8.heap.size, 0, none⟩ := rfl
    have hG : Below w8.heap.size w8 (w8.alloc (.cells #[] 5)) := alloc_below w8 _
    have hG7 : Below w7.heap.size w7 (w8.alloc (.cells #[] 5)) := b8.trans (hG.mono b8.size)
    have hS8 : MW w h w7.heap.size P Aa Ab A2 (some ⟨w8.heap.size, 0, none⟩) na nb n2 0 lo l2 (l2.drop 64) (w8.alloc (.cells #[] 5)) := ⟨B7.trans (hG7.mono B7.size), M7.below hG7 M7.lt, T8.below hG T8.lt, (za7.below hG7).more hG7.size, (zb7.below hG7).more hG7.size, (y7.below hG7).more hG7.size, by rw [hd0]; exact Bs.empty _ _ _⟩
    generalize w8.alloc (.cells #[] 5) = w9 at *
    generalize w7.heap.size = g at *
    clear hG hG7 hst B7 M7 T8 b8 za7 zb7 y7
    refine wp_region_rel (MW w h g P Aa Ab A2 (some ⟨w8.heap.size, 0, none⟩) na nb n2 0 lo l2 (l2.drop 64)) (fun w w' => Below w.heap.size w w') (MkC P Aa Ab A2 (some ⟨w8.heap.size, 0, none⟩) na ca nb cb n2 c2 0 0 (l2.drop 64) me ce) [(10, .int .i64 me), (12, .int .i64 me), (9, .slice Aa na ca), (11, .slice Ab nb cb), (14, .int .i64 ce), (16, .int .i64 ce), (13, .pointer (some ⟨h, 0, none⟩)), (15, .pointer (some ⟨g, 0, none⟩)), (3, .slice A2 n2 c2), (17, .slice (some ⟨w8.heap.size, 0, none⟩) 0 0)] (by kernel_rfl) (by kernel_rfl) (by kernel_rfl) ?base (hS8.step (drew_below _ _)) MkC.grow ?steps ?fin
    case base =>
      intro p hp
      simp only [List.mem_cons, List.not_mem_nil, or_false] at hp
      rcases hp with rfl | rfl | rfl | rfl | rfl | rfl | rfl | rfl | rfl | rfl <;> exact ⟨rfl, rfl⟩
    case steps =>
      refine steps_cons ?_ (steps_cons ?_ (steps_cons ?_ (steps_cons ?_ (steps_cons ?_ (steps_cons ?_ (steps_cons ?_ (steps_cons ?_ (steps_cons ?_ (steps_cons ?_ (steps_cons ?_ (steps_cons ?_ (steps_cons ?_ (steps_cons ?_ (steps_cons ?_ (steps_cons ?_ (steps_cons ?_ (steps_cons ?_ (steps_cons ?_ (steps_cons ?_ (steps_cons ?_ (steps_cons ?_ (steps_cons ?_ (steps_cons ?_ (steps_cons ?_ (steps_cons ?_ steps_nil)))))))))))))))))))))))))
      · intro a w0 K hS hB hR hK
        rw [if_pos (wanted_none rfl)]
        have e0 := tmp_is (hB.1)
        go_simp
        exact hK (.int .i64 me) w0 hS (Below.refl _ _) rfl
      · intro a w0 K hS hB hR hK
        rw [if_pos (wanted_none rfl)]
        have e0 := tmp_is (hB.2.1)
        go_simp
        exact hK (.int .i64 me) w0 hS (Below.refl _ _) rfl
      · intro a w0 K hS hB hR hK
        rw [if_pos (wanted_none rfl)]
        have e0 := tmp_is (hR.1)
        have e1 := tmp_is (hR.2.1)
        have e2 : (me == me) = true := beq_self_eq_true _
        go_simp
        exact hK (.bool true) w0 hS (Below.refl _ _) rfl
      · intro a w0 K hS hB hR hK
        rw [if_pos (wanted_none rfl)]
        have e0 := tmp_is (hR.1)
        go_simp
        exact hK (.bool true) w0 hS (Below.refl _ _) rfl
      · intro a w0 K hS hB hR hK
        rw [if_pos (wanted_some rfl (hR.1))]
        have e0 := tmp_is (hB.2.2.1)
        go_simp
        exact hK (.slice Aa na ca) w0 hS (Below.refl _ _) rfl
      · intro a w0 K hS hB hR hK
        rw [if_pos (wanted_some rfl (hR.1))]
        have e0 := tmp_is (hB.2.2.2.1)
        go_simp
        exact hK (.slice Ab nb cb) w0 hS (Below.refl _ _) rfl
      · intro a w0 K hS hB hR hK
        rw [if_pos (wanted_some rfl (hR.2.2.2.1))]
        have e0 := tmp_is (hR.1)
        have e1 := tmp_is (hR.2.1)
        go_simp
        refine (same_any Aa Ab na ca nb cb lo lo w0 _ _ hS.one hS.two (by omega) (by omega)).mono ?_
        rintro e w' ⟨rfl, m, rfl⟩
        rw [decide_eq_true rfl]
        exact hK _ _ (hS.step (drewN_below w0 _ m)) (drewN_below w0 _ m) rfl
      · intro a w0 K hS hB hR hK
        rw [if_pos (wanted_none rfl)]
        have e0 := tmp_is (hR.1)
        have e1 := tmp_is (hR.2.1)
        go_simp
        exact hK (.bool true) w0 hS (Below.refl _ _) rfl
      · intro a w0 K hS hB hR hK
        rw [if_pos (wanted_none rfl)]
        have e0 := tmp_is (hR.1)
        go_simp
        exact hK (.bool true) w0 hS (Below.refl _ _) rfl
      · intro a w0 K hS hB hR hK
        rw [if_pos (wanted_some rfl (hR.1))]
        have e0 := tmp_is (hB.2.2.2.2.1)
        go_simp
        exact hK (.int .i64 ce) w0 hS (Below.refl _ _) rfl
      · intro a w0 K hS hB hR hK
        rw [if_pos (wanted_some rfl (hR.1))]
        have e0 := tmp_is (hB.2.2.2.2.2.1)
        go_simp
        exact hK (.int .i64 ce) w0 hS (Below.refl _ _) rfl
      · intro a w0 K hS hB hR hK
        rw [if_pos (wanted_some rfl (hR.2.2.1))]
        have e0 := tmp_is (hR.1)
        have e1 := tmp_is (hR.2.1)
        have e2 : (ce == ce) = true := beq_self_eq_true _
        go_simp
        exact hK (.bool true) w0 hS (Below.refl _ _) rfl
      · intro a w0 K hS hB hR hK
        rw [if_pos (wanted_none rfl)]
        have e0 := tmp_is (hR.1)
        have e1 := tmp_is (hR.2.1)
        go_simp
        exact hK (.bool true) w0 hS (Below.refl _ _) rfl
      · intro a w0 K hS hB hR hK
        rw [if_pos (wanted_none rfl)]
        have e0 := tmp_is (hR.1)
        go_simp
        exact hK (.bool true) w0 hS (Below.refl _ _) rfl
      · intro a w0 K hS hB hR hK
        rw [if_pos (wanted_some rfl (hR.1))]
        refine wp_load_mid _ _ rfl _ _ (hB.2.2.2.2.2.2.1) (Hv P.v P.sz ⟨P.nm.toArray⟩ P.d) _ hS.mine.range Tryd.underlying25 rfl (by rw [size25h, Hv_length hP]) ?_
        exact hK (.agg (Hv P.v P.sz ⟨P.nm.toArray⟩ P.d).toArray) w0 hS (Below.refl _ _) rfl
      · intro a w0 K hS hB hR hK
        rw [if_pos (wanted_some rfl (hR.2.2.1))]
        have e0 := tmp_is (hR.1)
        go_simp
        refine (as_any w0 P.v P.sz ⟨P.nm.toArray⟩ P.d hP).mono ?_
        rintro e w' ⟨rfl, hb⟩
        exact hK _ _ (hS.step hb) hb rfl
      · intro a w0 K hS hB hR hK
        rw [if_pos (wanted_some rfl (hR.1))]
        refine wp_load_mid _ _ rfl _ _ (hB.2.2.2.2.2.2.2.1) (Hv P.v P.sz ⟨P.nm.toArray⟩ P.d) _ hS.told.range Tryd.underlying33 rfl (by rw [size33h, Hv_length hP]) ?_
        exact hK (.agg (Hv P.v P.sz ⟨P.nm.toArray⟩ P.d).toArray) w0 hS (Below.refl _ _) rfl
      · intro a w0 K hS hB hR hK
        rw [if_pos (wanted_some rfl (hR.2.2.1))]
        have e0 := tmp_is (hR.1)
        have e1 := tmp_is (hR.2.1)
        have hg := run_eqGuard_agg (P := Tryd.prog) w0 .eql 33 (.tmp 73) (.tmp 74) (Hv P.v P.sz ⟨P.nm.toArray⟩ P.d).toArray (Hv P.v P.sz ⟨P.nm.toArray⟩ P.d).toArray guard33
        have hq := run_eql_hd w0 P.v P.sz ⟨P.nm.toArray⟩ P.d hP
        generalize Value.agg (Hv P.v P.sz ⟨P.nm.toArray⟩ P.d).toArray = X at hg hq e0 e1
        go_simp
        exact hK (.bool true) w0 hS (Below.refl _ _) rfl
      · intro a w0 K hS hB hR hK
        rw [if_pos (wanted_none rfl)]
        have e0 := tmp_is (hR.1)
        have e1 := tmp_is (hR.2.1)
        go_simp
        exact hK (.bool true) w0 hS (Below.refl _ _) rfl
      · intro a w0 K hS hB hR hK
        rw [if_pos (wanted_none rfl)]
        have e0 := tmp_is (hR.1)
        go_simp
        exact hK (.bool true) w0 hS (Below.refl _ _) rfl
      · intro a w0 K hS hB hR hK
        rw [if_pos (wanted_some rfl (hR.1))]
        have e0 := tmp_is (hB.2.2.2.2.2.2.2.2.1)
        go_simp
        exact hK (.slice A2 n2 c2) w0 hS (Below.refl _ _) rfl
      · intro a w0 K hS hB hR hK
        rw [if_pos (wanted_some rfl (hR.2.2.1))]
        have e0 := tmp_is (hR.1)
        go_simp
        refine (body_all A2 n2 c2 l2 w0 hS.arg hc2 (by omega)).mono ?_
        rintro e w' ⟨A', N, c', rfl, hc', hN, hy, hb⟩
        exact hK _ _ (hS.step hb) hb ⟨A', N, c', rfl, hN, hy⟩
      · intro a w0 K hS hB hR hK
        rw [if_pos (wanted_some rfl (hR.1))]
        have e0 := tmp_is (hB.2.2.2.2.2.2.2.2.2.1)
        go_simp
        exact hK (.slice (some ⟨w8.heap.size, 0, none⟩) 0 0) w0 hS (Below.refl _ _) rfl
      · intro a w0 K hS hB hR hK
        rw [if_pos (wanted_some rfl (hR.2.2.2.1))]
        obtain ⟨A', N, c', hv', hN, hy⟩ := hR.1
        have e0 := tmp_is hv'
        have e1 := tmp_is (hR.2.1)
        go_simp
        refine (same_any A' (some ⟨w8.heap.size, 0, none⟩) N c' 0 0 (l2.drop 64) (l2.drop 64) w0 _ _ hy hS.beh (by omega) (by omega)).mono ?_
        rintro e w' ⟨rfl, m, rfl⟩
        rw [decide_eq_true rfl]
        exact hK _ _ (hS.step (drewN_below w0 _ m)) (drewN_below w0 _ m) rfl
      · intro a w0 K hS hB hR hK
        rw [if_pos (wanted_none rfl)]
        have e0 := tmp_is (hR.1)
        have e1 := tmp_is (hR.2.1)
        go_simp
        exact hK (.bool true) w0 hS (Below.refl _ _) rfl
      · intro a w0 K hS hB hR hK
        rw [if_pos (wanted_none rfl)]
        have e0 := tmp_is (hR.1)
        go_simp
        exact hK (.bool true) w0 hS (Below.refl _ _) rfl
    case fin =>
      intro a w' HS0 ha hR
      have r25 : a.eval (.tmp 8) = .bool true := deps_mem _ hR 25 (by decide)
      have hbel := HS0.bel
      clear hR HS0
      simp only [pin] at ha
      rw [ha]
      simp only [List.setIfInBounds_toArray, List.set_cons_zero, List.set_cons_succ, r25]
      clear ha r25
      go_wp2
      go_ret
      exact ⟨rfl, hbel⟩
end Go.Proofs.YtiieianbmldnbaaDoor
