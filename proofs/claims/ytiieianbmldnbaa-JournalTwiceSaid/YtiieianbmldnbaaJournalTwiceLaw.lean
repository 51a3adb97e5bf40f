/-
  JournalTwice: what is opened twice is the same as once.
-/
import Derived.Test.YtiieianbmldnbaaJournalSettled
import Derived.Test.YtiieianbmldnbaaJournalSmall
import Derived.Test.YtiieianbmldnbaaSame
namespace Go.Proofs.Ytiieianbmldnbaa
open Go.RowKit Go.Maps Go.Shelf
set_option maxRecDepth 100000
set_option linter.unusedVariables false
set_option maxRecDepth 100000
set_option maxHeartbeats 4000000 in
theorem psame_yes (w : World) (A1 A2 : Option Addr) (n c1 c2 : Nat) (ps : List (Int × List UInt8)) (h1 : Prs w w.heap.size A1 n ps) (h2 : Prs w w.heap.size A2 n ps) (hn : n ≤ 32) (hl : ∀ x, x ∈ ps → x.2.length ≤ 250) :
    Calls Try.prog 16 #[.slice A1 n c1, .slice A2 n c2] w fun e w' => e = .returned (.bool true) ∧ Below w.heap.size w w' := by
  go_enter Try.func16, Try.ntmps16
  go_wp2
  go_loopw [5] (fun i wr => ∃ k : Nat, k ≤ n ∧ i = .int .i64 k ∧ Below w.heap.size w wr) (fun i _ => n - (intOf i).toNat)
  case atStart => exact ⟨0, by omega, rfl, Below.refl _ _⟩
  case round =>
    obtain ⟨k, hk, rfl, hB⟩ := hrel
    by_cases hlt : k < n
    · obtain ⟨x, hx⟩ : ∃ x, ps[k]? = some x := ⟨_, List.getElem?_eq_getElem (by have := h1.len; omega)⟩
      obtain ⟨b1, off1, rfl, hb1, hc1⟩ := h1.place (by omega)
      obtain ⟨b2, off2, rfl, hb2, hc2⟩ := h2.place (by omega)
      obtain ⟨P1, d1, x1, y1, z1⟩ := hc1 k x hx
      obtain ⟨P2, d2, x2, y2, z2⟩ := hc2 k x hx
      have hlx := hl x (List.mem_of_getElem? hx)
      have m1 : ∀ wq, Below w.heap.size w wq → wq.cell? ⟨b1, off1 + k * 2, none⟩ = some (.int .i64 x.1) ∧ wq.cell? ⟨b1, off1 + k * 2 + 1, none⟩ = some (.slice P1 x.2.length d1) := fun wq hq => by
        rw [Nat.mul_comm k 2]
        exact ⟨(hq.cell (p := ⟨b1, off1 + 2 * k, none⟩) hb1).trans x1, (hq.cell (p := ⟨b1, off1 + 2 * k + 1, none⟩) hb1).trans y1⟩
      have m2 : ∀ wq, Below w.heap.size w wq → wq.cell? ⟨b2, off2 + k * 2, none⟩ = some (.int .i64 x.1) ∧ wq.cell? ⟨b2, off2 + k * 2 + 1, none⟩ = some (.slice P2 x.2.length d2) := fun wq hq => by
        rw [Nat.mul_comm k 2]
        exact ⟨(hq.cell (p := ⟨b2, off2 + 2 * k, none⟩) hb2).trans x2, (hq.cell (p := ⟨b2, off2 + 2 * k + 1, none⟩) hb2).trans y2⟩
      have hbd : Below w.heap.size w wr.drew := hB.trans ((below_drew wr).mono hB.size)
      have ks : ∀ wq, Below w.heap.size w wq → Calls Try.prog 22 #[.slice P1 x.2.length d1, .slice P2 x.2.length d2] wq fun e w' => e = .returned (.bool true) ∧ ∃ m, w' = wq.drewN m := fun wq hq => by
        have := same_any P1 P2 x.2.length d1 x.2.length d2 x.2 x.2 wq _ _ (z1.below hq) (z2.below hq) (by omega) (by omega)
        rwa [decide_eq_true rfl] at this
      have M1 : Aside _ := m1
      have M2 : Aside _ := m2
      have KS : Aside _ := ks
      have HBW : Aside _ := hB
      obtain ⟨a1, a2⟩ := m1 wr hB
      obtain ⟨a3, a4⟩ := m2 wr hB
      obtain ⟨c1', c2'⟩ := m1 wr.drew hbd
      obtain ⟨c3', c4'⟩ := m2 wr.drew hbd
      generalize x.2.length = lx at *
      generalize x.1 = key at *
      clear hc1 hc2 x1 y1 z1 x2 y2 z2 hx m1 m2 ks hbd
      go_wp2_with fail
      have hkn : (k : Int) < n := by omega
      have hk0 : (0 : Int) ≤ (k : Int) := by omega
      have ktn : ((k : Int)).toNat = k := by omega
      have keq : (key != key) = false := bne_self_eq_false _
      go_region_held (fun wq => (wq.cell? ⟨b1, off1 + k * 2, none⟩ = some (.int .i64 key) ∧ wq.cell? ⟨b1, off1 + k * 2 + 1, none⟩ = some (.slice P1 lx d1)) ∧ (wq.cell? ⟨b2, off2 + k * 2, none⟩ = some (.int .i64 key) ∧ wq.cell? ⟨b2, off2 + k * 2 + 1, none⟩ = some (.slice P2 lx d2)))
        (first | assumption | exact ⟨⟨c1', c2'⟩, ⟨c3', c4'⟩⟩)
        ((go_at_call 22; refine (KS.out _ (HBW.out.trans ((below_drew wr).mono HBW.out.size))).mono ?_; rintro e w5 ⟨rfl, m5, hw5⟩; have b5 : Below wr.drew.heap.size wr.drew w5 := hw5 ▸ drewN_below _ _ m5; have q5 := And.intro (M1.out w5 ((HBW.out.trans ((below_drew wr).mono HBW.out.size)).trans (b5.mono HBW.out.size))) (M2.out w5 ((HBW.out.trans ((below_drew wr).mono HBW.out.size)).trans (b5.mono HBW.out.size)))))
      all_goals
        have hB5 : Aside (Below w.heap.size w w5) := (HBW.out.trans ((below_drew wr).mono HBW.out.size)).trans (b5.mono HBW.out.size)
        clear q5 b5 hw5 a1 a2 a3 a4 c1' c2' c3' c4'
        go_wp2
        go_roundw
        case rel => exact ⟨k + 1, by omega, by go_num, HBW.out.trans ((drewN_below wr _ _).mono HBW.out.size)⟩
        case measure => simp [intOf]; omega
    · go_wp2
      go_ret
      exact ⟨rfl, hB⟩
theorem PQAt.loaded {W w' : World} {Q : PQ} {F F' : Fl} (h : PQAt W Q F) (hf : FlashAt w' Q.g Q.bb Q.wb F') (hb : But3 W.heap.size Q.g Q.bb Q.wb W w') (hs : F'.sec = F.sec) (hw : F'.wear = F.wear) (hc : F'.cut = false) : PQAt w' Q F' :=
  ⟨fun i hi => (h.part i hi).over hb (h.off i hi).1 (h.off i hi).2.1 (h.off i hi).2.2, fun i hi => by
    have := h.ok i hi
    exact ⟨this.one, by rw [hw]; exact this.in_, by rw [hs]; exact this.be, by rw [hs]; exact this.si⟩, hf, (fun e => by rw [hc] at e; cases e), h.off⟩
set_option maxHeartbeats 8000000 in
theorem twice_law (sz : Int) (A : Option Addr) (m c : Nat) (l : List UInt8) (w : World) (hb : Bs w w.heap.size A m l) (hm : m ≤ maxLen) :
    Calls Try.prog 4 #[.int .i64 sz, .slice A m c] w fun e w' => e = .returned (.bool true) ∧ Below w.heap.size w w' := by
  have HB : Aside _ := hb
  clear hb
  go_enter Try.func4, Try.ntmps4
  go_wp2_with fail
  refine (alive5 w).mono ?_
  rintro e w1 ⟨rfl, b1⟩
  have H1 : Aside _ := b1
  clear b1
  by_cases hs : (128 : Int) < sz
  · go_wp2
    go_ret
    exact ⟨rfl, H1.out⟩
  by_cases hm6 : (600 : Int) < (m : Int)
  · go_wp2
    go_ret
    exact ⟨rfl, H1.out⟩
  obtain ⟨mm, hmm⟩ : ∃ mm : Nat, min (max sz 16) 4096 = (mm : Int) := ⟨(min (max sz 16) 4096).toNat, by omega⟩
  have hm1 : 16 ≤ mm ∧ mm ≤ 128 := by omega
  have HM1 : Aside _ := hm1
  have kg := groups_f w1 sz mm hmm
  clear hmm hm1
  go_wp2_with fail
  refine kg.mono ?_
  rintro e w2 ⟨g, bb, wb, pa, pb, rfl, hq, b2, hg, hbb, hwb, hpa, hpb⟩
  have B2 : Aside (Below w.heap.size w w2) := H1.out.trans (b2.mono H1.out.size)
  have HL : Aside (w.heap.size ≤ g ∧ w.heap.size ≤ bb ∧ w.heap.size ≤ wb) := by have := H1.out.size; exact ⟨by omega, by omega, by omega⟩
  have HQ : Aside _ := hq
  have kl := load_f w2 g bb wb (fresh 4 mm) A m c l hq.fl ((HB.out.below B2.out).more B2.out.size)
  clear kg hq b2 hg hbb hwb hpa hpb
  go_wp2_with fail
  refine kl.mono ?_
  obtain ⟨F1, hF1⟩ : ∃ F1, { fresh 4 mm with dat := patch (fresh 4 mm).dat 0 (l.take (min m (fresh 4 mm).dat.length)), cut := false, down := false } = F1 := ⟨_, rfl⟩
  rw [hF1]
  rintro e w3 ⟨rfl, hf3, b3⟩
  have hq3 : PQAt w3 (QG g bb wb pa pb mm) F1 := HQ.out.loaded hf3 b3 (by rw [← hF1]) (by rw [← hF1]) (by rw [← hF1])
  have hon : On F1 := by rw [← hF1]; exact ⟨rfl, rfl⟩
  have B3 : Aside (Below w.heap.size w w3) := B2.out.trans (b3.toBelow B2.out.size HL.out.1 HL.out.2.1 HL.out.2.2)
  have H3 : Aside _ := And.intro hq3 hon
  have hmin : min ((QG g bb wb pa pb mm).si 0) ((QG g bb wb pa pb mm).si 1) = 2 * mm := Nat.min_self _
  have HMIN : Aside _ := hmin
  have ko := jopen_f w3 (QG g bb wb pa pb mm) F1 hq3 (by have := HM1.out; rw [hmin]; omega)
  clear kl hF1 hf3 b3 hq3 hon hmin
  go_wp2_with fail
  refine ko.mono ?_
  intro e w4 hp
  have hmk := make_on H3.out.1 H3.out.2 HMIN.out (by have := HM1.out; omega) (.inl (by show 2 * mm * 0 + 2 * mm ≤ 2 * mm * 1; omega)) hp
  clear ko hp
  rcases hmk with ⟨ec, hec, rfl, b4, hag⟩ | ⟨rfl, hbel, G, s, hj, hon, hsz, hst⟩
  · have he1 : (ec != 0) = true := bne_iff_ne.2 hec
    have he2 : (ec == ec) = true := beq_self_eq_true _
    have B4 : Aside (Below w.heap.size w w4) := B3.out.trans (b4.mono B3.out.size)
    have HAG : Aside _ := hag
    have ko := jopen_f w4 (QG g bb wb pa pb mm) F1 (H3.out.1.below b4) (by have := HM1.out; rw [HMIN.out]; omega)
    clear hec hag b4
    go_wp2_with fail
    refine ko.mono ?_
    intro e w5 hp
    obtain ⟨rfl, b5⟩ := HAG.out _ _ _ hp
    have B5 : Aside (Below w.heap.size w w5) := B4.out.trans (b5.mono B4.out.size)
    clear ko hp b5
    go_wp2
    go_ret
    exact ⟨rfl, B5.out⟩
  · obtain ⟨n3, hn3⟩ : ∃ n3, w3.heap.size = n3 := ⟨_, rfl⟩
    rw [hn3] at hj hst ⊢
    have h34 : w3.heap.size ≤ w4.heap.size := (hbel 0 (Nat.zero_le _) (Nat.zero_le _) (Nat.zero_le _) (Nat.zero_le _)).size
    have B4 : Aside (Below w.heap.size w w4) := B3.out.trans (hbel _ B3.out.size HL.out.1 HL.out.2.1 HL.out.2.2)
    have H4 : Aside _ := And.intro hj (And.intro hon (And.intro hsz hst))
    have kt := turned_f w4 g bb wb G hj.fl
    have HN3 : Aside _ := hn3
    clear hbel hj hon hsz hst h34 hn3
    obtain ⟨T, hT⟩ : ∃ T, G.turned = T := ⟨_, rfl⟩
    obtain ⟨L, hL⟩ : ∃ L, G.dat.length = L := ⟨_, rfl⟩
    have hLs : (L : Int) ≤ 262144 := by have := H4.out.1.fl.ok.small; rw [hL] at this; omega
    have HTL : Aside _ := And.intro hT hL
    rw [hT] at kt
    clear hT hL
    go_wp2_with fail
    refine kt.mono ?_
    rintro e w5 ⟨rfl, hw⟩
    obtain rfl := hw.symm
    have ki := image_f w4 g bb wb G H4.out.1.fl
    rw [HTL.out.2] at ki
    clear kt hw
    go_wp2_with fail
    refine ki.mono ?_
    obtain ⟨I1, hI1⟩ : ∃ I1, w4.heap.size = I1 := ⟨_, rfl⟩
    rintro e w5 ⟨rfl, hb5, b5, _, _⟩
    rw [hI1] at hb5 ⊢
    have B5 : Aside (Below w.heap.size w w5) := B4.out.trans (b5.mono B4.out.size)
    have hj5 := H4.out.1.below b5
    have H5 : Aside _ := And.intro hj5 hb5
    have ko := jopen_f w5 (QG g bb wb pa pb mm) G (PQAt.of_jat hj5) (by have := HM1.out; rw [HMIN.out]; omega)
    clear ki hb5 b5 hj5 hI1
    go_wp2_with fail
    refine ko.mono ?_
    intro e w6 hp
    obtain ⟨rfl, b6, s6, hj6, hz6, he6, hn6, hv6⟩ := make_again H4.out.2.1 HMIN.out (by have := HM1.out; omega) H4.out.2.2.2 hp
    obtain ⟨n5, hn5⟩ : ∃ n5, w5.heap.size = n5 := ⟨_, rfl⟩
    have B6 : Aside (Below w.heap.size w w6) := B5.out.trans (b6.mono B5.out.size)
    have hjo := H5.out.1.below b6
    have hbo := H5.out.2.below b6
    rw [hn5] at hj6 ⊢
    have H6 : Aside _ := And.intro hjo (And.intro hj6 (And.intro (hbo.more b6.size) (And.intro (hz6.trans H4.out.2.2.1.symm) (And.intro he6 (And.intro hn6 hv6)))))
    have kt := turned_f w6 g bb wb G hj6.fl
    rw [HTL.out.1] at kt
    have heq : ((T : Int) == (T : Int)) = true := beq_self_eq_true _
    clear ko hp b6 hj6 hz6 he6 hn6 hv6 hn5 hjo hbo
    go_wp2_with fail
    refine kt.mono ?_
    rintro e w7 ⟨rfl, hw⟩
    obtain rfl := hw.symm
    have ki := image_f w6 g bb wb G H6.out.2.1.fl
    rw [HTL.out.2] at ki
    clear kt hw
    go_wp2_with fail
    refine ki.mono ?_
    obtain ⟨I2, hI2⟩ : ∃ I2, w6.heap.size = I2 := ⟨_, rfl⟩
    rintro e w7 ⟨rfl, hb7, b7, _, _⟩
    rw [hI2] at hb7 ⊢
    have B7 : Aside (Below w.heap.size w w7) := B6.out.trans (b7.mono B6.out.size)
    have H7 : Aside _ := And.intro (H6.out.1.below b7) (H6.out.2.1.below b7)
    have ks := same_any (some ⟨I2, 0, none⟩) (some ⟨I1, 0, none⟩) L L L L G.dat G.dat w7 _ _ hb7 (H6.out.2.2.1.below b7) (by omega) (by omega)
    rw [decide_eq_true rfl] at ks
    clear ki hb7 b7 hI2
    go_wp2_with fail
    refine ks.mono ?_
    rintro e w8 ⟨rfl, m8, hw8⟩
    have b8 : Below w7.heap.size w7 w8 := hw8 ▸ drewN_below _ _ m8
    have B8 : Aside (Below w.heap.size w w8) := B7.out.trans (b8.mono B7.out.size)
    have H8 : Aside _ := And.intro (H7.out.1.below b8) (H7.out.2.below b8)
    clear ks hw8 b8
    go_wp2_with fail
    have kp := pairs_f w8 _ G s H8.out.1
    refine kp.mono ?_
    rintro e w9 ⟨v9, rfl, ho9, b9⟩
    clear kp
    have B9 : Aside (Below w.heap.size w w9) := B8.out.trans (b9.mono B8.out.size)
    have H9 : Aside _ := And.intro (H8.out.1.below b9) (H8.out.2.below b9)
    obtain ⟨np, hnp⟩ : ∃ np, (prsOf s.V).length = np := ⟨_, rfl⟩
    have hprs := ho9.prs
    rw [hnp] at hprs
    have hnp32 : np ≤ 32 := by rw [← hnp]; unfold prsOf; rw [List.length_map]; exact keysOf_length _
    obtain ⟨A9, c9, rfl, _, hp9⟩ := hprs
    have HP9 : Aside _ := hp9
    have HNP : Aside _ := hnp
    clear ho9 b9 hnp hp9
    go_wp2_with fail
    have kp := pairs_f w9 _ G s6 H9.out.2
    rw [H6.out.2.2.2.2.2.2] at kp
    refine kp.mono ?_
    rintro e w10 ⟨v10, rfl, ho10, b10⟩
    clear kp
    have B10 : Aside (Below w.heap.size w w10) := B9.out.trans (b10.mono B9.out.size)
    have H10 : Aside _ := And.intro (H9.out.1.below b10) (H9.out.2.below b10)
    have hprs := ho10.prs
    rw [HNP.out] at hprs
    obtain ⟨A10, c10, rfl, _, hp10⟩ := hprs
    have hshort : ∀ x, x ∈ prsOf s.V → x.2.length ≤ 250 := fun x hx => by
      unfold prsOf at hx
      obtain ⟨kx, hkx, rfl⟩ := List.mem_map.1 hx
      cases hv : s.V kx with
      | none => show ((none : Option (List UInt8)).getD []).length ≤ 250; decide
      | some l1 => exact H10.out.1.vals.short _ _ hv
    have hp9' : Prs w10 w10.heap.size A9 np (prsOf s.V) := by
      obtain ⟨l9, p9⟩ := HP9.out.below b10
      refine ⟨l9, fun h => ?_⟩
      obtain ⟨b, off, e, hb, hc⟩ := p9 h
      refine ⟨b, off, e, Nat.lt_of_lt_of_le hb b10.size, fun i x hx => ?_⟩
      obtain ⟨A', c', x1, x2, x3⟩ := hc i x hx
      exact ⟨A', c', x1, x2, x3.more b10.size⟩
    have kq := psame_yes w10 A9 A10 np c9 c10 _ hp9' hp10 hnp32 hshort
    clear ho10 b10 hp10 hp9' hshort
    go_wp2_with fail
    refine kq.mono ?_
    rintro e w11 ⟨rfl, b11⟩
    have B11 : Aside (Below w.heap.size w w11) := B10.out.trans (b11.mono B10.out.size)
    have H11 : Aside _ := And.intro (H10.out.1.below b11) (H10.out.2.below b11)
    obtain ⟨ep, hep⟩ : ∃ ep, s.ep = ep := ⟨_, rfl⟩
    obtain ⟨rm, hrm⟩ : ∃ rm : Int, (s.size : Int) - (s.en : Int) = rm := ⟨_, rfl⟩
    have HE : Aside _ := And.intro hep hrm
    have he1 : (ep == ep) = true := beq_self_eq_true _
    have he2 : (rm == rm) = true := beq_self_eq_true _
    clear kq b11 hep hrm
    go_wp2_with fail
    have ke := epoch_f w11 _ G s H11.out.1
    rw [HE.out.1] at ke
    refine ke.mono ?_
    rintro e w12 ⟨rfl, hw⟩
    obtain rfl := hw.symm
    clear ke hw
    go_wp2_with fail
    have ke := epoch_f w11 _ G s6 H11.out.2
    rw [H6.out.2.2.2.2.1, HE.out.1] at ke
    refine ke.mono ?_
    rintro e w12 ⟨rfl, hw⟩
    obtain rfl := hw.symm
    clear ke hw
    go_wp2_with fail
    have kr := room_f w11 _ G s H11.out.1
    rw [HE.out.2] at kr
    refine kr.mono ?_
    rintro e w12 ⟨rfl, b12⟩
    have B12 : Aside (Below w.heap.size w w12) := B11.out.trans (b12.mono B11.out.size)
    have H12 : Aside _ := H11.out.2.below b12
    clear kr b12
    go_wp2_with fail
    have kr := room_f w12 _ G s6 H12.out
    rw [H6.out.2.2.2.1, H6.out.2.2.2.2.2.1, HE.out.2] at kr
    refine kr.mono ?_
    rintro e w13 ⟨rfl, b13⟩
    have B13 : Aside (Below w.heap.size w w13) := B12.out.trans (b13.mono B12.out.size)
    clear kr b13
    go_wp2
    go_ret
    exact ⟨rfl, B13.out⟩
end Go.Proofs.Ytiieianbmldnbaa
