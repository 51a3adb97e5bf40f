/-
  OptBack: what is written is read as it, sorted; written again it is the same bytes.
-/
import Derived.Test.YtihicplembaoeaaOptWritesLaw
import Derived.Test.YtihicplembaoeaaOptRound
namespace Go.Proofs.Ytihicplembaoeaa
open Go.RowKit
set_option maxRecDepth 100000
set_option linter.unusedVariables false
theorem addO_in (num : Int) (l : List UInt8) : ∀ (P : List (Int × List UInt8)) (y : Int × List UInt8), y = (num, l) ∨ y ∈ P → y ∈ addO num l P
  | [], y, h => by rcases h with rfl | h; exact List.mem_singleton.2 rfl; cases h
  | x :: r, y, h => by
    rw [addO]
    split
    · rcases h with rfl | h
      · exact List.mem_cons_self
      · exact List.mem_cons_of_mem _ h
    · rcases h with h | h
      · exact List.mem_cons_of_mem _ (addO_in num l r y (.inl h))
      · rcases List.mem_cons.1 h with rfl | h
        · exact List.mem_cons_self
        · exact List.mem_cons_of_mem _ (addO_in num l r y (.inr h))
theorem sortP_in (ps : List (Int × List UInt8)) : ∀ x, x ∈ ps → x ∈ sortP ps := by
  suffices h : ∀ (r : List (Int × List UInt8)) (x : Int × List UInt8), x ∈ r → x ∈ sortP r.reverse by intro x hx; have := h ps.reverse x (by simpa using hx); rwa [List.reverse_reverse] at this
  intro r
  induction r with
  | nil => intro x hx; cases hx
  | cons s r ih =>
    intro x hx
    rw [List.reverse_cons, sortP_snoc]
    refine addO_in _ _ _ _ ?_
    rcases List.mem_cons.1 hx with rfl | hx
    · exact .inl rfl
    · exact .inr (ih x hx)
set_option maxHeartbeats 4000000 in
theorem back_law (A : Option Addr) (n c : Nat) (vs : List Sv) (ps : List (Int × List UInt8)) (A2 : Option Addr) (n2 c2 : Nat) (l2 : List UInt8) (w : World) (hos : Os w w.heap.size A n vs ps) (hcm : n ≤ maxLen) (hb2 : Bs w w.heap.size A2 n2 l2) (hm2 : n2 ≤ maxLen) :
    Calls Try.prog 5 #[.slice A n c, .slice A2 n2 c2] w fun e w' => e = .returned (.bool true) ∧ Below w.heap.size w w' := by
  obtain ⟨i0, hi0, hz0, hz1, hz2⟩ := info_parts info_u8
  have hA := oalive_any w
  have hnI : (n : Int) ≤ 9223372036854775807 := by simp only [maxLen] at hcm; omega
  have hn2I : (n2 : Int) ≤ 9223372036854775807 := by simp only [maxLen] at hm2; omega
  have h1 := fun W (b : Below w.heap.size w W) => writep_f A n c vs ps W _ (hos.below b) b.size hnI
  by_cases he : errP ps = 0
  · obtain ⟨h24, hok, hw1, hw2⟩ := wrP_sorted he
    have hpl := hos.plen
    obtain ⟨P, hP⟩ : ∃ P, sortP ps = P := ⟨_, rfl⟩
    have hPl : P.length = n := by rw [← hP, sortP_len, hpl]
    have hlen := wrP_len ps
    have hPm : ∀ x ∈ P, x.2.length ≤ 300 := fun x hx => ((hP ▸ hok).2 x hx).2.2
    rw [hw1] at h1 hlen
    rw [hP] at h1 hw2 hok hlen
    dsimp only at hlen
    have hr0 := rd_wr hok (by omega) [] (.inl rfl)
    have hr1 := rd_wr hok (by omega) (255 :: l2) (.inr ⟨l2, rfl⟩)
    rw [List.append_nil] at hr0
    obtain ⟨L, hL⟩ : ∃ L, (wrF P).1 = L := ⟨_, rfl⟩
    rw [hL] at h1 hr0 hr1 hw2 hlen
    obtain ⟨N, hN⟩ : ∃ N, L.length = N := ⟨_, rfl⟩
    rw [hN] at hr0 hr1 hlen
    have hn24 : (n : Int) ≤ 24 := by omega
    have hNI : (N : Int) ≤ 7320 := by omega
    have HSO := Lib.hid fun W (b : Below w.heap.size w W) => hP ▸ rsorted_f A n c vs ps W ((hos.below b).more b.size) (by omega) (fun x hx => by have := (hok.2 x (hP ▸ sortP_in ps x hx)).2.2; omega)
    have hb2l := hb2.len
    have HM := Lib.hid (And.intro h1 (And.intro hr0 (And.intro hr1 (And.intro hw2 (And.intro hN (And.intro hPl (And.intro hPm (And.intro hb2 hb2l))))))))
    have HA := Lib.hid hA
    clear h1 hr0 hr1 hw1 hw2 hN hL hPl hPm hb2 hb2l hA hP hpl h24 hok he hos hcm hm2 hlen
    by_cases h1000 : (1000 : Int) < n2
    · by_cases h0 : N = 0
      · subst h0
        go_enter Try.func5, Try.ntmps5
        go_wp2_with (first
          | (go_at_call 14; refine HA.out.mono ?_; rintro e w1 ⟨rfl, b1⟩; have H1 := Lib.hid b1; clear b1)
          | (go_at_call 16; refine (HM.out.1 w1 H1.out).mono ?_; rintro e w3 ⟨A3, n3, c3, rfl, hc3, hn3, hb3, b3⟩; obtain rfl : n3 = 0 := hn3.out.trans HM.out.2.2.2.2.1; have H3 := Lib.hid (H1.out.trans (b3.mono H1.out.size)); clear hc3 hn3 hb3 b3))
        go_ret
        exact ⟨rfl, H3.out⟩
      · have hN0 : ((N : Int) == 0) = false := by simpa using h0
        go_enter Try.func5, Try.ntmps5
        go_wp2_with (first
          | (go_at_call 14; refine HA.out.mono ?_; rintro e w1 ⟨rfl, b1⟩; have H1 := Lib.hid b1; clear b1)
          | (go_at_call 16; refine (HM.out.1 w1 H1.out).mono ?_; rintro e w3 ⟨A3, n3, c3, rfl, hc3, hn3, hb3, b3⟩; obtain rfl : N = n3 := (hn3.out.trans HM.out.2.2.2.2.1).symm; have H3 := Lib.hid (H1.out.trans (b3.mono H1.out.size)); clear hc3 hn3 hb3 b3))
        go_ret
        exact ⟨rfl, H3.out⟩
    · go_enter Try.func5, Try.ntmps5
      go_wp2_with (first
        | (go_at_call 14; refine HA.out.mono ?_; rintro e w1 ⟨rfl, b1⟩; have H1 := Lib.hid b1; clear b1)
        | (go_at_call 16; refine (HM.out.1 w1 H1.out).mono ?_; rintro e w3 ⟨A3, n3, c3, rfl, hc3, hn3, hb3, b3⟩; obtain rfl : N = n3 := (hn3.out.trans HM.out.2.2.2.2.1).symm; have H3 := Lib.hid (And.intro hb3 (And.intro hc3 (H1.out.trans (b3.mono H1.out.size)))); clear hc3 hn3 hb3 b3))
      have hrd := read_f A3 N c3 L w3 _ H3.out.1 (Nat.le_refl _) H3.out.2.1.1 (by have := H3.out.2.1.2; simp only [maxLen] at this; omega) (by omega)
      rw [HM.out.2.1] at hrd
      refine hrd.mono ?_
      rintro e w5 ⟨A5, n5, c5, us5, rfl, hc5, hm5, hn5, hos5, b5⟩
      obtain rfl : n5 = n := hn5.out.trans HM.out.2.2.2.2.2.1
      have hcp := rcopy_any A3 N c3 L w5 _ ((H3.out.1.below b5).more b5.size) (Nat.le_refl _) (by omega)
      have H5 := Lib.hid (And.intro hos5 (And.intro ((H3.out.1.below b5).more b5.size) (And.intro hcp (H3.out.2.2.trans (b5.mono H3.out.2.2.size)))))
      clear hrd hc5 hm5 hn5 hos5 b5 hcp
      try dsimp only
      go_wp2_with (first
        | (go_at_call 22; refine H5.out.2.2.1.mono ?_; rintro e w6 ⟨v6, rfl, ho6, b6⟩
           have HN := HM.out.2.2.2.2.1
           rw [HN] at ho6
           have H6 := Lib.hid (And.intro ho6 b6); have hsz6 := b6.size; clear ho6 b6 HN)
        | (at_builtin; refine wpList_append_bs _ rfl (.tmp 44) (.tmp 45) 25 rfl w5.heap.size 5 i0 Try.underlying25 hi0 hz0 hz1 hz2 v6 N _ rfl (H6.out.1.alloc _) (w6.heap.size + 1) (some ⟨w6.heap.size, 0, none⟩) 1 1 [255] rfl (Bs.lit_ w6 5 _ _ [255] rfl) (by omega) (by rw [alloc_size]; omega) ?_
           intro v7 w7 ho7 hg7
           have b7 := (H6.out.2.alloc H6.out.2.size (.cells #[.int .u8 255] 5)).grown hg7 (by rw [alloc_size]; have := H6.out.2.size; omega) (own_ge H6.out.1)
           have hsz7 := b7.size
           have H7 := Lib.hid (And.intro ho7 b7)
           clear ho7 hg7 b7)
        | (at_builtin; refine wpList_append_bs _ rfl (.tmp 46) (.tmp 47) 25 rfl w5.heap.size 5 i0 Try.underlying25 hi0 hz0 hz1 hz2 v7 (N + 1) _ rfl H7.out.1 w.heap.size A2 n2 _ l2 rfl (HM.out.2.2.2.2.2.2.2.1.below (H5.out.2.2.2.trans (H7.out.2.mono H5.out.2.2.2.size))) (by omega) (by omega) ?_
           intro v8 w8 ho8 hg8
           have hU : U8 L ++ U8 [255] ++ U8 l2 = U8 (L ++ 255 :: l2) := by rw [U8_append, List.append_assoc]; rfl
           rw [hU] at ho8
           obtain ⟨A8, c8, rfl, hc8, hb8⟩ := own_bs ho8
           have hm8 := row_cap ho8
           have H8 := Lib.hid (And.intro hb8 (And.intro hc8 (And.intro hm8 (H7.out.2.grown hg8 H7.out.2.size (own_ge H7.out.1)))))
           clear ho8 hg8 hb8 hc8 hm8 hU))
      have hrd2 := read_f A8 (N + 1 + n2) c8 (L ++ 255 :: l2) w8 _ H8.out.1 (Nat.le_refl _) H8.out.2.1 (by have := H8.out.2.2.1; simp only [maxLen] at this; omega) (by omega)
      rw [HM.out.2.2.1] at hrd2
      refine hrd2.mono ?_
      rintro e w9 ⟨A9, n9, c9, us9, rfl, hc9, hm9, hn9, hos9, b9⟩
      obtain rfl : n9 = n5 := hn9.out.trans HM.out.2.2.2.2.2.1
      have B59 : Below w5.heap.size w5 w9 := H8.out.2.2.2.trans (b9.mono H8.out.2.2.2.size)
      have B9 := H5.out.2.2.2.trans (B59.mono H5.out.2.2.2.size)
      have H9 := Lib.hid (And.intro hos9 (And.intro ((H5.out.1.below B59).more B59.size) (And.intro ((H5.out.2.1.below B59).more B59.size) (And.intro (HSO.out w9 B9) B9))))
      clear hrd2 hc9 hm9 hn9 hos9 b9 B59 B9
      try dsimp only
      go_wp2_with fail
      refine H9.out.2.2.2.1.mono ?_
      rintro e w10 ⟨A10, n10, c10, us10, rfl, hc10, hn10, hos10, b10⟩
      obtain rfl : n10 = n9 := hn10.out.trans HM.out.2.2.2.2.2.1
      have hs1 := osame_yes w10 A5 A10 n10 c5 c10 us5 us10 P ((H9.out.2.1.below b10).more b10.size) hos10 (by omega) (fun x hx => Nat.le_trans (HM.out.2.2.2.2.2.2.1 x hx) (by omega))
      have H10 := Lib.hid (And.intro hs1 b10)
      clear hc10 hn10 hos10 b10 hs1
      go_wp2_with fail
      refine H10.out.1.mono ?_
      rintro e w11 ⟨rfl, b11⟩
      have B11 := H10.out.2.trans (b11.mono H10.out.2.size)
      have hs2 := osame_yes w11 A9 A5 n10 c9 c5 us9 us5 P ((H9.out.1.below B11).more B11.size) ((H9.out.2.1.below B11).more B11.size) (by omega) (fun x hx => Nat.le_trans (HM.out.2.2.2.2.2.2.1 x hx) (by omega))
      have H11 := Lib.hid (And.intro hs2 B11)
      clear b11 B11 hs2
      go_wp2_with fail
      refine H11.out.1.mono ?_
      rintro e w12 ⟨rfl, b12⟩
      have B12 := H11.out.2.trans (b12.mono H11.out.2.size)
      have hw12 := writep_f A5 n10 c5 us5 P w12 _ ((H9.out.2.1.below B12).more B12.size) (Nat.le_refl _) (by omega)
      rw [HM.out.2.2.2.1] at hw12
      have H12 := Lib.hid (And.intro hw12 B12)
      clear b12 B12 hw12
      go_wp2_with fail
      refine H12.out.1.mono ?_
      rintro e w13 ⟨A13, n13, c13, rfl, hc13, hn13, hb13, b13⟩
      obtain rfl : n13 = N := hn13.out.trans HM.out.2.2.2.2.1
      have B13 := H12.out.2.trans (b13.mono H12.out.2.size)
      have hs3 := same_any A13 A3 n13 c13 n13 c3 L L w13 _ _ hb13 ((H9.out.2.2.1.below B13).more B13.size) (by omega) (by omega)
      rw [decide_eq_true rfl] at hs3
      have H13 := Lib.hid (And.intro hs3 B13)
      clear hc13 hn13 hb13 b13 B13 hs3
      try dsimp only
      go_wp2_with fail
      refine H13.out.1.mono ?_
      rintro e w14 ⟨rfl, mm, hw14⟩
      have H14 : Hid (Below w13.heap.size w13 w14) := Lib.hid (hw14 ▸ drewN_below _ _ mm)
      clear hw14
      go_wp2
      go_ret
      exact ⟨rfl, by
        have b1 := H13.out.2.trans (H14.out.mono H13.out.2.size)
        have b0 := H9.out.2.2.2.2
        exact b0.trans (b1.mono b0.size)⟩
  · obtain ⟨er, her⟩ : ∃ er, errP ps = er := ⟨_, rfl⟩
    have hw : wrP ps = ([], er) := by unfold wrP; rw [if_neg he, her]
    rw [hw] at h1
    have hne : (er != 0) = true := bne_iff_ne.2 (by rw [← her]; exact he)
    have HM := Lib.hid (And.intro h1 hA)
    clear h1 hA hw he her hos hcm hb2 hm2
    go_enter Try.func5, Try.ntmps5
    go_wp2_with (first
      | (go_at_call 14; refine HM.out.2.mono ?_; rintro e w1 ⟨rfl, b1⟩; have H1 := Lib.hid b1; clear b1)
      | (go_at_call 16; refine (HM.out.1 w1 H1.out).mono ?_; rintro e w3 ⟨A3, n3, c3, rfl, hc3, hn3, hb3, b3⟩; obtain rfl : n3 = 0 := hn3.out; have H3 := Lib.hid (H1.out.trans (b3.mono H1.out.size)); clear hc3 hn3 hb3 b3))
    go_ret
    exact ⟨rfl, H3.out⟩
end Go.Proofs.Ytihicplembaoeaa
