/-
  ImageBack: what is made is checked as its name, version and body.
-/
import Derived.Test.YtiieianbmldnbaaDoorImgAlive
import Derived.Test.YtiieianbmldnbaaDoorImgRefName
import Derived.Test.YtiieianbmldnbaaDoorImgRound
namespace Go.Proofs.YtiieianbmldnbaaDoor
open Go.RowKit
set_option maxRecDepth 100000
theorem str_ne (s : ByteArray) : (s.toList != s.toList) = false := by simp
set_option maxHeartbeats 4000000 in
theorem iback_law (s : ByteArray) (v : Int) (A : Option Addr) (n c : Nat) (l : List UInt8) (w : World) (hbs : Bs w w.heap.size A n l) (hc : n ≤ c) (hv0 : 0 ≤ v) (hv1 : v < 4294967296) (hK : Ks w) :
    Calls Tryd.prog 5 #[.string s, .int .u32 v, .slice A n c] w fun e w' => e = .returned (.bool true) ∧ Below w.heap.size w w' := by
  have hsl : s.data.toList.length = s.size := by rw [Array.length_toList]; rfl
  obtain ⟨i0, hi0, hzz, hz2, hz3⟩ := info_parts info_u8
  go_enter Tryd.func5, Tryd.ntmps5
  go_wp2_with fail
  refine (alive_any w hK).mono ?_
  rintro e w1 ⟨rfl, b1⟩
  have K1 := hK.step b1
  have hb1 := (hbs.below b1).more b1.size
  by_cases hn : (2000 : Int) < n
  · go_wp2
    go_ret
    exact ⟨rfl, b1⟩
  · go_wp2_with fail
    refine (rnamed_any w1 s).mono ?_
    rintro e w1' ⟨rfl, hw⟩
    obtain rfl := hw.symm
    cases hnm : named s.data.toList with
    | false =>
      go_wp2
      go_ret
      exact ⟨rfl, b1⟩
    | true =>
      have hln := hbs.len
      have hni : (n : Int) ≤ 2000 := by omega
      have hll : l.length ≤ 1048576 := by omega
      have hml := makeOf_length (v := v) (l := l) hnm
      have hck := make_check (v := v) (l := l) hnm hv0 hv1 hll
      have hmo := make_more (v := v) (l := l) hnm hv0 hv1 hll
      have hle := make_less (v := v) (l := l) hnm hv0 hv1 hll
      have hdr := make_drop (v := v) (l := l) hnm
      have hhd : headOf v (n : Int) s.data.toList (shaOf l) = (makeOf s.data.toList v l).take 64 := by
        unfold makeOf
        rw [head_take (named_le hnm) (shaOf_length l), hln]
      have hrt : rightH (n : Int) s = true := by
        unfold rightH
        rw [hnm, decide_eq_true (by omega), decide_eq_true (by omega)]; rfl
      have hss : (⟨s.data.toList.toArray⟩ : ByteArray) = s := by cases s; rfl
      have hv : (checkOf (makeOf s.data.toList v l)).val = .agg (Hv v (n : Int) s (shaOf l)).toArray := by
        rw [hck.2]; unfold Hd.val
        simp only [hss, hln]
      have hd := shaOf_length l
      have hck0 := hck.1
      clear hck
      go_wp2_with fail
      refine (make_yes w1 s v A n c l _ hb1 (Nat.le_refl _) hc (by omega) hnm hv0 hv1 K1.1 K1.2).mono ?_
      rintro e w2 ⟨x2, rfl, ho2, b2⟩
      have B2 := b1.trans (b2.mono b1.size)
      have K2 := K1.step b2
      have ha2 := (hb1.below b2).more b2.size
      generalize makeOf s.data.toList v l = m at *
      generalize shaOf l = D at *
      obtain ⟨A2, c2, rfl, hc2, hb2, hg2⟩ := own_open ho2
      obtain ⟨g, rfl, _, _, _⟩ := hg2 (by omega)
      clear hg2 ho2 hb1 hbs hml b2
      obtain ⟨N, hN⟩ : ∃ N, 64 + n = N := ⟨_, rfl⟩
      rw [hN] at hb2 hc2 ⊢
      have hNi : (N : Int) = 64 + n := by omega
      have hc2i : (N : Int) ≤ c2 := by omega
      have hvs := Hv_size (v := v) (sz := (n : Int)) (nm := s) hd
      go_wp2_with fail
      refine (check_any _ N c2 m w2 _ hb2 (Nat.le_refl _) hc2 (by omega) K2.1 K2.2).mono ?_
      rintro e w3 ⟨rfl, b3⟩
      rw [hv, hck0]
      have B3 := B2.trans (b3.mono B2.size)
      have K3 := K2.step b3
      have hb3 := (hb2.below b3).more b3.size
      have ha3 := (ha2.below b3).more b3.size
      clear hb2 ha2
      go_wp2_with (first
        | (refine wpList_store_mid rfl 25 (.tmp 9) (.tmp 37) rfl w3.heap.size 0 (Hv v (n : Int) s D).toArray rfl rfl (by rw [hvs]; exact z35_there w3 _) (by rw [size25h, hvs]) (all_oneCell_toArray (Hv_one _ _ _ _)) ?_
           refine gen_world (F := fun W => wpList Tryd.prog _ _ _ _ W) (fun W => HdAt W w3.heap.size v (n : Int) s D ∧ Below w3.heap.size w3 W) (hd_stored w3 v (n : Int) s D hd) ?_
           rintro w4 ⟨H4, b4⟩)
        | refine wpList_load_mid rfl 25 (.tmp 9) rfl w3.heap.size 0 rfl (Hv v (n : Int) s D) _ H4.range Tryd.underlying25 rfl (by rw [size25h, Hv_length hd]) ?_)
      have B4 := B3.trans (b4.mono B3.size)
      have K4 := K3.step b4
      have hb4 := (hb3.below b4).more b4.size
      have ha4 := (ha3.below b4).more b4.size
      clear hb3 ha3
      refine (write_yes w4 v (n : Int) s D hd hv0 hv1 hrt).mono ?_
      rintro e w5 ⟨x5, rfl, ho5, b5⟩
      rw [hhd] at ho5
      obtain ⟨A5, c5, rfl, hc5, hw5, _⟩ := own_open ho5
      have B5 := B4.trans (b5.mono B4.size)
      have K5 := K4.step b5
      have hb5 := (hb4.below b5).more b5.size
      have ha5 := (ha4.below b5).more b5.size
      have H5 := H4.below b5 H4.lt
      clear hb4 ha4 H4 ho5 b4 b5
      have h0 := H5.c0
      have h1 := H5.c1
      have h2 := H5.c2
      have hsn := str_ne s
      go_wp2_with fail
      refine (same_any A5 (some ⟨g, 0, none⟩) 64 c5 64 c2 (m.take 64) (m.take 64) w5 _ _ hw5 (hb5.take_ 64 (by omega)) (by omega) (by omega)).mono ?_
      rintro e w6 ⟨rfl, m6, rfl⟩
      rw [decide_eq_true rfl]
      have hb6 := hb5.drewN m6
      have ha6 := ha5.drewN m6
      have K6 : Ks (w5.drewN m6) := K5
      have B6 := B5.trans (drewN_below w5 w.heap.size m6)
      clear hb5 ha5 K5 hw5 H5 h0 h1 h2
      go_wp2_with fail
      refine (body_yes _ N c2 m _ _ hb6 (Nat.le_refl _) hc2 (by omega) (by omega)).mono ?_
      intro e w7 hret
      obtain ⟨A7, N7, c7, rfl, hc7, hN7, hy7, b7⟩ := hret.slice_
      rw [hdr] at hy7 hN7
      have hN7' := hN7.out
      rw [hln] at hN7'
      subst hN7'
      have B7 := B6.trans (b7.mono B6.size)
      have K7 := K6.step b7
      have hb7 := (hb6.below b7).more b7.size
      have ha7 := (ha6.below b7).more b7.size
      clear hb6 ha6 hret K6 hN7
      go_wp2_with fail
      refine (same_any A7 A N7 c7 N7 c l l w7 _ _ hy7 ha7 (by omega) (by omega)).mono ?_
      rintro e w8 ⟨rfl, m8, rfl⟩
      rw [decide_eq_true rfl]
      have hb8 := hb7.drewN m8
      have K8 : Ks (w7.drewN m8) := K7
      have B8 := B7.trans (drewN_below w7 w.heap.size m8)
      clear hb7 ha7 K7 hy7
      go_wp2_with fail
      refine (rcopy_any _ N c2 m _ _ hb8 (Nat.le_refl _) (by omega)).mono ?_
      rintro e w9 ⟨x9, rfl, ho9, b9⟩
      have B9 := B8.trans (b9.mono B8.size)
      have K9 := K8.step b9
      have hb9 : Bs w9 w7.heap.size (some ⟨g, 0, none⟩) N m := hb8.below b9
      have hk7 : 1 < w7.heap.size := K8.1
      have Hk7 := Lib.hid hk7
      have hs9 : w7.heap.size ≤ w9.heap.size := b9.size
      have hwN := B8.size
      have hwN' : w.heap.size ≤ w7.heap.size := hwN
      rw [hb8.len] at ho9
      have Hmo := Lib.hid hmo
      have Hle := Lib.hid hle
      have Hs9 := Lib.hid hs9
      have HwN := Lib.hid hwN'
      clear hb8 K8 hmo hle b9 hs9 hwN hwN' B8 hk7
      go_wp2_with (at_builtin; refine wpList_append_bs _ rfl (.tmp 89) (.tmp 90) 26 rfl w7.heap.size 5 i0 Tryd.underlying26 hi0 hzz hz2 hz3 x9 N _ rfl (ho9.alloc _) (w9.heap.size + 1) (some ⟨w9.heap.size, 0, none⟩) 1 1 [0] rfl (Bs.lit_ w9 5 _ _ [0] rfl) (by omega) (by rw [alloc_size]; have := Hs9.out; omega) ?_; intro x10 w10 ho10 hg10)
      have b10 : Below w7.heap.size w9 w10 := ((Below.refl w7.heap.size w9).alloc Hs9.out _).grown hg10 (by rw [alloc_size]; have := Hs9.out; omega) (own_ge ho9)
      have B10 := B9.trans (b10.mono HwN.out)
      have K10 := K9.below b10 Hk7.out
      have hb10 := (hb9.below' b10 (Nat.le_refl _)).more (Nat.le_trans Hs9.out b10.size)
      rw [← U8_append] at ho10
      obtain ⟨A10, c10, rfl, hc10, hy10⟩ := Bs.of_own ho10
      clear hb9 K9 B9 ho10 ho9 hg10 b10
      refine (check_any A10 (N + 1) c10 (m ++ [0]) w10 _ hy10 (Nat.le_refl _) hc10 (by omega) K10.1 K10.2).mono ?_
      rintro e w11 ⟨rfl, b11⟩
      have hco : (checkOf (m ++ [0])).val = .agg Z35.toArray := by
        unfold checkOf
        rw [Hmo.out]; rfl
      rw [hco, Hmo.out]
      have B11 := B10.trans (b11.mono B10.size)
      have K11 := K10.step b11
      have hb11 := (hb10.below b11).more b11.size
      clear hb10 K10 B10 hy10 b11
      go_wp2_with (first
        | (refine wpList_store_mid rfl 25 (.tmp 13) (.tmp 93) rfl w11.heap.size 0 Z35.toArray rfl rfl (z35_there w11 _) (by rw [size25h]; rfl) z35_one ?_
           refine gen_world (F := fun W => wpList Tryd.prog _ _ _ _ W) (fun W => HdAt W w11.heap.size 0 0 ⟨#[]⟩ (List.replicate 32 0) ∧ Below w11.heap.size w11 W) (hd_stored w11 0 0 ⟨#[]⟩ (List.replicate 32 0) rfl) ?_
           rintro w12 ⟨_, b12⟩)
        | fail)
      have B12 := B11.trans (b12.mono B11.size)
      have K12 := K11.step b12
      have hb12 := (hb11.below b12).more b12.size
      have hlt : m.take (N - 1) = m.take (63 + l.length) := by congr 1; omega
      clear hb11 K11 B11 b12
      refine (check_any (some ⟨g, 0, none⟩) (N - 1) c2 (m.take (N - 1)) w12 _ (hb12.take_ (N - 1) (by omega)) (Nat.le_refl _) (by omega) (by omega) K12.1 K12.2).mono ?_
      rintro e w13 ⟨rfl, b13⟩
      rw [hlt]
      by_cases hz : l.length = 0
      · have hq : ((N7 : Int) == 0) = true := by rw [← hln, hz]; rfl
        have he := Hle.out
        rw [if_pos hz] at he
        have hco2 : (checkOf (m.take (63 + l.length))).val = .agg Z35.toArray := by
          unfold checkOf
          rw [he]; rfl
        rw [hco2, he]
        go_wp2_with
          (first
          | (refine wpList_store_mid rfl 25 (.tmp 15) (.tmp 102) rfl w13.heap.size 0 Z35.toArray rfl rfl (z35_there w13 _) (by rw [size25h]; rfl) z35_one ?_
             refine gen_world (F := fun W => wpList Tryd.prog _ _ _ _ W) (fun W => HdAt W w13.heap.size 0 0 ⟨#[]⟩ (List.replicate 32 0) ∧ Below w13.heap.size w13 W) (hd_stored w13 0 0 ⟨#[]⟩ (List.replicate 32 0) rfl) ?_
             rintro w14 ⟨_, b14⟩)
          | fail)
        go_ret
        exact ⟨rfl, (B12.trans (b13.mono B12.size)).trans (b14.mono (Nat.le_trans B12.size b13.size))⟩
      · have hq : ((N7 : Int) == 0) = false := beq_eq_false_iff_ne.2 (by omega)
        have he := Hle.out
        rw [if_neg hz] at he
        have hco2 : (checkOf (m.take (63 + l.length))).val = .agg Z35.toArray := by
          unfold checkOf
          rw [he]; rfl
        rw [hco2, he]
        go_wp2_with
          (first
          | (refine wpList_store_mid rfl 25 (.tmp 15) (.tmp 102) rfl w13.heap.size 0 Z35.toArray rfl rfl (z35_there w13 _) (by rw [size25h]; rfl) z35_one ?_
             refine gen_world (F := fun W => wpList Tryd.prog _ _ _ _ W) (fun W => HdAt W w13.heap.size 0 0 ⟨#[]⟩ (List.replicate 32 0) ∧ Below w13.heap.size w13 W) (hd_stored w13 0 0 ⟨#[]⟩ (List.replicate 32 0) rfl) ?_
             rintro w14 ⟨_, b14⟩)
          | fail)
        go_ret
        exact ⟨rfl, (B12.trans (b13.mono B12.size)).trans (b14.mono (Nat.le_trans B12.size b13.size))⟩
end Go.Proofs.YtiieianbmldnbaaDoor
