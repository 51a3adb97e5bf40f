/-
  The document's examples of options.
-/
import Derived.Test.YtihicplembaoeaaOptPairs
namespace Go.Proofs.Ytihicplembaoeaa
open Go.RowKit
set_option maxRecDepth 100000
set_option linter.unusedVariables false
theorem al_two : addO 1 [] (addO 11 [98] []) = [(1, []), (11, [98])] := by decide +kernel
theorem al_w1 : wrP [(11, [97]), (11, [98])] = ([177, 97, 1, 98], 0) := by decide +kernel
theorem al_w2 : (wrP [(12, List.replicate 269 0)]).2 = 0 ∧ (wrP [(12, List.replicate 269 0)]).1.length = 272 ∧ (wrP [(12, List.replicate 269 0)]).1[0]? = some 206 ∧ (wrP [(12, List.replicate 269 0)]).1[1]? = some 0 ∧ (wrP [(12, List.replicate 269 0)]).1[2]? = some 0 := by decide +kernel
theorem al_e1 : errP [(11, [97]), (11, [98])] = 0 := by decide +kernel
theorem al_get : getB 11 [(11, [97]), (11, [98])] = ([97], true) := by decide +kernel
theorem al_num : numB [1, 0] = (256, true) := by decide +kernel
theorem le_256 : (le 256).reverse.length = 2 := by
  rw [List.length_reverse, le_pos (by omega), le_pos (by omega), show 256 / 256 / 256 = 0 from rfl, le_zero]; rfl
theorem jn_11 : ∀ l, jn 11 l = some (11, 0) := fun l => rfl
theorem al_r1 : rdO [177, 97, 1, 98, 255, 7] = ([(11, [97]), (11, [98])], 4, 0) := by decide +kernel
theorem al_r2 : rdO [240] = ([], 0, 20) := by decide +kernel
set_option maxHeartbeats 4000000 in
theorem oalive_any (w : World) : Calls Try.prog 14 #[] w fun e w' => e = .returned (.bool true) ∧ Below w.heap.size w w' := by
  obtain ⟨i0, hi0, hz0, hz1, hz2⟩ := info_parts info_u8
  have hml : (1 : Nat) ≤ maxLen := by simp only [maxLen]; omega
  have kc := fun (w : World) (C : Array Value) (n c : Nat) => Lib.run_convert_bytes_const (P := Try.prog) w 25 5 C n c Try.underlying25 Try.underlying5
  have kc2 : ∀ (w : World) (o : Obj) (C : Array Value) (n c : Nat), (convert 25 25 (.slice (some ⟨w.heap.size + 1, 0, none⟩) n c)).run Try.prog ((w.alloc o).alloc (.cells C 5)) = .ok (.slice (some ⟨w.heap.size + 1, 0, none⟩) n c) ((w.alloc o).alloc (.cells C 5 (C.size, C.size + 1))) := fun w o C n c => by
    have := kc (w.alloc o) C n c
    rwa [alloc_size] at this
  go_enter Try.func14, Try.ntmps14
  go_wp2_with fail
  refine calls_at_world (F := fun W => Below w.heap.size w W ∧ Bs W W.heap.size (some ⟨w.heap.size, 0, none⟩) 1 [98]) ⟨alloc_below w _, by have := Bs.lit_ w 5 #[.int .u8 98] (1, 2) [98] rfl; exact this.more (by rw [alloc_size]; exact Nat.le_refl _)⟩ fun W0 ⟨b0, hb0⟩ => ?_
  refine (add_f 11 (some ⟨w.heap.size, 0, none⟩) 1 1 [98] none 0 0 [] [] W0 _ (Os.nil_ _ _ _) (Nat.le_refl _) (Nat.le_refl _) (Nat.zero_le _) (by omega) (by simp) hb0 (Nat.le_refl _) hml (by omega)).mono ?_
  rintro e w1 ⟨A1, n1, c1, us1, rfl, ⟨hc1, hm1⟩, hn1, hos1, b1⟩
  obtain rfl : n1 = 1 := hn1.out
  have B1 := b0.trans (b1.mono b0.size)
  clear hn1 b0 hb0 b1
  go_wp2_with fail
  refine (add_f 1 none 0 0 [] A1 1 c1 us1 _ w1 _ hos1 (Nat.le_refl _) hc1 hm1 (by omega) (by intro x hx; obtain rfl := List.mem_singleton.1 hx; simp) (Bs.empty _ _ _) (Nat.le_refl _) (Nat.zero_le _) (by omega)).mono ?_
  rw [al_two]
  rintro e w2 ⟨A2, n2, c2, us2, rfl, ⟨hc2, hm2⟩, hn2, hos2, b2⟩
  obtain rfl : n2 = 2 := hn2.out
  have B2 := B1.trans (b2.mono B1.size)
  have H2 := Lib.hid (And.intro B2 hos2)
  clear hn2 b2 B1 B2 hos1 hos2 hc1 hm1
  go_wp2_with fail
  refine calls_at_world (F := fun W => Hid (Below w.heap.size w W ∧ Os W W.heap.size A2 2 us2 [(1, []), (11, [98])]) ∧ Os W W.heap.size (some ⟨w2.heap.size + 2, 0, none⟩) 2 [⟨11, some ⟨w2.heap.size, 0, none⟩, 1, 1⟩, ⟨11, some ⟨w2.heap.size + 1, 0, none⟩, 1, 1⟩] [(11, [97]), (11, [98])]) ?_ fun W3 ⟨H3, hos3⟩ => ?_
  · have b1 := alloc_below w2 (.cells #[.int .u8 97] 5 (1, 2))
    have b2 := alloc_below (w2.alloc (.cells #[.int .u8 97] 5 (1, 2))) (.cells #[.int .u8 98] 5 (1, 2))
    have l1 := Bs.lit_ w2 5 #[.int .u8 97] (1, 2) [97] rfl
    have l2 := Bs.lit_ (w2.alloc (.cells #[.int .u8 97] 5 (1, 2))) 5 #[.int .u8 98] (1, 2) [98] rfl
    rw [alloc_size] at l2
    have hq := os_two ((w2.alloc (.cells #[.int .u8 97] 5 (1, 2))).alloc (.cells #[.int .u8 98] 5 (1, 2))) 69 (0, 0) ⟨11, some ⟨w2.heap.size, 0, none⟩, 1, 1⟩ ⟨11, some ⟨w2.heap.size + 1, 0, none⟩, 1, 1⟩ [97] [98] _ ((l1.below' b2 (by rw [alloc_size]; exact Nat.le_refl _)).more (Nat.le_succ _)) l2 ⟨Nat.le_refl _, hml⟩ ⟨Nat.le_refl _, hml⟩ (by rw [alloc_size, alloc_size]; exact Nat.le_refl _)
    rw [alloc_size, alloc_size] at hq
    have ba := b1.trans (b2.mono b1.size)
    have bb := ba.trans ((alloc_below _ (.cells #[.int .i64 11, .slice (some ⟨w2.heap.size, 0, none⟩) 1 1, .int .i64 11, .slice (some ⟨w2.heap.size + 1, 0, none⟩) 1 1] 69)).mono ba.size)
    refine ⟨Lib.hid ⟨H2.out.1.trans (bb.mono H2.out.1.size), (H2.out.2.below bb).more bb.size⟩, ?_⟩
    refine hq.more ?_
    rw [alloc_size, alloc_size, alloc_size]
    exact Nat.le_refl _
  refine (writep_f _ 2 2 _ _ W3 _ hos3 (Nat.le_refl _) (by omega)).mono ?_
  rw [al_w1]
  rintro e w4 ⟨A4, n4, c4, rfl, hc4, hn4, hb4, b4⟩
  obtain rfl : n4 = 4 := hn4.out
  have H4 := Lib.hid (And.intro (H3.out.1.trans (b4.mono H3.out.1.size)) (And.intro ((H3.out.2.below b4).more b4.size) hb4))
  clear hn4 b4 hb4 hos3 H3 H2
  go_wp2_with (refine wpList_make_part _ rfl _ _ 25 rfl w4.heap.size 5 i0 Try.underlying25 hi0 hz0 hz1 hz2 .i64 .i64 _ _ 269 269 rfl rfl rfl rfl (Nat.le_refl _) (by omega) (Nat.le_refl _) ?_; intro w5 hown hgr; have H5 := Lib.hid (And.intro hown ((Below.refl w4.heap.size w4).grown hgr (Nat.le_refl _) (fun g e => by cases e))); clear hown hgr)
  obtain ⟨r2, hr2⟩ : ∃ r, wrP [(12, List.replicate 269 0)] = r := ⟨_, rfl⟩
  have hal2 := al_w2
  rw [hr2] at hal2
  have hw2 : Calls Try.prog 16 #[.slice (some ⟨w5.heap.size, 0, none⟩) 1 1] (w5.alloc (.cells #[.int .i64 12, .slice (some ⟨w4.heap.size, 0, none⟩) 269 269] 69)) (WrRet r2 (w5.alloc (.cells #[.int .i64 12, .slice (some ⟨w4.heap.size, 0, none⟩) 269 269] 69))) := by
    have hb5 : Bs w5 w5.heap.size (some ⟨w4.heap.size, 0, none⟩) 269 (List.replicate 269 0) := by
      obtain ⟨A', c', e1, _, hb⟩ := Bs.of_own H5.out.1
      injection e1 with e1 _ _
      rw [e1]; exact hb
    have ho := os_one w5 69 (0, 0) ⟨12, some ⟨w4.heap.size, 0, none⟩, 269, 269⟩ (List.replicate 269 0) _ hb5 ⟨Nat.le_refl _, by simp only [maxLen]; omega⟩ (Nat.le_refl _)
    have := writep_f _ 1 1 _ _ _ _ ho (by rw [alloc_size]; exact Nat.le_refl _) (by omega)
    rw [hr2] at this
    exact this
  have HR2 := Lib.hid hal2
  obtain ⟨l3, z3⟩ := r2
  dsimp only at hal2
  obtain rfl : z3 = 0 := hal2.1
  clear hr2 hal2
  refine hw2.mono ?_
  rintro e w6 ⟨A6, n6, c6, rfl, hc6, hn6, hb6, b6⟩
  obtain rfl : n6 = 272 := by rw [hn6.out]; exact HR2.out.2.1
  dsimp only at hb6
  have B56 : Below w4.heap.size w4 w6 := (H5.out.2.trans ((alloc_below w5 _).mono H5.out.2.size)).trans (b6.mono (Nat.le_trans H5.out.2.size (alloc_below w5 _).size))
  have H6 := Lib.hid (And.intro (H4.out.1.trans (B56.mono H4.out.1.size)) (And.intro ((H4.out.2.1.below B56).more B56.size) (And.intro ((H4.out.2.2.below B56).more B56.size) hb6)))
  clear hn6 b6 hb6 B56 H5 H4 hw2
  have hcp := rcopy_any A4 4 c4 [177, 97, 1, 98] w6 _ H6.out.2.2.1 (Nat.le_refl _) (by omega)
  go_wp2_with (first
    | (go_at_call 22; refine hcp.mono ?_; rintro e w7 ⟨v7, rfl, ho7, b7⟩; have H7 := Lib.hid (And.intro ho7 b7); have hsz7 := b7.size; clear ho7 b7)
    | (at_builtin; refine wpList_append_bs _ rfl (.tmp 40) (.tmp 41) 25 rfl w6.heap.size 5 i0 Try.underlying25 hi0 hz0 hz1 hz2 v7 4 _ rfl (H7.out.1.alloc _) (w7.heap.size + 1) (some ⟨w7.heap.size, 0, none⟩) 2 2 [255, 7] rfl (Bs.lit_ w7 5 _ _ [255, 7] rfl) (by omega) (by rw [alloc_size]; omega) ?_; intro v8 w8 ho8 hg8; obtain ⟨A8, c8, rfl, hc8, hb8⟩ := Bs.of_own (l := [177, 97, 1, 98, 255, 7]) ho8; have hm8 := row_cap ho8; have H8 := Lib.hid (And.intro hb8 (And.intro hc8 (And.intro hm8 ((H7.out.2.alloc H7.out.2.size (.cells #[.int .u8 255, .int .u8 7] 5)).grown hg8 (by rw [alloc_size]; have := H7.out.2.size; omega) (own_ge H7.out.1))))); clear ho8 hg8 hb8 hc8 hm8))
  have hrd := read_f A8 6 c8 [177, 97, 1, 98, 255, 7] w8 _ H8.out.1 (Nat.le_refl _) H8.out.2.1 (by have := H8.out.2.2.1; simp only [maxLen] at this; omega) (by omega)
  rw [al_r1] at hrd
  refine hrd.mono ?_
  rintro e w9 ⟨A9, n9, c9, us9, rfl, hc9, hm9, hn9, hos9, b9⟩
  obtain rfl : n9 = 2 := hn9.out
  dsimp only at hos9
  have B69 : Below w6.heap.size w6 w9 := H8.out.2.2.2.trans (b9.mono H8.out.2.2.2.size)
  have H9 := Lib.hid (And.intro (H6.out.1.trans (B69.mono H6.out.1.size)) (And.intro ((H6.out.2.1.below B69).more B69.size) (And.intro ((H6.out.2.2.1.below B69).more B69.size) (And.intro ((H6.out.2.2.2.below B69).more B69.size) hos9))))
  clear hn9 hos9 b9 B69 H8 H7 H6 hrd hcp hc9 hm9 hsz7
  try dsimp only
  go_wp2_with fail
  have hrd2 : Calls Try.prog 19 #[.slice (some ⟨w9.heap.size, 0, none⟩) 1 1] (w9.alloc (.cells #[.int .u8 240] 5)) (RdRet ([], 0, 20) (w9.alloc (.cells #[.int .u8 240] 5))) := by
    have := read_f (some ⟨w9.heap.size, 0, none⟩) 1 1 [240] (w9.alloc (.cells #[.int .u8 240] 5)) _ (Bs.lit_ w9 5 #[.int .u8 240] (0, 0) [240] rfl) (by rw [alloc_size]; exact Nat.le_refl _) (Nat.le_refl _) (by omega) (by omega)
    rw [al_r2] at this
    exact this
  refine hrd2.mono ?_
  rintro e w10 ⟨A10, n10, c10, us10, rfl, hc10, hm10, hn10, hos10, b10⟩
  have B9 : Below w9.heap.size w9 w10 := (alloc_below w9 _).trans (b10.mono (alloc_below w9 _).size)
  have H10 := Lib.hid (And.intro (H9.out.1.trans (B9.mono H9.out.1.size)) (And.intro ((H9.out.2.1.below B9).more B9.size) (And.intro ((H9.out.2.2.1.below B9).more B9.size) (And.intro ((H9.out.2.2.2.1.below B9).more B9.size) ((H9.out.2.2.2.2.below B9).more B9.size)))))
  clear hn10 hos10 b10 B9 H9 hrd2 hc10 hm10
  try dsimp only
  have hget := get_f 11 A9 2 c9 us9 _ w10 _ H10.out.2.2.2.2 (Nat.le_refl _) (by omega) (by intro x hx; rcases List.mem_cons.1 hx with rfl | hx; simp; obtain rfl := List.mem_singleton.1 hx; simp)
  rw [al_get] at hget
  go_wp2_with fail
  refine hget.mono ?_
  rintro e w11 ⟨A11, n11, c11, rfl, hn11, hb11, b11⟩
  obtain rfl : n11 = 1 := hn11.out
  try dsimp only at hb11
  have H11 := Lib.hid (And.intro (H10.out.1.trans (b11.mono H10.out.1.size)) (And.intro ((H10.out.2.1.below b11).more b11.size) (And.intro ((H10.out.2.2.1.below b11).more b11.size) (And.intro ((H10.out.2.2.2.1.below b11).more b11.size) (And.intro ((H10.out.2.2.2.2.below b11).more b11.size) hb11)))))
  clear hn11 hb11 b11 H10 hget
  try dsimp only
  go_wp2_with fail
  refine calls_at_world (F := fun W => Below w11.heap.size w11 W ∧ Bs W W.heap.size (some ⟨w11.heap.size, 0, none⟩) 2 [1, 0]) ⟨alloc_below w11 _, by have := Bs.lit_ w11 5 #[.int .u8 1, .int .u8 0] (0, 0) [1, 0] rfl; exact this.more (by rw [alloc_size]; exact Nat.le_refl _)⟩ fun W12 ⟨b12, hb12⟩ => ?_
  have hnum := number_f (some ⟨w11.heap.size, 0, none⟩) 2 2 [1, 0] W12 _ hb12
  rw [al_num] at hnum
  refine hnum.mono ?_
  rintro e w12 ⟨rfl, hw⟩
  obtain rfl := hw.symm
  have h2' := (H11.out.2.1.below b12).more b12.size
  have h4' := (H11.out.2.2.1.below b12).more b12.size
  have h6' := (H11.out.2.2.2.1.below b12).more b12.size
  have h9' := (H11.out.2.2.2.2.1.below b12).more b12.size
  have h11' := (H11.out.2.2.2.2.2.below b12).more b12.size
  have s4 := run_string_bs (P := Try.prog) h4' 25 9 5 c4 Try.underlying25 Try.underlying5 Try.underlying9
  have s11 := run_string_bs (P := Try.prog) h11' 25 9 5 c11 Try.underlying25 Try.underlying5 Try.underlying9
  obtain ⟨b6, o6, rfl, _, hc6'⟩ := h6'.place (by omega)
  have k0 : W12.cell? ⟨b6, o6, none⟩ = some (.int .u8 206) := hc6' 0 206 HR2.out.2.2.1
  have k1 : W12.cell? ⟨b6, o6 + 1, none⟩ = some (.int .u8 0) := hc6' 1 0 HR2.out.2.2.2.1
  have k2 : W12.cell? ⟨b6, o6 + 2, none⟩ = some (.int .u8 0) := hc6' 2 0 HR2.out.2.2.2.2
  have hall := all_f 11 A9 2 c9 us9 _ W12 _ h9' (Nat.le_refl _) (by omega) (by intro x hx; rcases List.mem_cons.1 hx with rfl | hx; simp; obtain rfl := List.mem_singleton.1 hx; simp)
  have hwo := fun W (b : Below W12.heap.size W12 W) => wout_f 11 A9 2 c9 us9 _ W _ (h9'.below b) b.size (by omega) (by intro x hx; rcases List.mem_cons.1 hx with rfl | hx; simp; obtain rfl := List.mem_singleton.1 hx; simp)
  have hl256 := le_256
  have hui := fun W => uint_f 256 W (by omega)
  obtain ⟨b2, o2, rfl, hbl2, hc2'⟩ := h2'.sh.place (by omega)
  obtain ⟨s0, hs0⟩ := sv_get h2'.sh (k := 0) (by omega)
  have hk0 : s0.k = 1 := by
    obtain ⟨l0, hl0, _⟩ := h2'.get hs0
    have := Option.some.inj hl0
    injection this with this _
    exact this.symm
  have j0 := (hc2' 0 s0 hs0).1
  rw [hk0, Nat.zero_mul, Nat.add_zero] at j0
  have HZ := Lib.hid (And.intro (H11.out.1.trans (b12.mono H11.out.1.size)) (And.intro j0 (And.intro hbl2 hl256)))
  have HA := Lib.hid (And.intro hall (And.intro hwo hui))
  clear hb12 b12 h2' h4' h6' h9' h11' hc6' hall hwo hui hc2' hs0 hk0 j0 hl256 hnum H11 HR2
  try dsimp only
  go_wp2_with (first
    | (go_at_call 27; refine HA.out.1.mono ?_; rintro e w13 ⟨A13, n13, c13, rfl, _, hn13, _, b13⟩; obtain rfl : n13 = 2 := hn13.out; have H13 := Lib.hid b13; clear b13 hn13)
    | (go_at_call 28; refine (HA.out.2.1 w13 H13.out).mono ?_; rintro e w14 ⟨A14, n14, c14, us14, rfl, _, hn14, _, b14⟩; obtain rfl : n14 = 0 := hn14.out; have b14' := H13.out.trans (b14.mono H13.out.size); have j14 : w14.cell? ⟨b2, o2, none⟩ = some (.int .i64 1) := (b14'.cell (p := ⟨b2, o2, none⟩) HZ.out.2.2.1).trans HZ.out.2.1; have H14 := Lib.hid b14'; clear b14 hn14 b14')
    | (go_at_call 24; refine (HA.out.2.2 _).mono ?_; intro e w15 h15; obtain ⟨A15, n15, c15, rfl, _, hn15, _, b15⟩ := h15.slice_; obtain rfl : n15 = 2 := hn15.out.trans HZ.out.2.2.2; have H15 := Lib.hid (H14.out.trans (b15.mono H14.out.size)); clear b15 hn15 h15)
    | (go_at_call 47; refine (critical_f _ _).mono ?_; rintro e w16 ⟨rfl, hw⟩; obtain rfl := hw.symm))
  go_ret
  exact ⟨rfl, HZ.out.1.trans (H15.out.mono HZ.out.1.size)⟩
end Go.Proofs.Ytihicplembaoeaa
