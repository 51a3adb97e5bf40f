/-
  ImageHeads: every head has the bytes, all bytes are the head, that the document says.
-/
import Derived.Test.YtiieianbmldnbaaDoorImgHdEq
import Derived.Test.YtiieianbmldnbaaDoorImgAlive
namespace Go.Proofs.YtiieianbmldnbaaDoor
open Go.RowKit
set_option maxRecDepth 100000
set_option maxRecDepth 100000
theorem built33 (v sz : Int) (nm : ByteArray) (d : List UInt8) (hd : d.length = 32) : Tryd.prog.built 33 [(0, .int .u32 v), (1, .int .i64 sz), (2, .string nm), (3, .agg (U8 d).toArray)] = some (Hv v sz nm d).toArray := by
  match d, hd with
  | [a0, a1, a2, a3, a4, a5, a6, a7, b0, b1, b2, b3, b4, b5, b6, b7, c0, c1, c2, c3, c4, c5, c6, c7, d0, d1, d2, d3, d4, d5, d6, d7], _ =>
    show _ = _
    kernel_rfl
set_option maxHeartbeats 1600000 in
/-- A head told as the document's. -/
theorem as_any (w : World) (v sz : Int) (nm : ByteArray) (d : List UInt8) (hd : d.length = 32) :
    Calls Tryd.prog 11 #[.agg (Hv v sz nm d).toArray] w fun e w' => e = .returned (.agg (Hv v sz nm d).toArray) ∧ Below w.heap.size w w' := by
  obtain ⟨W, hW⟩ : ∃ W, W = w.alloc (.cells (Hv v sz nm d).toArray 25) := ⟨_, rfl⟩
  have hH : HdAt W w.heap.size v sz nm d := hW ▸ HdAt.new_ w 25 v sz nm d hd
  have hB : Below w.heap.size w W := hW ▸ alloc_below w _
  have hs : w.heap.size ≤ W.heap.size := hB.size
  have hvs := Hv_size (v := v) (sz := sz) (nm := nm) hd
  obtain ⟨V, hV⟩ : ∃ V, V = W.alloc (.cells Z35.toArray 33) := ⟨_, rfl⟩
  have hH2 : HdAt V w.heap.size v sz nm d := hH.below (hV ▸ alloc_below W _) hH.lt
  have hB2 : Below w.heap.size w V := hB.trans ((hV ▸ alloc_below W _ : Below W.heap.size W V).mono hB.size)
  have hT2 : V.there W.heap.size 0 35 := hV ▸ z35_there W 33
  have c0 := hH2.c0
  have c1 := hH2.c1
  have c2 := hH2.c2
  have hdig := hH2.dig
  have hal : W.alloc (.cells #[.int .u32 0, .int .i64 0, .string ⟨#[]⟩, .int .u8 0, .int .u8 0, .int .u8 0, .int .u8 0, .int .u8 0, .int .u8 0, .int .u8 0, .int .u8 0, .int .u8 0, .int .u8 0, .int .u8 0, .int .u8 0, .int .u8 0, .int .u8 0, .int .u8 0, .int .u8 0, .int .u8 0, .int .u8 0, .int .u8 0, .int .u8 0, .int .u8 0, .int .u8 0, .int .u8 0, .int .u8 0, .int .u8 0, .int .u8 0, .int .u8 0, .int .u8 0, .int .u8 0, .int .u8 0, .int .u8 0, .int .u8 0] 33) = V := hV.symm
  clear hV hH hB
  go_enter Tryd.func11, Tryd.ntmps11
  go_wp2_with (first
    | (refine Great.wpList_boxTo rfl 25 _ rfl (some 1) rfl w.heap.size rfl (Hv v sz nm d).toArray rfl ?_; rw [← hW]; clear hW)
    | refine wpList_load_mid rfl 23 (.tmp 9) rfl w.heap.size 3 rfl (U8 d) _ hdig Tryd.underlying23 rfl (by rw [size25, U8_length, hd]) ?_
    | refine wpList_build_is rfl 33 _ rfl (Hv v sz nm d).toArray (by simp only [List.map_toArray, List.map_cons, List.map_nil]; exact built33 v sz nm d hd) ?_
    | refine wpList_store_mid rfl 33 (.tmp 2) (.tmp 11) rfl W.heap.size 0 (Hv v sz nm d).toArray rfl rfl (by rw [hvs]; exact hT2) (by rw [size33h, hvs]) (all_oneCell_toArray (Hv_one _ _ _ _)) ?_)
  refine bodyPost_ret (results_cell_mid rfl _ _ W.heap.size 0 (Hv v sz nm d) _ rfl (World.rangeAt_setCells_same _ _ _ _ (by rw [Hv_length hd]; exact hT2)) Tryd.underlying33 rfl (by rw [size33h, Hv_length hd])) rfl ?_
  exact ⟨rfl, below_setCells hB2 hs _ _⟩
/-- What lies there while the answers are held against each other. -/
structure HW (w0 : World) (a h g : Nat) (v sz : Int) (nm : ByteArray) (d : List UInt8) (P : Hd) (A1 A2 : Option Addr) (n1 n2 : Nat) (l : List UInt8) (w : World) : Prop where
  bel : Below w0.heap.size w0 w
  arg : HdAt w a v sz nm d
  mine : HdAt w h P.v P.sz ⟨P.nm.toArray⟩ P.d
  told : HdAt w g P.v P.sz ⟨P.nm.toArray⟩ P.d
  one : Bs w w.heap.size A1 n1 l
  two : Bs w w.heap.size A2 n2 l
theorem HW.step {w0 : World} {a h g : Nat} {v sz : Int} {nm : ByteArray} {d : List UInt8} {P : Hd} {A1 A2 : Option Addr} {n1 n2 : Nat} {l : List UInt8} {w w' : World} (s : HW w0 a h g v sz nm d P A1 A2 n1 n2 l w) (hb : Below w.heap.size w w') : HW w0 a h g v sz nm d P A1 A2 n1 n2 l w' :=
  ⟨s.bel.trans (hb.mono s.bel.size), s.arg.below hb s.arg.lt, s.mine.below hb s.mine.lt, s.told.below hb s.told.lt, (s.one.below hb).more hb.size, (s.two.below hb).more hb.size⟩
def HC (v sz : Int) (nm : ByteArray) (d : List UInt8) (P : Hd) (A1 A2 : Option Addr) (n1 c1 n2 c2 : Nat) (r : Bool) (we rE : Int) (i : Nat) (_w : World) (x : Value) : Prop :=
  match i with
  | 0 => x = .agg (Hv v sz nm d).toArray
  | 1 => x = .bool r
  | 2 => x = .agg (Hv v sz nm d).toArray
  | 3 => x = .agg (Hv v sz nm d).toArray
  | 4 => x = .bool r
  | 7 => x = .int .i64 we
  | 8 => x = .int .i64 we
  | 12 => x = .slice A1 n1 c1
  | 13 => x = .slice A2 n2 c2
  | 17 => x = .int .i64 rE
  | 18 => x = .int .i64 rE
  | 22 => x = .agg (Hv P.v P.sz ⟨P.nm.toArray⟩ P.d).toArray
  | 23 => x = .agg (Hv P.v P.sz ⟨P.nm.toArray⟩ P.d).toArray
  | 24 => x = .agg (Hv P.v P.sz ⟨P.nm.toArray⟩ P.d).toArray
  | _ => x = .bool true
set_option maxHeartbeats 4000000 in
theorem heads_law (v sz : Int) (nm : ByteArray) (d : List UInt8) (A : Option Addr) (n c : Nat) (l : List UInt8) (w : World) (hd : d.length = 32) (hv0 : 0 ≤ v) (hv1 : v < 4294967296) (hbs : Bs w w.heap.size A n l) (hc : n ≤ c) (hK : Ks w) :
    Calls Tryd.prog 3 #[.agg (Hv v sz nm d).toArray, .slice A n c] w fun e w' => e = .returned (.bool true) ∧ Below w.heap.size w w' := by
  obtain ⟨W, hW⟩ : ∃ W, W = w.alloc (.cells (Hv v sz nm d).toArray 25) := ⟨_, rfl⟩
  have hH : HdAt W w.heap.size v sz nm d := hW ▸ HdAt.new_ w 25 v sz nm d hd
  have hB : Below w.heap.size w W := hW ▸ alloc_below w _
  have hKW := hK.below hB hK.1
  have hbW := (hbs.below hB).more hB.size
  go_enter Tryd.func3, Tryd.ntmps3
  go_wp2_with (refine Great.wpList_boxTo rfl 25 _ rfl (some 2) rfl w.heap.size rfl (Hv v sz nm d).toArray rfl ?_; rw [← hW]; clear hW)
  refine (alive_any W hKW).mono ?_
  rintro e w1 ⟨rfl, b1⟩
  have B1 := hB.trans (b1.mono hB.size)
  have H1 := hH.below b1 hH.lt
  have hb1 := (hbW.below b1).more b1.size
  clear hH hB hKW b1 hbW
  by_cases hn : (2000 : Int) < n
  · go_wp2
    go_ret
    exact ⟨rfl, B1⟩
  · go_wp2_with (refine wpList_load_mid rfl 25 (.tmp 2) rfl w.heap.size 0 rfl (Hv v sz nm d) _ H1.range Tryd.underlying25 rfl (by rw [size25h, Hv_length hd]) ?_)
    refine (write_all w1 v sz nm d hd hv0 hv1).mono ?_
    rintro e w2 ⟨A2, n2, c2, rfl, hc2, hn2, hx2, b2⟩
    have B2 := B1.trans (b2.mono B1.size)
    have H2 := H1.below b2 H1.lt
    have hb2 := (hb1.below b2).more b2.size
    clear H1 b2 hb1
    go_wp2_with (refine wpList_load_mid rfl 25 (.tmp 2) rfl w.heap.size 0 rfl (Hv v sz nm d) _ H2.range Tryd.underlying25 rfl (by rw [size25h, Hv_length hd]) ?_)
    refine (as_any w2 v sz nm d hd).mono ?_
    rintro e w3 ⟨rfl, b3⟩
    have B3 := B2.trans (b3.mono B2.size)
    have H3 := H2.below b3 H2.lt
    have hb3 := (hb2.below b3).more b3.size
    have hx3 := (hx2.below b3).more b3.size
    clear H2 b3 hb2 hx2
    go_wp2_with fail
    refine (rwrite_all w3 v sz nm d hd hv0 hv1).mono ?_
    rintro e w4 ⟨A4, n4, c4, rfl, hc4, hn4, hx4, b4⟩
    have B4 := B3.trans (b4.mono B3.size)
    have H4 := H3.below b4 H3.lt
    have hb4 := (hb3.below b4).more b4.size
    have hy4 := (hx3.below b4).more b4.size
    clear H3 b4 hb3 hx3
    have hP := readOf_d l
    have hr5 := fun W B hbs hB => read_any A n c l W B hbs hB hc
    have hr6 := fun W B hbs hB => rread_any A n c l W B hbs hB hc
    unfold Hd.val at hr5 hr6
    generalize readOf l = P at hP hr5 hr6
    generalize (readErr l : Int) = rE at hr5 hr6
    generalize wErr sz nm = we at *
    generalize wOut v sz nm d = lo at *
    have hvs := Hv_size (v := P.v) (sz := P.sz) (nm := ⟨P.nm.toArray⟩) hP
    go_wp2_with fail
    refine (hr5 w4 _ hb4 (Nat.le_refl _)).mono ?_
    rintro e w5 ⟨rfl, b5⟩
    have B5 := B4.trans (b5.mono B4.size)
    have H5 := H4.below b5 H4.lt
    have hb5 := (hb4.below b5).more b5.size
    have hx5 := (hx4.below b5).more b5.size
    have hy5 := (hy4.below b5).more b5.size
    clear H4 b5 hb4 hx4 hy4
    go_wp2_with (first
      | (refine wpList_store_mid rfl 25 (.tmp 9) (.tmp 32) rfl w5.heap.size 0 (Hv P.v P.sz ⟨P.nm.toArray⟩ P.d).toArray rfl rfl (by rw [hvs]; exact z35_there w5 _) (by rw [size25h, hvs]) (all_oneCell_toArray (Hv_one _ _ _ _)) ?_
         refine gen_world (F := fun W => wpList Tryd.prog _ _ _ _ W) (fun W => HdAt W w5.heap.size P.v P.sz ⟨P.nm.toArray⟩ P.d ∧ Below w5.heap.size w5 W) (hd_stored w5 P.v P.sz ⟨P.nm.toArray⟩ P.d hP) ?_
         rintro w6 ⟨M6, b6⟩)
      | fail)
    have B6 := B5.trans (b6.mono B5.size)
    have H6 := H5.below b6 H5.lt
    have hb6 := (hb5.below b6).more b6.size
    have hx6 := (hx5.below b6).more b6.size
    have hy6 := (hy5.below b6).more b6.size
    generalize w5.heap.size = h at *
    clear H5 b6 hb5 hx5 hy5 B5
    refine (hr6 w6 _ hb6 (Nat.le_refl _)).mono ?_
    rintro e w7 ⟨rfl, b7⟩
    have B7 := B6.trans (b7.mono B6.size)
    have H7 := H6.below b7 H6.lt
    have M7 := M6.below b7 M6.lt
    have hx7 := (hx6.below b7).more b7.size
    have hy7 := (hy6.below b7).more b7.size
    clear H6 b7 hb6 hx6 hy6 M6
    have hst : HdAt ((w7.alloc (.cells Z35.toArray 33)).setCells w7.heap.size 0 (Hv P.v P.sz ⟨P.nm.toArray⟩ P.d)) w7.heap.size P.v P.sz ⟨P.nm.toArray⟩ P.d ∧ Below w7.heap.size w7 ((w7.alloc (.cells Z35.toArray 33)).setCells w7.heap.size 0 (Hv P.v P.sz ⟨P.nm.toArray⟩ P.d)) :=
      ⟨⟨hP, World.rangeAt_setCells_same _ _ _ _ (by rw [Hv_length hP]; exact z35_there w7 _), World.there_setCells (z35_there w7 _) _ _ _⟩, below_setCells (alloc_below w7 _) (Nat.le_refl _) _ _⟩
    go_wp2_with (first
      | (refine wpList_store_mid rfl 33 (.tmp 11) (.tmp 37) rfl w7.heap.size 0 (Hv P.v P.sz ⟨P.nm.toArray⟩ P.d).toArray rfl rfl (by rw [hvs]; exact z35_there w7 _) (by rw [size33h, hvs]) (all_oneCell_toArray (Hv_one _ _ _ _)) ?_
         refine gen_world (F := fun W => wpList Tryd.prog _ _ _ _ W) (fun W => HdAt W w7.heap.size P.v P.sz ⟨P.nm.toArray⟩ P.d ∧ Below w7.heap.size w7 W) hst ?_
         rintro w8 ⟨T8, b8⟩)
      | fail)
    have hS8 : HW w w.heap.size h w7.heap.size v sz nm d P A2 A4 n2 n4 lo w8 := ⟨B7.trans (b8.mono B7.size), H7.below b8 H7.lt, M7.below b8 M7.lt, T8, (hy7.below b8).more b8.size, (hx7.below b8).more b8.size⟩
    generalize w7.heap.size = g at *
    clear H7 M7 hx7 hy7 T8 B7 b8 hst B6 B4 B3 B2 B1 hr5 hr6 hbs
    refine wp_region_rel (HW w w.heap.size h g v sz nm d P A2 A4 n2 n4 lo) (fun w w' => Below w.heap.size w w') (HC v sz nm d P A2 A4 n2 c2 n4 c4 (rightH sz nm) we rE) [(2, .pointer (some ⟨w.heap.size, 0, none⟩)), (6, .int .i64 we), (8, .int .i64 we), (5, .slice A2 n2 c2), (7, .slice A4 n4 c4), (10, .int .i64 rE), (12, .int .i64 rE), (9, .pointer (some ⟨h, 0, none⟩)), (11, .pointer (some ⟨g, 0, none⟩))] (by kernel_rfl) (by kernel_rfl) (by kernel_rfl) ?base (hS8.step (drew_below w8 _)) (fun _ _ _ _ _ h => h) ?steps ?fin
    case base =>
      intro p hp
      simp only [List.mem_cons, List.not_mem_nil, or_false] at hp
      rcases hp with rfl | rfl | rfl | rfl | rfl | rfl | rfl | rfl | rfl <;> exact ⟨rfl, rfl⟩
    case steps =>
      refine steps_cons ?_ (steps_cons ?_ (steps_cons ?_ (steps_cons ?_ (steps_cons ?_ (steps_cons ?_ (steps_cons ?_ (steps_cons ?_ (steps_cons ?_ (steps_cons ?_ (steps_cons ?_ (steps_cons ?_ (steps_cons ?_ (steps_cons ?_ (steps_cons ?_ (steps_cons ?_ (steps_cons ?_ (steps_cons ?_ (steps_cons ?_ (steps_cons ?_ (steps_cons ?_ (steps_cons ?_ (steps_cons ?_ (steps_cons ?_ (steps_cons ?_ (steps_cons ?_ (steps_cons ?_ (steps_cons ?_ steps_nil)))))))))))))))))))))))))))
      · intro a w0 K hS hB hR hK
        rw [if_pos (wanted_none rfl)]
        refine wp_load_mid _ _ rfl _ _ (hB.1) (Hv v sz nm d) _ hS.arg.range Tryd.underlying25 rfl (by rw [size25h, Hv_length hd]) ?_
        exact hK (.agg (Hv v sz nm d).toArray) w0 hS (Below.refl _ _) rfl
      · intro a w0 K hS hB hR hK
        rw [if_pos (wanted_none rfl)]
        have e0 := tmp_is (hR.1)
        go_simp
        refine (right_any w0 v sz nm d hd).mono ?_
        rintro e w' ⟨rfl, hb⟩
        exact hK _ _ (hS.step hb) hb rfl
      · intro a w0 K hS hB hR hK
        rw [if_pos (wanted_none rfl)]
        refine wp_load_mid _ _ rfl _ _ (hB.1) (Hv v sz nm d) _ hS.arg.range Tryd.underlying25 rfl (by rw [size25h, Hv_length hd]) ?_
        exact hK (.agg (Hv v sz nm d).toArray) w0 hS (Below.refl _ _) rfl
      · intro a w0 K hS hB hR hK
        rw [if_pos (wanted_none rfl)]
        have e0 := tmp_is (hR.1)
        go_simp
        refine (as_any w0 v sz nm d hd).mono ?_
        rintro e w' ⟨rfl, hb⟩
        exact hK _ _ (hS.step hb) hb rfl
      · intro a w0 K hS hB hR hK
        rw [if_pos (wanted_none rfl)]
        have e0 := tmp_is (hR.1)
        go_simp
        refine (rright_any w0 v sz nm d hd).mono ?_
        rintro e w' ⟨rfl, hb⟩
        exact hK _ _ (hS.step hb) hb rfl
      · intro a w0 K hS hB hR hK
        rw [if_pos (wanted_none rfl)]
        have e0 := tmp_is (hR.1)
        have e1 := tmp_is (hR.2.1)
        have e2 : (rightH sz nm == rightH sz nm) = true := beq_self_eq_true _
        go_simp
        exact hK (.bool true) w0 hS (Below.refl _ _) rfl
      · intro a w0 K hS hB hR hK
        rw [if_pos (wanted_none rfl)]
        have e0 := tmp_is (hR.1)
        go_simp
        exact hK (.bool true) w0 hS (Below.refl _ _) rfl
      · intro a w0 K hS hB hR hK
        rw [if_pos (wanted_some rfl (hR.1))]
        have e0 := tmp_is (hB.2.1)
        go_simp
        exact hK (.int .i64 we) w0 hS (Below.refl _ _) rfl
      · intro a w0 K hS hB hR hK
        rw [if_pos (wanted_some rfl (hR.1))]
        have e0 := tmp_is (hB.2.2.1)
        go_simp
        exact hK (.int .i64 we) w0 hS (Below.refl _ _) rfl
      · intro a w0 K hS hB hR hK
        rw [if_pos (wanted_some rfl (hR.2.2.1))]
        have e0 := tmp_is (hR.1)
        have e1 := tmp_is (hR.2.1)
        have e2 : (we == we) = true := beq_self_eq_true _
        go_simp
        exact hK (.bool true) w0 hS (Below.refl _ _) rfl
      · intro a w0 K hS hB hR hK
        rw [if_pos (wanted_none rfl)]
        have e0 := tmp_is (hR.1)
        have e1 := tmp_is (hR.2.1)
        go_simp
        exact hK (.bool true) w0 hS (Below.refl _ _) rfl
      · intro a w0 K hS hB hR hK
        rw [if_pos (wanted_none rfl)]
        have e0 := tmp_is (hR.1)
        go_simp
        exact hK (.bool true) w0 hS (Below.refl _ _) rfl
      · intro a w0 K hS hB hR hK
        rw [if_pos (wanted_some rfl (hR.1))]
        have e0 := tmp_is (hB.2.2.2.1)
        go_simp
        exact hK (.slice A2 n2 c2) w0 hS (Below.refl _ _) rfl
      · intro a w0 K hS hB hR hK
        rw [if_pos (wanted_some rfl (hR.1))]
        have e0 := tmp_is (hB.2.2.2.2.1)
        go_simp
        exact hK (.slice A4 n4 c4) w0 hS (Below.refl _ _) rfl
      · intro a w0 K hS hB hR hK
        rw [if_pos (wanted_some rfl (hR.2.2.2.1))]
        have e0 := tmp_is (hR.1)
        have e1 := tmp_is (hR.2.1)
        go_simp
        refine (same_any A2 A4 n2 c2 n4 c4 lo lo w0 _ _ hS.one hS.two (by omega) (by omega)).mono ?_
        rintro e w' ⟨rfl, m, rfl⟩
        rw [decide_eq_true rfl]
        exact hK _ _ (hS.step (drewN_below w0 _ m)) (drewN_below w0 _ m) rfl
      · intro a w0 K hS hB hR hK
        rw [if_pos (wanted_none rfl)]
        have e0 := tmp_is (hR.1)
        have e1 := tmp_is (hR.2.1)
        go_simp
        exact hK (.bool true) w0 hS (Below.refl _ _) rfl
      · intro a w0 K hS hB hR hK
        rw [if_pos (wanted_none rfl)]
        have e0 := tmp_is (hR.1)
        go_simp
        exact hK (.bool true) w0 hS (Below.refl _ _) rfl
      · intro a w0 K hS hB hR hK
        rw [if_pos (wanted_some rfl (hR.1))]
        have e0 := tmp_is (hB.2.2.2.2.2.1)
        go_simp
        exact hK (.int .i64 rE) w0 hS (Below.refl _ _) rfl
      · intro a w0 K hS hB hR hK
        rw [if_pos (wanted_some rfl (hR.1))]
        have e0 := tmp_is (hB.2.2.2.2.2.2.1)
        go_simp
        exact hK (.int .i64 rE) w0 hS (Below.refl _ _) rfl
      · intro a w0 K hS hB hR hK
        rw [if_pos (wanted_some rfl (hR.2.2.1))]
        have e0 := tmp_is (hR.1)
        have e1 := tmp_is (hR.2.1)
        have e2 : (rE == rE) = true := beq_self_eq_true _
        go_simp
        exact hK (.bool true) w0 hS (Below.refl _ _) rfl
      · intro a w0 K hS hB hR hK
        rw [if_pos (wanted_none rfl)]
        have e0 := tmp_is (hR.1)
        have e1 := tmp_is (hR.2.1)
        go_simp
        exact hK (.bool true) w0 hS (Below.refl _ _) rfl
      · intro a w0 K hS hB hR hK
        rw [if_pos (wanted_none rfl)]
        have e0 := tmp_is (hR.1)
        go_simp
        exact hK (.bool true) w0 hS (Below.refl _ _) rfl
      · intro a w0 K hS hB hR hK
        rw [if_pos (wanted_some rfl (hR.1))]
        refine wp_load_mid _ _ rfl _ _ (hB.2.2.2.2.2.2.2.1) (Hv P.v P.sz ⟨P.nm.toArray⟩ P.d) _ hS.mine.range Tryd.underlying25 rfl (by rw [size25h, Hv_length hP]) ?_
        exact hK (.agg (Hv P.v P.sz ⟨P.nm.toArray⟩ P.d).toArray) w0 hS (Below.refl _ _) rfl
      · intro a w0 K hS hB hR hK
        rw [if_pos (wanted_some rfl (hR.2.1))]
        have e0 := tmp_is (hR.1)
        go_simp
        refine (as_any w0 P.v P.sz ⟨P.nm.toArray⟩ P.d hP).mono ?_
        rintro e w' ⟨rfl, hb⟩
        exact hK _ _ (hS.step hb) hb rfl
      · intro a w0 K hS hB hR hK
        rw [if_pos (wanted_some rfl (hR.1))]
        refine wp_load_mid _ _ rfl _ _ (hB.2.2.2.2.2.2.2.2.1) (Hv P.v P.sz ⟨P.nm.toArray⟩ P.d) _ hS.told.range Tryd.underlying33 rfl (by rw [size33h, Hv_length hP]) ?_
        exact hK (.agg (Hv P.v P.sz ⟨P.nm.toArray⟩ P.d).toArray) w0 hS (Below.refl _ _) rfl
      · intro a w0 K hS hB hR hK
        rw [if_pos (wanted_some rfl (hR.2.2.1))]
        have e0 := tmp_is (hR.1)
        have e1 := tmp_is (hR.2.1)
        have hg := run_eqGuard_agg (P := Tryd.prog) w0 .eql 33 (.tmp 62) (.tmp 63) (Hv P.v P.sz ⟨P.nm.toArray⟩ P.d).toArray (Hv P.v P.sz ⟨P.nm.toArray⟩ P.d).toArray guard33
        have hq := run_eql_hd w0 P.v P.sz ⟨P.nm.toArray⟩ P.d hP
        generalize Value.agg (Hv P.v P.sz ⟨P.nm.toArray⟩ P.d).toArray = X at hg hq e0 e1
        go_simp
        exact hK (.bool true) w0 hS (Below.refl _ _) rfl
      · intro a w0 K hS hB hR hK
        rw [if_pos (wanted_none rfl)]
        have e0 := tmp_is (hR.1)
        have e1 := tmp_is (hR.2.1)
        go_simp
        exact hK (.bool true) w0 hS (Below.refl _ _) rfl
      · intro a w0 K hS hB hR hK
        rw [if_pos (wanted_none rfl)]
        have e0 := tmp_is (hR.1)
        go_simp
        exact hK (.bool true) w0 hS (Below.refl _ _) rfl
    case fin =>
      intro a w' HS0 ha hR
      have r27 : a.eval (.tmp 4) = .bool true := deps_mem _ hR 27 (by decide)
      have hbel := HS0.bel
      clear hR HS0
      simp only [pin] at ha
      rw [ha]
      simp only [List.setIfInBounds_toArray, List.set_cons_zero, List.set_cons_succ, r27]
      clear ha r27
      go_wp2
      go_ret
      exact ⟨rfl, hbel⟩
end Go.Proofs.YtiieianbmldnbaaDoor
