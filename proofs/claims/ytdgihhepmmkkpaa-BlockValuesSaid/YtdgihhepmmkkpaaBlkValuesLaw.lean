/-
  BlockValues: all blocks are values, and back, as the document says.
-/
import Derived.Test.YtdgihhepmmkkpaaBlkAlive
import Derived.Test.YtdgihhepmmkkpaaBlkRRead
import Derived.Test.YtdgihhepmmkkpaaRel
import Derived.Laws.StructEq
namespace Go.Proofs.Ytdgihhepmmkkpaa
open Go.RowKit
set_option maxRecDepth 100000
set_option linter.unusedVariables false
theorem eql_rblk (a c : Int) (b : Bool) (W : World) : (binOp .eql 42 (.agg #[.int .i64 a, .bool b, .int .i64 c]) (.agg #[.int .i64 a, .bool b, .int .i64 c])).run Try.prog W = .ok (.bool true) W := by
  have hS : Try.prog.underlying 42 = some (.struct (Try.prog.fieldsOf 42)) := by kernel_rfl
  have hp : Try.prog.stoodInHeld 42 = false := by kernel_rfl
  have u3 := Try.underlying3
  have a3 := Try.isAgg3
  have z3 := Try.sizeOf3
  have u4 := Try.underlying4
  have a4 := Try.isAgg4
  have z4 := Try.sizeOf4
  rw [run_eql_struct, show (10000 : Nat) = 9999 + 1 from rfl, run_equalIn_agg W 9999 42 _ _ hS hp]
  simp only [Program.fieldsOf, Try.underlying42]
  go_simp
  try simp
def BvR (ev er rn rz : Int) (rm xm xo : Bool) (v u x y : Value) (i : Nat) (w : World) (z : Value) : Prop :=
  match i with
  | 0 | 1 => z = .int .i64 ev
  | 4 => z = v
  | 5 => z = u
  | 9 | 10 => z = .int .i64 er
  | 14 | 15 | 16 => z = .agg #[.int .i64 rn, .bool rm, .int .i64 rz]
  | 20 => z = x
  | 21 => z = y
  | 25 | 26 => z = .bool xm
  | 30 | 31 => z = .bool xo
  | _ => z = .bool true
set_option maxHeartbeats 8000000 in
theorem bvalues_law (n z : Int) (m : Bool) (A1 : Option Addr) (n1 c1 : Nat) (l1 : List UInt8) (A2 : Option Addr) (n2 c2 : Nat) (l2 : List UInt8) (w : World) (hb1 : Bs w w.heap.size A1 n1 l1) (hc1 : n1 ≤ c1) (hm1 : c1 ≤ maxLen) (hb2 : Bs w w.heap.size A2 n2 l2) (hc2 : n2 ≤ c2) (hm2 : c2 ≤ maxLen) :
    Calls Try.prog 4 #[.agg #[.int .i64 n, .bool m, .int .i64 z], .slice A1 n1 c1, .slice A2 n2 c2] w fun e w' => e = .returned (.bool true) ∧ Below w.heap.size w w' := by
  have hcI1 : (c1 : Int) ≤ 9223372036854775807 := by simp only [maxLen] at hm1; omega
  have hcI2 : (c2 : Int) ≤ 9223372036854775807 := by simp only [maxLen] at hm2; omega
  have ba0 := alloc_below w (.cells #[.int .i64 n, .bool m, .int .i64 z] 37)
  have r0 := range_box w #[.int .i64 n, .bool m, .int .i64 z] 37 rfl
  by_cases hn1 : (100 : Int) < n1
  · clear hm1 hm2
    have HB := Lib.hid ba0
    clear ba0
    go_enter Try.func4, Try.ntmps4
    go_wp2_with (go_at_call 13; refine (balive_any _).mono ?_; rintro e w1 ⟨rfl, b1⟩)
    go_ret
    exact ⟨rfl, HB.out.trans (b1.mono HB.out.size)⟩
  by_cases hn2 : (4000 : Int) < n2
  · clear hm1 hm2
    have HB := Lib.hid ba0
    clear ba0
    go_enter Try.func4, Try.ntmps4
    go_wp2_with (go_at_call 13; refine (balive_any _).mono ?_; rintro e w1 ⟨rfl, b1⟩)
    go_ret
    exact ⟨rfl, HB.out.trans (b1.mono HB.out.size)⟩
  have h4 := fun W (b : Below w.heap.size w W) => bread_f A1 n1 c1 l1 W _ (hb1.below b) b.size
  have h5 := fun W (b : Below w.heap.size w W) => rbread_f A1 n1 c1 l1 W _ (hb1.below b) b.size
  have h6 := fun W (b : Below w.heap.size w W) => bcut_f A2 n2 c2 l2 W _ (hb2.below b) b.size hc2 hcI2 (by omega) n z
  have h7 := fun W (b : Below w.heap.size w W) => rbcut_f A2 n2 c2 l2 W _ (hb2.below b) b.size hc2 hcI2 (by omega) n z
  have h2 := fun W => bwrite_f n z m W
  have h3 := fun W => rbwrite_f n z m W
  obtain ⟨⟨V, ev⟩, hV⟩ : ∃ r, blkW n z m = r := ⟨_, rfl⟩
  have hVl : V.length ≤ 10 := by
    have : (blkW n z m).1.length ≤ 10 := by
      unfold blkW
      split
      · rename_i hr
        obtain ⟨N, Z, T, rfl, rfl, hN, hZ0, hZ1, hT, hTm, hT0, _⟩ := right_nat hr
        rw [List.length_reverse]
        refine Nat.le_trans (le_len 8 _ ?_) (by omega)
        have := powZ_lo (Z : Int)
        unfold moreN
        show _ < 256 ^ 8
        split <;> omega
      · exact Nat.zero_le _
    rw [hV] at this
    exact this
  rw [hV] at h2 h3
  obtain ⟨⟨⟨rn, rm, rz⟩, er⟩, hR⟩ : ∃ r, blkR l1 = r := ⟨_, rfl⟩
  rw [hR] at h4 h5
  obtain ⟨⟨X, xm, xo⟩, hX⟩ : ∃ r, cutF l2 n z = r := ⟨_, rfl⟩
  have hXl : X.length ≤ 4000 := by
    have hl2 := hb2.len
    have : (cutF l2 n z).1.length ≤ l2.length := by
      unfold cutF
      split
      · split
        · exact Nat.zero_le _
        · rw [List.length_take, List.length_drop]; omega
      · exact Nat.zero_le _
    rw [hX] at this
    have h' : X.length ≤ l2.length := this
    omega
  rw [hX] at h6 h7
  have HA := Lib.hid (And.intro h2 (And.intro h3 (And.intro h4 (And.intro h5 (And.intro h6 (And.intro h7 (And.intro hVl hXl)))))))
  have H0 := Lib.hid (And.intro ba0 r0)
  clear h2 h3 h4 h5 h6 h7 hVl hXl hV hR hX hb1 hb2 hm1 hm2 ba0 r0
  go_enter Try.func4, Try.ntmps4
  go_wp2_with fail
  refine (balive_any _).mono ?_
  rintro e w1 ⟨rfl, b1⟩
  have H1 := Lib.hid (And.intro (H0.out.1.trans (b1.mono H0.out.1.size)) (And.intro (range_below H0.out.2 b1 (by rw [alloc_size]; omega)) (show w.heap.size + 1 ≤ w1.heap.size by have := b1.size; rw [alloc_size] at this; exact this)))
  clear b1
  have r1 := H1.out.2.1
  go_wp2_with (refine wpList_load_mid rfl 37 (.tmp 3) rfl w.heap.size 0 rfl [.int .i64 n, .bool m, .int .i64 z] _ r1 Try.underlying37 rfl size_blk ?_)
  refine (HA.out.1 w1).mono ?_
  rintro e w2 ⟨vA, vn, vc, rfl, hvc, hvn, hvb, b2⟩
  have H2 := Lib.hid (And.intro (H1.out.1.trans (b2.mono H1.out.1.size)) (And.intro (range_below H1.out.2.1 b2 (by have := H1.out.2.2; omega)) (And.intro (show w.heap.size + 1 ≤ w2.heap.size by have := H1.out.2.2; have := b2.size; omega) (And.intro hvb hvn))))
  clear b2 hvb hvn hvc r1
  try dsimp only
  have r2 := H2.out.2.1
  go_wp2_with (refine wpList_load_mid rfl 37 (.tmp 3) rfl w.heap.size 0 rfl [.int .i64 n, .bool m, .int .i64 z] _ r2 Try.underlying37 rfl size_blk ?_)
  refine (as_f n z m w2).mono ?_
  rintro e w3 ⟨rfl, b3⟩
  have H3 := Lib.hid b3
  clear b3 r2
  try dsimp only
  go_wp2_with fail
  refine (HA.out.2.1 w3).mono ?_
  rintro e w4 ⟨uA, un, uc, rfl, huc, hun, hub, b4⟩
  have b24 := H3.out.trans (b4.mono H3.out.size)
  have H4 := Lib.hid (And.intro (H2.out.1.trans (b24.mono H2.out.1.size)) (And.intro (range_below H2.out.2.1 b24 (by have := H2.out.2.2.1; omega)) (And.intro (show w.heap.size + 1 ≤ w4.heap.size by have := H2.out.2.2.1; have := b24.size; omega) (And.intro ((H2.out.2.2.2.1.below b24).more b24.size) (And.intro hub hun)))))
  clear b24 b4 hub hun huc
  try dsimp only
  go_wp2_with fail
  refine (HA.out.2.2.1 w4 H4.out.1).mono ?_
  rintro e w5 ⟨rfl, b5⟩
  have H5 := Lib.hid b5
  clear b5
  try dsimp only
  go_wp2_with fail
  refine calls_at_world (F := fun W => Below w5.heap.size w5 W ∧ w5.heap.size + 1 ≤ W.heap.size ∧ W.rangeAt w5.heap.size 0 [.int .i64 rn, .bool rm, .int .i64 rz]) ⟨alloc_below w5 _, by rw [alloc_size]; exact Nat.le_refl _, range_box w5 _ _ rfl⟩ fun W5 ⟨p1, p2, p3⟩ => ?_
  have H6 := Lib.hid (And.intro p1 (And.intro p2 (And.intro p3 (H4.out.1.trans ((H5.out.trans (p1.mono H5.out.size)).mono H4.out.1.size)))))
  clear p1 p2 p3
  refine (HA.out.2.2.2.1 W5 H6.out.2.2.2).mono ?_
  rintro e w6 ⟨rfl, b6⟩
  have H7 := Lib.hid b6
  clear b6
  try dsimp only
  have q46 : Below w4.heap.size w4 w6 := (H5.out.trans (H6.out.1.mono H5.out.size)).trans (H7.out.mono (Nat.le_trans H5.out.size H6.out.1.size))
  have hw46 := q46.size
  have g1 := fun o => three (range_below (H4.out.2.1) (q46.trans ((alloc_below w6 o).mono hw46)) (by have := H4.out.2.2.1; omega))
  have g10 := fun o => (g1 o).1
  have g12 := fun o => (g1 o).2.2
  have HQ := Lib.hid q46
  clear q46 g1 hw46
  go_wp2_with fail
  refine calls_at_world (F := fun W => Below w6.heap.size w6 W ∧ w6.heap.size + 1 ≤ W.heap.size ∧ W.rangeAt w6.heap.size 0 [.int .i64 rn, .bool rm, .int .i64 rz]) ⟨alloc_below w6 _, by rw [alloc_size]; exact Nat.le_refl _, range_box w6 _ _ rfl⟩ fun W6 ⟨p1, p2, p3⟩ => ?_
  have q4 := HQ.out.trans (p1.mono HQ.out.size)
  have H8 := Lib.hid (And.intro (H4.out.1.trans (q4.mono H4.out.1.size)) (And.intro (range_below H6.out.2.2.1 (H7.out.trans (p1.mono H7.out.size)) (by have := H6.out.2.1; omega)) (And.intro p3 (And.intro q4 (And.intro p2 (show w5.heap.size + 1 ≤ w6.heap.size by have := H7.out.size; have := H6.out.2.1; omega))))))
  clear p1 p2 p3 q4 g10 g12
  refine (HA.out.2.2.2.2.1 W6 H8.out.1).mono ?_
  rintro e w7 ⟨xA, xn, xc, rfl, hxc, hxn, hxb, b7⟩
  have H9 := Lib.hid (And.intro hxb (And.intro hxn b7))
  clear hxb hxn hxc b7
  try dsimp only
  have q47 := H8.out.2.2.2.1.trans (H9.out.2.2.mono H8.out.2.2.2.1.size)
  obtain ⟨g10, _, g12⟩ := three (range_below H4.out.2.1 q47 (by have := H4.out.2.2.1; omega))
  clear q47
  go_wp2_with fail
  refine (HA.out.2.2.2.2.2.1 w7 (H8.out.1.trans (H9.out.2.2.mono H8.out.1.size))).mono ?_
  rintro e w8 ⟨yA, yn, yc, rfl, hyc, hyn, hyb, b8⟩
  have q68 := H9.out.2.2.trans (b8.mono H9.out.2.2.size)
  have q48 := H8.out.2.2.2.1.trans (q68.mono H8.out.2.2.2.1.size)
  have HF := Lib.hid fun W (h : Below w8.heap.size w8 W) =>
    have k8 := b8.trans (h.mono b8.size)
    have k6 := q68.trans (h.mono q68.size)
    have k4 := q48.trans (h.mono q48.size)
    And.intro (range_below H8.out.2.1 k6 (by have := H8.out.2.2.2.2; omega)) (And.intro (range_below H8.out.2.2.1 k6 (by have := H8.out.2.2.2.2; omega)) (And.intro ((H4.out.2.2.2.1.below k4).more k4.size) (And.intro ((H4.out.2.2.2.2.1.below k4).more k4.size) (And.intro ((H9.out.1.below k8).more k8.size) (And.intro ((hyb.below h).more h.size) (H8.out.1.trans (k6.mono H8.out.1.size)))))))
  obtain rfl : vn = V.length := H2.out.2.2.2.2.out
  obtain rfl : un = V.length := H4.out.2.2.2.2.2.out
  obtain rfl : xn = X.length := H9.out.2.1.out
  obtain rfl : yn = X.length := hyn.out
  obtain ⟨vl, hvl⟩ : ∃ k, V.length = k := ⟨_, rfl⟩
  obtain ⟨xl, hxl⟩ : ∃ k, X.length = k := ⟨_, rfl⟩
  rw [hvl, hxl] at HF
  rw [hvl, hxl]
  have hvlI : (vl : Int) ≤ 10 := by have := HA.out.2.2.2.2.2.2.1; omega
  have hxlI : (xl : Int) ≤ 4000 := by have := HA.out.2.2.2.2.2.2.2; omega
  have HQQ := Lib.hid (And.intro q68 hyc)
  clear b8 q68 q48 hyb hyn hyc hvl hxl g10 g12
  try dsimp only
  go_wp2_with fail
  refine wp_region_rel (fun w' => Below w8.heap.size w8 w') (fun w w' => Below w.heap.size w w') (BvR ev er rn rz rm xm xo (.slice vA vl vc) (.slice uA vl uc) (.slice xA xl xc) (.slice yA xl yc)) [(8, .int .i64 ev), (10, .int .i64 ev), (7, .slice vA vl vc), (9, .slice uA vl uc), (12, .int .i64 er), (14, .int .i64 er), (11, .pointer (some ⟨w5.heap.size, 0, none⟩)), (13, .pointer (some ⟨w6.heap.size, 0, none⟩)), (15, .slice xA xl xc), (18, .slice yA xl yc), (16, .bool xm), (19, .bool xm), (17, .bool xo), (20, .bool xo)] (by kernel_rfl) (by kernel_rfl) (by kernel_rfl) ?base (Below.drew (Below.refl _ _)) (fun i w w' v _ h => h) ?steps ?fin
  case base =>
    intro x hx
    simp only [List.mem_cons, List.not_mem_nil, or_false] at hx
    rcases hx with rfl | rfl | rfl | rfl | rfl | rfl | rfl | rfl | rfl | rfl | rfl | rfl | rfl | rfl <;> exact ⟨rfl, rfl⟩
  case steps =>
    refine steps_cons ?_ (steps_cons ?_ (steps_cons ?_ (steps_cons ?_ (steps_cons ?_ (steps_cons ?_ (steps_cons ?_ (steps_cons ?_ (steps_cons ?_ (steps_cons ?_ (steps_cons ?_ (steps_cons ?_ (steps_cons ?_ (steps_cons ?_ (steps_cons ?_ (steps_cons ?_ (steps_cons ?_ (steps_cons ?_ (steps_cons ?_ (steps_cons ?_ (steps_cons ?_ (steps_cons ?_ (steps_cons ?_ (steps_cons ?_ (steps_cons ?_ (steps_cons ?_ (steps_cons ?_ (steps_cons ?_ (steps_cons ?_ (steps_cons ?_ (steps_cons ?_ (steps_cons ?_ (steps_cons ?_ (steps_cons ?_ (steps_cons ?_ steps_nil))))))))))))))))))))))))))))))))))
    · intro a w K hS hB hR hK
      rw [if_pos (wanted_none rfl)]
      have h8 := tmp_is (hB.1)
      go_simp
      exact hK (.int .i64 ev) w hS (Below.refl _ w) rfl
    · intro a w K hS hB hR hK
      rw [if_pos (wanted_none rfl)]
      have h10 := tmp_is (hB.2.1)
      go_simp
      exact hK (.int .i64 ev) w hS (Below.refl _ w) rfl
    · intro a w K hS hB hR hK
      rw [if_pos (wanted_none rfl)]
      have h72 := tmp_is (hR.1)
      have h73 := tmp_is (hR.2.1)
      have hq : (ev == ev) = true := beq_self_eq_true _
      go_simp
      exact hK (.bool true) w hS (Below.refl _ w) rfl
    · intro a w K hS hB hR hK
      rw [if_pos (wanted_none rfl)]
      have h74 := tmp_is (hR.1)
      go_simp
      exact hK (.bool true) w hS (Below.refl _ w) rfl
    · intro a w K hS hB hR hK
      rw [if_pos (wanted_some rfl (hR.1))]
      have h7 := tmp_is (hB.2.2.1)
      go_simp
      exact hK (.slice vA vl vc) w hS (Below.refl _ w) rfl
    · intro a w K hS hB hR hK
      rw [if_pos (wanted_some rfl (hR.1))]
      have h9 := tmp_is (hB.2.2.2.1)
      go_simp
      exact hK (.slice uA vl uc) w hS (Below.refl _ w) rfl
    · intro a w K hS hB hR hK
      rw [if_pos (wanted_some rfl (hR.2.2.1))]
      have h76 := tmp_is (hR.1)
      have h77 := tmp_is (hR.2.1)
      go_simp
      have hF := HF.out w hS
      have hsa := same_any vA uA vl vc vl uc V V w _ _ hF.2.2.1 hF.2.2.2.1 (by omega) (by omega)
      rw [decide_eq_true rfl] at hsa
      refine hsa.mono ?_
      rintro e w' ⟨rfl, m', hw'⟩
      have hb : Below w.heap.size w w' := hw' ▸ drewN_below _ _ m'
      exact hK _ _ (hS.trans (hb.mono hS.size)) hb rfl
    · intro a w K hS hB hR hK
      rw [if_pos (wanted_none rfl)]
      have h75 := tmp_is (hR.1)
      have h78 := tmp_is (hR.2.1)
      go_simp
      exact hK (.bool true) w hS (Below.refl _ w) rfl
    · intro a w K hS hB hR hK
      rw [if_pos (wanted_none rfl)]
      have h79 := tmp_is (hR.1)
      go_simp
      exact hK (.bool true) w hS (Below.refl _ w) rfl
    · intro a w K hS hB hR hK
      rw [if_pos (wanted_some rfl (hR.1))]
      have h12 := tmp_is (hB.2.2.2.2.1)
      go_simp
      exact hK (.int .i64 er) w hS (Below.refl _ w) rfl
    · intro a w K hS hB hR hK
      rw [if_pos (wanted_some rfl (hR.1))]
      have h14 := tmp_is (hB.2.2.2.2.2.1)
      go_simp
      exact hK (.int .i64 er) w hS (Below.refl _ w) rfl
    · intro a w K hS hB hR hK
      rw [if_pos (wanted_some rfl (hR.2.2.1))]
      have h81 := tmp_is (hR.1)
      have h82 := tmp_is (hR.2.1)
      have hq : (er == er) = true := beq_self_eq_true _
      go_simp
      exact hK (.bool true) w hS (Below.refl _ w) rfl
    · intro a w K hS hB hR hK
      rw [if_pos (wanted_none rfl)]
      have h80 := tmp_is (hR.1)
      have h83 := tmp_is (hR.2.1)
      go_simp
      exact hK (.bool true) w hS (Below.refl _ w) rfl
    · intro a w K hS hB hR hK
      rw [if_pos (wanted_none rfl)]
      have h84 := tmp_is (hR.1)
      go_simp
      exact hK (.bool true) w hS (Below.refl _ w) rfl
    · intro a w K hS hB hR hK
      rw [if_pos (wanted_some rfl (hR.1))]
      have h11 := tmp_is (hB.2.2.2.2.2.2.1)
      have r11 := (HF.out w hS).1
      obtain ⟨d0, d1, d2⟩ := three r11
      go_simp
      exact hK (.agg #[.int .i64 rn, .bool rm, .int .i64 rz]) w hS (Below.refl _ w) rfl
    · intro a w K hS hB hR hK
      rw [if_pos (wanted_some rfl (hR.2.1))]
      have h86 := tmp_is (hR.1)
      go_simp
      refine (as_f rn rz rm w).mono ?_
      rintro e w' ⟨rfl, hb⟩
      exact hK _ _ (hS.trans (hb.mono hS.size)) hb rfl
    · intro a w K hS hB hR hK
      rw [if_pos (wanted_some rfl (hR.1))]
      have h13 := tmp_is (hB.2.2.2.2.2.2.2.1)
      have r13 := (HF.out w hS).2.1
      obtain ⟨d0, d1, d2⟩ := three r13
      go_simp
      exact hK (.agg #[.int .i64 rn, .bool rm, .int .i64 rz]) w hS (Below.refl _ w) rfl
    · intro a w K hS hB hR hK
      rw [if_pos (wanted_some rfl (hR.2.2.1))]
      have h87 := tmp_is (hR.1)
      have h88 := tmp_is (hR.2.1)
      have hq := eql_rblk rn rz rm w
      have hg : Try.prog.eqGuardType Try.prog.depth 42 = false := by kernel_rfl
      go_simp
      exact hK (.bool true) w hS (Below.refl _ w) rfl
    · intro a w K hS hB hR hK
      rw [if_pos (wanted_none rfl)]
      have h85 := tmp_is (hR.1)
      have h89 := tmp_is (hR.2.1)
      go_simp
      exact hK (.bool true) w hS (Below.refl _ w) rfl
    · intro a w K hS hB hR hK
      rw [if_pos (wanted_none rfl)]
      have h90 := tmp_is (hR.1)
      go_simp
      exact hK (.bool true) w hS (Below.refl _ w) rfl
    · intro a w K hS hB hR hK
      rw [if_pos (wanted_some rfl (hR.1))]
      have h15 := tmp_is (hB.2.2.2.2.2.2.2.2.1)
      go_simp
      exact hK (.slice xA xl xc) w hS (Below.refl _ w) rfl
    · intro a w K hS hB hR hK
      rw [if_pos (wanted_some rfl (hR.1))]
      have h18 := tmp_is (hB.2.2.2.2.2.2.2.2.2.1)
      go_simp
      exact hK (.slice yA xl yc) w hS (Below.refl _ w) rfl
    · intro a w K hS hB hR hK
      rw [if_pos (wanted_some rfl (hR.2.2.1))]
      have h92 := tmp_is (hR.1)
      have h93 := tmp_is (hR.2.1)
      go_simp
      have hF := HF.out w hS
      have hsa := same_any xA yA xl xc xl yc X X w _ _ hF.2.2.2.2.1 hF.2.2.2.2.2.1 (by omega) (by omega)
      rw [decide_eq_true rfl] at hsa
      refine hsa.mono ?_
      rintro e w' ⟨rfl, m', hw'⟩
      have hb : Below w.heap.size w w' := hw' ▸ drewN_below _ _ m'
      exact hK _ _ (hS.trans (hb.mono hS.size)) hb rfl
    · intro a w K hS hB hR hK
      rw [if_pos (wanted_none rfl)]
      have h91 := tmp_is (hR.1)
      have h94 := tmp_is (hR.2.1)
      go_simp
      exact hK (.bool true) w hS (Below.refl _ w) rfl
    · intro a w K hS hB hR hK
      rw [if_pos (wanted_none rfl)]
      have h95 := tmp_is (hR.1)
      go_simp
      exact hK (.bool true) w hS (Below.refl _ w) rfl
    · intro a w K hS hB hR hK
      rw [if_pos (wanted_some rfl (hR.1))]
      have h16 := tmp_is (hB.2.2.2.2.2.2.2.2.2.2.1)
      go_simp
      exact hK (.bool xm) w hS (Below.refl _ w) rfl
    · intro a w K hS hB hR hK
      rw [if_pos (wanted_some rfl (hR.1))]
      have h19 := tmp_is (hB.2.2.2.2.2.2.2.2.2.2.2.1)
      go_simp
      exact hK (.bool xm) w hS (Below.refl _ w) rfl
    · intro a w K hS hB hR hK
      rw [if_pos (wanted_some rfl (hR.2.2.1))]
      have h97 := tmp_is (hR.1)
      have h98 := tmp_is (hR.2.1)
      have hq : (xm == xm) = true := beq_self_eq_true _
      go_simp
      exact hK (.bool true) w hS (Below.refl _ w) rfl
    · intro a w K hS hB hR hK
      rw [if_pos (wanted_none rfl)]
      have h96 := tmp_is (hR.1)
      have h99 := tmp_is (hR.2.1)
      go_simp
      exact hK (.bool true) w hS (Below.refl _ w) rfl
    · intro a w K hS hB hR hK
      rw [if_pos (wanted_none rfl)]
      have h100 := tmp_is (hR.1)
      go_simp
      exact hK (.bool true) w hS (Below.refl _ w) rfl
    · intro a w K hS hB hR hK
      rw [if_pos (wanted_some rfl (hR.1))]
      have h17 := tmp_is (hB.2.2.2.2.2.2.2.2.2.2.2.2.1)
      go_simp
      exact hK (.bool xo) w hS (Below.refl _ w) rfl
    · intro a w K hS hB hR hK
      rw [if_pos (wanted_some rfl (hR.1))]
      have h20 := tmp_is (hB.2.2.2.2.2.2.2.2.2.2.2.2.2.1)
      go_simp
      exact hK (.bool xo) w hS (Below.refl _ w) rfl
    · intro a w K hS hB hR hK
      rw [if_pos (wanted_some rfl (hR.2.2.1))]
      have h102 := tmp_is (hR.1)
      have h103 := tmp_is (hR.2.1)
      have hq : (xo == xo) = true := beq_self_eq_true _
      go_simp
      exact hK (.bool true) w hS (Below.refl _ w) rfl
    · intro a w K hS hB hR hK
      rw [if_pos (wanted_none rfl)]
      have h101 := tmp_is (hR.1)
      have h104 := tmp_is (hR.2.1)
      go_simp
      exact hK (.bool true) w hS (Below.refl _ w) rfl
    · intro a w K hS hB hR hK
      rw [if_pos (wanted_none rfl)]
      have h105 := tmp_is (hR.1)
      go_simp
      exact hK (.bool true) w hS (Below.refl _ w) rfl
  case fin =>
    intro a w9 hS9 ha hR
    have h34 : a.eval (.tmp 6) = .bool true := deps_mem _ hR 34 (by decide)
    have H9' := Lib.hid hS9
    clear hR hS9
    simp only [pin] at ha
    rw [ha]
    simp only [List.setIfInBounds_toArray, List.set_cons_zero, List.set_cons_succ, h34]
    clear ha h34
    go_wp2
    go_ret
    exact ⟨rfl, (HF.out w9 H9'.out).2.2.2.2.2.2⟩
end Go.Proofs.Ytdgihhepmmkkpaa
