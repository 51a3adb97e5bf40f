/-
  The document's digest of digits.
-/
import Derived.Test.YthdnlcllcdcjhaaDoorShaKeeps
namespace Go.Proofs.YthdnlcllcdcjhaaDoor
open Go.RowKit
theorem zero_list : ∃ L : List UInt8, Hid (L = List.replicate 32 0) ∧ L.length = 32 := ⟨_, Lib.hid rfl, rfl⟩
theorem zero_lit : ∃ Z : Array Value, #[.int .u8 0, .int .u8 0, .int .u8 0, .int .u8 0, .int .u8 0, .int .u8 0, .int .u8 0, .int .u8 0, .int .u8 0, .int .u8 0, .int .u8 0, .int .u8 0, .int .u8 0, .int .u8 0, .int .u8 0, .int .u8 0, .int .u8 0, .int .u8 0, .int .u8 0, .int .u8 0, .int .u8 0, .int .u8 0, .int .u8 0, .int .u8 0, .int .u8 0, .int .u8 0, .int .u8 0, .int .u8 0, .int .u8 0, .int .u8 0, .int .u8 0, .int .u8 0] = Z ∧ Z.size = 32 ∧ Hid (Z.toList = U8 (List.replicate 32 0)) ∧ Z.all (·.oneCell') = true := ⟨_, rfl, rfl, rfl, all_oneCell_toArray (U8_one (List.replicate 32 0))⟩
theorem refstart (w : World) (cs ds vs : Array Value) (t : TypeId) (l : List UInt8) (hc : cs.size = 32) (hd : ds.size = 32) (hv : vs.toList = U8 (List.replicate 32 0)) :
    (((w.alloc (.cells cs t)).alloc (.cells ds t)).setCells (w.heap.size + 1) 0 vs.toList).rangeAt (w.heap.size + 1) 0 (U8 (stP l 0)) ∧ (((w.alloc (.cells cs t)).alloc (.cells ds t)).setCells (w.heap.size + 1) 0 vs.toList).there (w.heap.size + 1) 0 32 ∧
    (((w.alloc (.cells cs t)).alloc (.cells ds t)).setCells (w.heap.size + 1) 0 vs.toList).there w.heap.size 0 32 ∧ Below w.heap.size w (((w.alloc (.cells cs t)).alloc (.cells ds t)).setCells (w.heap.size + 1) 0 vs.toList) := by
  have h1 := there_new1 w (.cells cs t) ds t hd
  refine ⟨?_, World.there_setCells h1 _ _ _, World.there_setCells (there_new0 w cs t _ hc) _ _ _, below_setCells (((Below.refl _ w).alloc (Nat.le_refl _) _).alloc (by simp) _) (by omega) _ 0⟩
  rw [hv, stP_zero]
  exact World.rangeAt_setCells_same _ _ _ _ (by rw [U8_length, List.length_replicate]; exact h1)
theorem dig_1 {r : Nat} (h1 : 48 ≤ r) (h2 : r ≤ 57) : dig? r = some (r - 48) := by unfold dig?; rw [if_pos ⟨h1, h2⟩]
theorem dig_2 {r : Nat} (h1 : 97 ≤ r) (h2 : r ≤ 102) : dig? r = some (r - 87) := by unfold dig?; rw [if_neg (by omega), if_pos ⟨h1, h2⟩]
theorem dig_3 {r : Nat} (h1 : 65 ≤ r) (h2 : r ≤ 70) : dig? r = some (r - 55) := by unfold dig?; rw [if_neg (by omega), if_neg (by omega), if_pos ⟨h1, h2⟩]
theorem dig_0 {r : Nat} (h1 : ¬ (48 ≤ r ∧ r ≤ 57)) (h2 : ¬ (97 ≤ r ∧ r ≤ 102)) (h3 : ¬ (65 ≤ r ∧ r ≤ 70)) : dig? r = none := by unfold dig?; rw [if_neg h1, if_neg h2, if_neg h3]
set_option maxRecDepth 100000 in
set_option maxHeartbeats 400000 in
theorem rparse_len (w : World) (s : ByteArray) (h : s.size ≠ 64) : Calls Tryd.prog 19 #[.string s] w fun e w' => e = .returned (.tuple #[.agg (U8 (List.replicate 32 0)).toArray, .int .i64 20]) ∧ Below w.heap.size w w' := by
  have hne : ¬ ((s.size : Int) = 64) := by omega
  obtain ⟨Z, hZ, hZs, hZl, hZo⟩ := zero_lit
  obtain ⟨L, hL, h0⟩ := zero_list
  rw [← hL.out]
  have h0' : (U8 L).toArray.size = 32 := size_U8 h0
  have hs := fun t => refstart w Z Z Z t [] hZs hZs hZl.out
  rw [stP_zero, ← hL.out] at hs
  go_enter Tryd.func19, Tryd.ntmps19
  go_wp2_with (first
    | refine wpList_store_mid rfl 25 (.tmp 4) (.tmp 8) rfl (w.heap.size + 1) 0 Z rfl rfl (by rw [hZs]; exact there_new1 _ _ _ _ hZs) (by rw [size25, hZs]) hZo ?_
    | refine wpList_load_mid rfl 25 (.tmp 4) rfl (w.heap.size + 1) 0 rfl (U8 L) _ (hs _).1 Tryd.underlying25 rfl (by rw [size25, U8_length, h0]) ?_
    | refine wpList_store_mid rfl 25 (.tmp 2) (.tmp 12) rfl w.heap.size 0 (U8 L).toArray rfl rfl (by rw [h0']; exact (hs _).2.2.1) (by rw [size25, h0']) (all_oneCell_toArray (U8_one _)) ?_)
  refine bodyPost_ret (results_cell_tmp_mid rfl _ _ w.heap.size 0 (U8 L) _ rfl ?_ Tryd.underlying25 rfl (by rw [size25, U8_length, h0])) rfl ?_
  · exact World.rangeAt_setCells_same _ _ _ _ (by rw [List.toList_toArray, U8_length, h0]; exact (hs _).2.2.1)
  · exact ⟨rfl, below_setCells (hs _).2.2.2 (Nat.le_refl _) _ 0⟩
set_option maxRecDepth 100000 in
set_option maxHeartbeats 400000 in
theorem rparse_64 (w : World) (s : ByteArray) (h : s.size = 64) : Calls Tryd.prog 19 #[.string s] w fun e w' => e = .returned (.tuple #[.agg (U8 (parseOf s.data.toList).1).toArray, .int .i64 ((parseOf s.data.toList).2 : Int)]) ∧ Below w.heap.size w w' := by
  have he : ((s.size : Int) = 64) := by omega
  obtain ⟨Z, hZ, hZs, hZl, hZo⟩ := zero_lit
  generalize hl : s.data.toList = l
  have Hl := Lib.hid hl
  clear hl
  have hs := fun t => refstart w Z Z Z t l hZs hZs hZl.out
  go_enter Tryd.func19, Tryd.ntmps19
  go_wp2_with (refine wpList_store_mid rfl 25 (.tmp 4) (.tmp 8) rfl (w.heap.size + 1) 0 Z rfl rfl (by rw [hZs]; exact there_new1 _ _ _ _ hZs) (by rw [size25, hZs]) hZo ?_)
  refine wp_at_world (F := fun W => W.rangeAt (w.heap.size + 1) 0 (U8 (stP l 0)) ∧ W.there (w.heap.size + 1) 0 32 ∧ W.there w.heap.size 0 32 ∧ Below w.heap.size w W) (hs _) ?_
  rintro wA ⟨hD, hDt, hRt, hb⟩
  clear hs
  go_loopw [5] (fun i wr => ∃ k : Nat, (k : Int) ≤ 64 ∧ i = .int .i64 k ∧ wr.rangeAt (w.heap.size + 1) 0 (U8 (stP l k)) ∧ wr.there (w.heap.size + 1) 0 32 ∧ wr.there w.heap.size 0 32 ∧ Below w.heap.size w wr ∧ Hid (∀ i u, i < k → l[i]? = some u → (dig? u.toNat).isSome = true)) (fun i _ => 64 - (intOf i).toNat)
  case atStart => exact ⟨0, by omega, rfl, hD, hDt, hRt, hb, fun i u hi => absurd hi (by omega)⟩
  case round =>
    clear hD hDt hRt hb
    obtain ⟨k, hk, rfl, hD, hDt, hRt, hb, hall⟩ := hrel
    by_cases hlt : (k : Int) < 64
    · have hu := getD_at s k (by omega)
      rw [Hl.out] at hu
      have hn1 : ∀ n V, dig? (s[k]'(by omega)).toNat = some n → V = (((stB l k (k / 2)).toNat * 16 % 256 + n : Nat) : Int) % 256 →
          (wr.setCell ⟨w.heap.size + 1, k / 2, none⟩ (.int .u8 V)).rangeAt (w.heap.size + 1) 0 (U8 (stP l (k + 1))) := fun n V hd hV => by
        have hset := range_set hD (by rw [U8_length, stP_length]; exact hDt) (k / 2) (by rw [U8_length, stP_length]; omega) (.int .u8 ((UInt8.ofNat ((stB l k (k / 2)).toNat * 16 % 256 + n)).toNat : Int))
        rw [Nat.zero_add, ← U8_set, ← nib_of hu hd, ← stP_step] at hset
        rw [hV]
        rw [nib_of hu hd] at hset
        rwa [UInt8.toNat_ofNat', Int.natCast_emod] at hset
      have hk0 : (0 : Int) ≤ (k : Int) := by omega
      have hb0 := hD (k / 2) (.int .u8 ((stB l k (k / 2)).toNat : Int)) (by rw [U8_get, stP_get _ _ _ (by omega)]; rfl)
      have hf0 := (hDt (k / 2) (by omega)).2
      rw [Nat.zero_add] at hb0 hf0
      have q0 : (k : Int) / 2 < 32 := by omega
      generalize hr : (s[k]'(by omega)).toNat = r at *
      have hr256 : r < 256 := by rw [← hr]; exact UInt8.toNat_lt _
      have Hbad : dig? r = none → Hid (parseOf l = (List.replicate 32 0, 20)) := fun h => Lib.hid (parseOf_bad hu (by rw [hr]; exact h))
      have Ha : Hid (∀ n, dig? r = some n → Hid (∀ i u, i < k + 1 → l[i]? = some u → (dig? u.toNat).isSome = true)) := Lib.hid fun n hd => Lib.hid fun i u hi hiu => by
        by_cases e : i = k
        · subst e
          rw [hu] at hiu
          injection hiu with hiu
          rw [← hiu, hr, hd]; rfl
        · exact hall.out i u (by omega) hiu
      have Hn := Lib.hid hn1
      clear hn1 hu hall
      have HBad := Lib.hid Hbad
      clear Hbad
      by_cases c1 : 48 ≤ r ∧ r ≤ 57
      · have b1 : (48 : Int) ≤ (r : Int) := by omega
        have b2 : (r : Int) ≤ 57 := by omega
        clear HBad
        go_wp2
        go_roundw
        case rel => exact ⟨k + 1, by omega, by go_num, Hn.out (r - 48) _ (dig_1 c1.1 c1.2) (by omega), there_set hDt _ _, there_set hRt _ _, hb.setCell (by show w.heap.size ≤ w.heap.size + 1; omega) _, Ha.out _ (dig_1 c1.1 c1.2)⟩
        case measure => simp [intOf]; omega
      by_cases c2 : 97 ≤ r ∧ r ≤ 102
      · have b0 : (48 : Int) ≤ (r : Int) := by omega
        have b3 : ¬ (r : Int) ≤ 57 := by omega
        have b1 : (97 : Int) ≤ (r : Int) := by omega
        have b2 : (r : Int) ≤ 102 := by omega
        clear HBad
        go_wp2
        go_roundw
        case rel => exact ⟨k + 1, by omega, by go_num, Hn.out (r - 87) _ (dig_2 c2.1 c2.2) (by omega), there_set hDt _ _, there_set hRt _ _, hb.setCell (by show w.heap.size ≤ w.heap.size + 1; omega) _, Ha.out _ (dig_2 c2.1 c2.2)⟩
        case measure => simp [intOf]; omega
      by_cases c3 : 65 ≤ r ∧ r ≤ 70
      · have b0 : (48 : Int) ≤ (r : Int) := by omega
        have b3 : ¬ (r : Int) ≤ 57 := by omega
        have b4 : ¬ (97 : Int) ≤ (r : Int) := by omega
        have b1 : (65 : Int) ≤ (r : Int) := by omega
        have b2 : (r : Int) ≤ 70 := by omega
        clear HBad
        go_wp2
        go_roundw
        case rel => exact ⟨k + 1, by omega, by go_num, Hn.out (r - 55) _ (dig_3 c3.1 c3.2) (by omega), there_set hDt _ _, there_set hRt _ _, hb.setCell (by show w.heap.size ≤ w.heap.size + 1; omega) _, Ha.out _ (dig_3 c3.1 c3.2)⟩
        case measure => simp [intOf]; omega
      have HB := HBad.out (dig_0 c1 c2 c3)
      clear HBad Hn Ha hb0 hf0
      have hcase : r < 48 ∨ (57 < r ∧ r < 65) ∨ (70 < r ∧ r < 97) ∨ 102 < r := by omega
      clear c1 c2 c3
      have hZZ : Z.toList.length = 32 := by rw [Array.length_toList]; exact hZs
      rcases hcase with c | c | c | c
      all_goals
        first | have e1 : (48 : Int) ≤ (r : Int) := by omega | have e1 : ¬ (48 : Int) ≤ (r : Int) := by omega
        first | have e2 : (r : Int) ≤ 57 := by omega | have e2 : ¬ (r : Int) ≤ 57 := by omega
        first | have e3 : (97 : Int) ≤ (r : Int) := by omega | have e3 : ¬ (97 : Int) ≤ (r : Int) := by omega
        first | have e4 : (r : Int) ≤ 102 := by omega | have e4 : ¬ (r : Int) ≤ 102 := by omega
        first | have e5 : (65 : Int) ≤ (r : Int) := by omega | have e5 : ¬ (65 : Int) ≤ (r : Int) := by omega
        first | have e6 : (r : Int) ≤ 70 := by omega | have e6 : ¬ (r : Int) ≤ 70 := by omega
        clear c
        go_wp2_with (refine wpList_store_mid rfl 25 (.tmp 2) (.tmp 46) rfl w.heap.size 0 Z rfl rfl (by rw [hZs]; exact hRt) (by rw [size25, hZs]) hZo ?_)
        refine bodyPost_ret (results_cell_tmp_mid rfl _ _ w.heap.size 0 Z.toList _ rfl ?_ Tryd.underlying25 rfl (by rw [size25, hZZ])) rfl ?_
        · exact World.rangeAt_setCells_same _ _ _ _ (by rw [hZZ]; exact hRt)
        · rw [HB.out, hZl.out]
          exact ⟨rfl, below_setCells hb (Nat.le_refl _) _ 0⟩
    · obtain rfl : k = 64 := by omega
      have Hp := Lib.hid (parseOf_good (l := l) (by rw [← Hl.out, Array.length_toList]; exact h) hall.out)
      have hz : (U8 (stP l 64)).toArray.size = 32 := size_U8 (stP_length _ _)
      clear hall
      go_wp2_with (first
        | (refine wpList_load_mid rfl 25 (.tmp 4) rfl (w.heap.size + 1) 0 rfl (U8 (stP l 64)) _ hD Tryd.underlying25 rfl (by rw [size25, U8_length, stP_length]) ?_)
        | (refine wpList_store_mid rfl 25 (.tmp 2) (.tmp 57) rfl w.heap.size 0 (U8 (stP l 64)).toArray rfl rfl (by rw [hz]; exact hRt) (by rw [size25, hz]) (all_oneCell_toArray (U8_one _)) ?_))
      refine bodyPost_ret (results_cell_tmp_mid rfl _ _ w.heap.size 0 (U8 (stP l 64)) _ rfl ?_ Tryd.underlying25 rfl (by rw [size25, U8_length, stP_length])) rfl ?_
      · exact World.rangeAt_setCells_same _ _ _ _ (by first | (rw [U8_length, stP_length]; exact hRt) | (rw [List.toList_toArray, U8_length, stP_length]; exact hRt))
      · rw [Hp.out]
        exact ⟨rfl, below_setCells hb (Nat.le_refl _) _ 0⟩
theorem rparse_any (w : World) (s : ByteArray) : Calls Tryd.prog 19 #[.string s] w fun e w' => e = .returned (.tuple #[.agg (U8 (parseOf s.data.toList).1).toArray, .int .i64 ((parseOf s.data.toList).2 : Int)]) ∧ Below w.heap.size w w' := by
  by_cases h : s.size = 64
  · exact rparse_64 w s h
  · rw [parseOf_len (l := s.data.toList) (by rw [Array.length_toList]; exact h)]
    exact rparse_len w s h
end Go.Proofs.YthdnlcllcdcjhaaDoor
