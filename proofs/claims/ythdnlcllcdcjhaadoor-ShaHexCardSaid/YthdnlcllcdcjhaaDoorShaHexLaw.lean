/-
  ShaHex: every digest has the digits, and every text is the digest, or has the error, that the document says.
-/
import Derived.Test.YthdnlcllcdcjhaaDoorShaRefHex
import Derived.Test.YthdnlcllcdcjhaaDoorShaRefParse
namespace Go.Proofs.YthdnlcllcdcjhaaDoor
open Go.RowKit
theorem parseOf_length (l : List UInt8) : (parseOf l).1.length = 32 := by
  unfold parseOf
  split
  · exact stP_length _ _
  · exact List.length_replicate
/-- What each operation of the last line leaves. -/
def HR (E : Nat) (d D : List UInt8) (i : Nat) (_ : World) (v : Value) : Prop :=
  match i with
  | 0 => v = .agg (U8 d).toArray
  | 1 => v = .string ⟨(hexOf d).toArray⟩
  | 2 => v = .agg (U8 d).toArray
  | 3 => v = .string ⟨(hexOf d).toArray⟩
  | 6 => v = .agg (U8 D).toArray
  | 7 => v = .agg (U8 D).toArray
  | 11 => v = .int .i64 (E : Int)
  | 12 => v = .int .i64 (E : Int)
  | _ => v = .bool true
theorem HR.grow {E : Nat} {d D : List UInt8} (i : Nat) (w w' : World) (v : Value) (_ : Grow w w') (h : HR E d D i w v) : HR E d D i w' v := h
set_option maxRecDepth 100000 in
set_option maxHeartbeats 1000000 in
theorem hex_law (d : List UInt8) (s : ByteArray) (w : World) (hd : d.length = 32) (hK : Ks w) :
    Calls Tryd.prog 4 #[.agg (U8 d).toArray, .string s] w fun e w' => e = .returned (.bool true) ∧ Below w.heap.size w w' := by
  have hw1 := hK.1
  have hdz := size_U8 hd
  go_enter Tryd.func4, Tryd.ntmps4
  go_wp2_with fail
  refine calls_at_world (F := fun W => Ks W ∧ W.rangeAt w.heap.size 0 (U8 d) ∧ Below w.heap.size w W ∧ w.heap.size + 1 ≤ W.heap.size) ⟨hK.below (alloc_below w _) hw1, fun j v hj => by rw [Nat.zero_add, cell_of_row _ _ _ _ _ _ (heap_alloc_new w _), ← Array.getElem?_toList]; exact hj, alloc_below w _, by rw [alloc_size]; exact Nat.le_refl _⟩ fun U ⟨KU, RU, BU, sU⟩ => ?_
  generalize hG : w.heap.size = G at *
  refine (alive_any U KU).mono ?_
  rintro e u1 ⟨rfl, hb⟩
  have R1 := range_below RU hb (by omega)
  have B1 := BU.trans (hb.mono (by omega))
  have s1 := hb.size
  clear KU RU BU hb
  go_wp2_with fail
  refine (parse_any u1 s).mono ?_
  obtain ⟨D, hD, hDl⟩ : ∃ D, (parseOf s.data.toList).1 = D ∧ D.length = 32 := ⟨_, rfl, parseOf_length _⟩
  obtain ⟨E, hE⟩ : ∃ E, (parseOf s.data.toList).2 = E := ⟨_, rfl⟩
  rw [hD, hE]
  rintro e u2 ⟨rfl, hb⟩
  have R2 := range_below R1 hb (by omega)
  have B2 := B1.trans (hb.mono (by omega))
  have s2 := hb.size
  clear R1 B1 hb
  have hDz := size_U8 hDl
  go_wp2_with (refine wpList_store_mid rfl 25 (.tmp 5) (.tmp 14) rfl u2.heap.size 0 (U8 D).toArray rfl rfl (by rw [hDz]; exact there_new u2 _ 25 rfl) (by rw [size25, hDz]) (all_oneCell_toArray (U8_one _)) ?_)
  refine calls_at_world (F := fun W => W.rangeAt G 0 (U8 d) ∧ W.rangeAt u2.heap.size 0 (U8 D) ∧ Below G w W ∧ u2.heap.size + 1 ≤ W.heap.size) ?_ fun u3 ⟨R3, P3, B3, s3⟩ => ?_
  · have h := fun z hz => arr_new u2 z D hz hDl
    exact ⟨range_below R2 (h _ (by rfl)).2.1 (by omega), (h _ (by rfl)).1, B2.trans ((h _ (by rfl)).2.1.mono (by omega)), (h _ (by rfl)).2.2⟩
  generalize hP : u2.heap.size = P at *
  clear R2 B2
  refine (rparse_any u3 s).mono ?_
  rw [hD, hE]
  rintro e u4 ⟨rfl, hb⟩
  have R4 := range_below R3 hb (by omega)
  have P4 := range_below P3 hb (by omega)
  have B4 := B3.trans (hb.mono (by omega))
  have s4 := hb.size
  clear R3 P3 B3 hb
  go_wp2_with (refine wpList_store_mid rfl 25 (.tmp 7) (.tmp 19) rfl u4.heap.size 0 (U8 D).toArray rfl rfl (by rw [hDz]; exact there_new u4 _ 25 rfl) (by rw [size25, hDz]) (all_oneCell_toArray (U8_one _)) ?_)
  refine wp_at_world (F := fun W => W.rangeAt G 0 (U8 d) ∧ W.rangeAt P 0 (U8 D) ∧ W.rangeAt u4.heap.size 0 (U8 D) ∧ Below G w W ∧ u4.heap.size + 1 ≤ W.heap.size) ?_ fun W ⟨RW, PW, VW, BW, sW⟩ => ?_
  · have h := fun z hz => arr_new u4 z D hz hDl
    exact ⟨range_below R4 (h _ (by rfl)).2.1 (by omega), range_below P4 (h _ (by rfl)).2.1 (by omega), (h _ (by rfl)).1, B4.trans ((h _ (by rfl)).2.1.mono (by omega)), (h _ (by rfl)).2.2⟩
  generalize hV : u4.heap.size = V at *
  have hGN : G < W.heap.size := by omega
  have hPN : P < W.heap.size := by omega
  have hVN : V < W.heap.size := by omega
  clear R4 P4 B4 hP hV sW s4 s3 s2 s1 sU
  refine wp_region_rel (fun w' => Below W.heap.size W w') Grow (HR E d D) [(2, .pointer (some ⟨G, 0, none⟩)), (5, .pointer (some ⟨P, 0, none⟩)), (7, .pointer (some ⟨V, 0, none⟩)), (6, .int .i64 (E : Int)), (8, .int .i64 (E : Int))] (by kernel_rfl) (by kernel_rfl) (by kernel_rfl) ?base (drew_below W _) HR.grow ?steps ?fin
  case base =>
    intro p hp
    simp only [List.mem_cons, List.not_mem_nil, or_false] at hp
    rcases hp with rfl | rfl | rfl | rfl | rfl <;> exact ⟨rfl, rfl⟩
  case steps =>
    refine steps_cons ?_ (steps_cons ?_ (steps_cons ?_ (steps_cons ?_ (steps_cons ?_ (steps_cons ?_ (steps_cons ?_ (steps_cons ?_ (steps_cons ?_ (steps_cons ?_ (steps_cons ?_ (steps_cons ?_ (steps_cons ?_ (steps_cons ?_ (steps_cons ?_ (steps_cons ?_ steps_nil)))))))))))))))
    · intro a w K hS hB hR hK
      rw [if_pos (wanted_none rfl)]
      refine wp_load_mid _ _ rfl _ _ hB.1 (U8 d) _ (range_below RW hS hGN) Tryd.underlying25 rfl (by rw [size25, U8_length, hd]) ?_
      exact hK (.agg (U8 d).toArray) w hS (Grow.refl w) rfl
    · intro a w K hS hB hR hK
      rw [if_pos (wanted_none rfl)]
      have h21 := tmp_is (hR.1)
      go_simp
      refine (hex_any w d hd).mono ?_
      rintro e w' ⟨rfl, hb⟩
      exact hK _ _ (hS.trans (hb.mono hS.size)) (Grow.below hb) rfl
    · intro a w K hS hB hR hK
      rw [if_pos (wanted_none rfl)]
      refine wp_load_mid _ _ rfl _ _ hB.1 (U8 d) _ (range_below RW hS hGN) Tryd.underlying25 rfl (by rw [size25, U8_length, hd]) ?_
      exact hK (.agg (U8 d).toArray) w hS (Grow.refl w) rfl
    · intro a w K hS hB hR hK
      rw [if_pos (wanted_none rfl)]
      have h23 := tmp_is (hR.1)
      go_simp
      refine (rhex_any w d hd).mono ?_
      rintro e w' ⟨rfl, hb⟩
      exact hK _ _ (hS.trans (hb.mono hS.size)) (Grow.below hb) rfl
    · intro a w K hS hB hR hK
      rw [if_pos (wanted_none rfl)]
      have h22 := tmp_is (hR.1)
      have h24 := tmp_is (hR.2.1)
      go_simp
      exact hK (.bool true) w hS (Grow.refl w) rfl
    · intro a w K hS hB hR hK
      rw [if_pos (wanted_none rfl)]
      have h25 := tmp_is (hR.1)
      go_simp
      exact hK (.bool true) w hS (Grow.refl w) rfl
    · intro a w K hS hB hR hK
      rw [if_pos (wanted_some rfl (hR.1))]
      refine wp_load_mid _ _ rfl _ _ hB.2.1 (U8 D) _ (range_below PW hS hPN) Tryd.underlying25 rfl (by rw [size25, U8_length, hDl]) ?_
      exact hK (.agg (U8 D).toArray) w hS (Grow.refl w) rfl
    · intro a w K hS hB hR hK
      rw [if_pos (wanted_some rfl (hR.1))]
      refine wp_load_mid _ _ rfl _ _ hB.2.2.1 (U8 D) _ (range_below VW hS hVN) Tryd.underlying25 rfl (by rw [size25, U8_length, hDl]) ?_
      exact hK (.agg (U8 D).toArray) w hS (Grow.refl w) rfl
    · intro a w K hS hB hR hK
      rw [if_pos (wanted_some rfl (hR.2.2.1))]
      have h27 := tmp_is (hR.1)
      have h28 := tmp_is (hR.2.1)
      have hq := run_eq32 w D D hDl hDl
      have hg := guard32
      go_simp
      exact hK (.bool true) w hS (Grow.refl w) rfl
    · intro a w K hS hB hR hK
      rw [if_pos (wanted_none rfl)]
      have h26 := tmp_is (hR.1)
      have h29 := tmp_is (hR.2.1)
      go_simp
      exact hK (.bool true) w hS (Grow.refl w) rfl
    · intro a w K hS hB hR hK
      rw [if_pos (wanted_none rfl)]
      have h30 := tmp_is (hR.1)
      go_simp
      exact hK (.bool true) w hS (Grow.refl w) rfl
    · intro a w K hS hB hR hK
      rw [if_pos (wanted_some rfl (hR.1))]
      have h6 := tmp_is (hB.2.2.2.1)
      go_simp
      exact hK (.int .i64 (E : Int)) w hS (Grow.refl w) rfl
    · intro a w K hS hB hR hK
      rw [if_pos (wanted_some rfl (hR.1))]
      have h8 := tmp_is (hB.2.2.2.2.1)
      go_simp
      exact hK (.int .i64 (E : Int)) w hS (Grow.refl w) rfl
    · intro a w K hS hB hR hK
      rw [if_pos (wanted_some rfl (hR.2.2.1))]
      have h32 := tmp_is (hR.1)
      have h33 := tmp_is (hR.2.1)
      go_simp
      exact hK (.bool true) w hS (Grow.refl w) rfl
    · intro a w K hS hB hR hK
      rw [if_pos (wanted_none rfl)]
      have h31 := tmp_is (hR.1)
      have h34 := tmp_is (hR.2.1)
      go_simp
      exact hK (.bool true) w hS (Grow.refl w) rfl
    · intro a w K hS hB hR hK
      rw [if_pos (wanted_none rfl)]
      have h35 := tmp_is (hR.1)
      go_simp
      exact hK (.bool true) w hS (Grow.refl w) rfl
  case fin =>
    intro a w' HS ha hR
    have h0 : a.eval (.tmp 4) = .bool true := deps_mem _ hR 15 (by decide)
    clear hR
    simp only [pin] at ha
    rw [ha]
    simp only [List.setIfInBounds_toArray, List.set_cons_zero, List.set_cons_succ, h0]
    go_wp2
    go_ret
    refine ⟨rfl, ?_⟩
    rw [hG]
    exact BW.trans (HS.mono (by omega))
end Go.Proofs.YthdnlcllcdcjhaaDoor
