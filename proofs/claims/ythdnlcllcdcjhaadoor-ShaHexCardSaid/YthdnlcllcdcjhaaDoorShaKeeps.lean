/-
  ShaKeeps: bytes that were handed in may be written over.
-/
import Derived.Test.YthdnlcllcdcjhaaDoorShaAlive
import Derived.Test.YthdnlcllcdcjhaaDoorShaCopy
namespace Go.Proofs.YthdnlcllcdcjhaaDoor
open Go.RowKit
/-- n cells of a row that bear bytes, and may be written. -/
def MI (w : World) (g n : Nat) : Prop := w.there g 0 n ∧ ∀ j, j < n → ∃ z : Int, w.cell? ⟨g, j, none⟩ = some (.int .u8 z)
theorem MI.below {w w' : World} {g n B : Nat} (h : MI w g n) (hb : Below B w w') (hg : g < B) : MI w' g n :=
  ⟨there_below h.1 hb hg, fun j hj => by obtain ⟨z, hz⟩ := h.2 j hj; exact ⟨z, (hb.cell (p := ⟨g, j, none⟩) hg).trans hz⟩⟩
theorem MI.only {w w' : World} {g n B k : Nat} (h : MI w g n) (hb : Only B k w w') (hg : g < B) (hk : g ≠ k) : MI w' g n :=
  ⟨hb.there h.1 hg hk, fun j hj => by obtain ⟨z, hz⟩ := h.2 j hj; exact ⟨z, (hb.cell (p := ⟨g, j, none⟩) hg hk).trans hz⟩⟩
theorem MI.set {w : World} {g n : Nat} (h : MI w g n) (i : Nat) (z : Int) : MI (w.setCell ⟨g, i, none⟩ (.int .u8 z)) g n := by
  have hs := World.there_setCells h.1 g i [.int .u8 z]
  refine ⟨hs, fun j hj => ?_⟩
  by_cases hij : i = j
  · subst hij
    obtain ⟨u, hu⟩ := h.2 i hj
    exact ⟨z, World.cell?_setCell_same _ _ _ hu⟩
  · obtain ⟨u, hu⟩ := h.2 j hj
    exact ⟨u, by rw [World.cell?_setCell_other _ _ _ _ (fun e => by injection e; omega)]; exact hu⟩
theorem MI.frozen {w : World} {g n : Nat} (h : MI w g n) (i : Nat) (hi : i < n) : w.frozen? ⟨g, i, none⟩ = false := by
  have := (h.1 i hi).2
  rwa [Nat.zero_add] at this
theorem own_open {w : World} {base n : Nat} {v : Value} {l : List UInt8} (h : w.ownsRow base 5 1 v n (U8 l)) :
    ∃ A c, v = .slice A n c ∧ n ≤ c ∧ Bs w w.heap.size A n l ∧ (0 < n → ∃ g, A = some ⟨g, 0, none⟩ ∧ base ≤ g ∧ g < w.heap.size ∧ MI w g n) := by
  obtain ⟨A, c, rfl, hc, hb⟩ := Bs.of_own h
  refine ⟨A, c, rfl, hc, hb, fun hn => ?_⟩
  have hb' := hb
  obtain ⟨b, off, rfl, hlt, _⟩ := hb'.place hn
  rcases h.2 with ⟨h', rfl⟩ | ⟨g, cap, cur, h', hbg, hg, _⟩
  · omega
  · simp only [Value.slice.injEq, Option.some.injEq, Addr.mk.injEq, and_true, true_and] at h'
    obtain ⟨⟨rfl, rfl⟩, rfl⟩ := h'
    have hlen := hb.len
    refine ⟨b, rfl, hbg, hlt, fun j hj => ?_, fun j hj => ?_⟩
    · rw [Nat.zero_add, h.cellAt j (by omega), h.frozenAt j]
      obtain ⟨u, hu⟩ := byte_get (l := l) (k := j) (by omega)
      rw [U8_get, hu]
      exact ⟨rfl, rfl⟩
    · obtain ⟨u, hu⟩ := byte_get (l := l) (k := j) (by omega)
      exact ⟨u.toNat, by rw [h.cellAt j (by omega), U8_get, hu]; rfl⟩
theorem hash_setCell {w : World} {H g i : Nat} {l : List UInt8} (h : HashAt w H l) (hg : H ≠ g) (v : Value) : HashAt (w.setCell ⟨g, i, none⟩ v) H l :=
  hash_only (B := H + 1) (g' := g) h ((Only.refl (H + 1) g w).setCell i v) (Nat.lt_succ_self _) hg
theorem Ks.setCell {w : World} {g i : Nat} (h : Ks w) (hg : 1 ≠ g) (v : Value) : Ks (w.setCell ⟨g, i, none⟩ v) := h.only ((Only.refl 2 g w).setCell i v) (by omega) hg
theorem arr_new (u : World) (z : Array Value) (D : List UInt8) (hz : z.size = 32) (hD : D.length = 32) :
    ((u.alloc (.cells z 25)).setCells u.heap.size 0 (U8 D)).rangeAt u.heap.size 0 (U8 D) ∧ Below u.heap.size u ((u.alloc (.cells z 25)).setCells u.heap.size 0 (U8 D)) ∧ u.heap.size + 1 ≤ ((u.alloc (.cells z 25)).setCells u.heap.size 0 (U8 D)).heap.size := by
  refine ⟨World.rangeAt_setCells_same _ _ _ _ (by rw [U8_length, hD]; exact there_new u z 25 hz), below_setCells (alloc_below u _) (Nat.le_refl _) _ _, ?_⟩
  rw [size_setCells_, alloc_size]; exact Nat.le_refl _
theorem calls_at_world {P : Program} {f : FuncId} {args : Array Value} {Q : Ending → World → Prop} {w0 : World} {F : World → Prop} (h0 : F w0) (h : ∀ W, F W → Calls P f args W Q) : Calls P f args w0 Q := h w0 h0
theorem sum_at (D l : List UInt8) (hD : shaOf l = D) (A : Option Addr) (n c : Nat) (w : World) (ls : List (List UInt8)) (hp : Pc w w.heap.size A n ls) (hf : ls.flatten = l) (hK : Ks w) (hn : (n : Int) ≤ 65536) (hl : l.length ≤ 900000) :
    Calls Tryd.prog 15 #[.slice A n c] w fun e w' => e = .returned (.agg (U8 D).toArray) ∧ Below w.heap.size w w' := by
  rw [← hD, ← hf]
  exact sum_any A n c ls w w.heap.size hp (Nat.le_refl _) hK.1 hK.2 hn (by rw [hf]; exact hl)
theorem hsum_at (D : List UInt8) (w : World) (g : Nat) (l : List UInt8) (hD : shaOf l = D) (hh : HashAt w g l) (hgs : g < w.heap.size) (hK : Ks w) (hN : l.length ≤ 900000) :
    Calls Tryd.prog 16 #[.pointer (some ⟨g, 0, none⟩)] w fun e w' => e = .returned (.agg (U8 D).toArray) ∧ Below w.heap.size w w' := by
  rw [← hD]; exact hsum_any w g l hh hgs hK.1 hK.2 hN
/-- What each operation of the last line leaves. -/
def KR (H : Nat) (A1 A2 : Option Addr) (n1 c1 n2 c2 : Nat) (l1 l2 D D2 : List UInt8) (i : Nat) (w : World) (v : Value) : Prop :=
  match i with
  | 0 => v = .agg (U8 D).toArray
  | 1 => v = .slice A1 n1 c1
  | 2 => Lits 1 [l1] w v
  | 3 => v = .agg (U8 D).toArray
  | 6 => v = .pointer (some ⟨H, 0, none⟩)
  | 7 => v = .agg (U8 D2).toArray
  | 8 => v = .slice A1 n1 c1
  | 9 => v = .slice A2 n2 c2
  | 10 => Lits 2 [l1, l2] w v
  | 11 => v = .agg (U8 D2).toArray
  | _ => v = .bool true
theorem KR.grow {H : Nat} {A1 A2 : Option Addr} {n1 c1 n2 c2 : Nat} {l1 l2 D D2 : List UInt8} (i : Nat) (w w' : World) (v : Value) (hg : Grow w w') (h : KR H A1 A2 n1 c1 n2 c2 l1 l2 D D2 i w v) : KR H A1 A2 n1 c1 n2 c2 l1 l2 D D2 i w' v := by
  unfold KR at *
  split at h <;> first | exact h | exact Lits.grow h hg
set_option maxRecDepth 100000 in
set_option maxHeartbeats 2000000 in
theorem keeps_small (A1 A2 : Option Addr) (n1 n2 c1 c2 : Nat) (l1 l2 : List UInt8) (w : World) (hb1 : Bs w w.heap.size A1 n1 l1) (hb2 : Bs w w.heap.size A2 n2 l2) (hc1 : n1 ≤ c1) (hc2 : n2 ≤ c2) (hK : Ks w) (h1 : n1 ≤ 2000) (h2 : n2 ≤ 2000) :
    Calls Tryd.prog 7 #[.slice A1 n1 c1, .slice A2 n2 c2] w fun e w' => e = .returned (.bool true) ∧ Below w.heap.size w w' := by
  have hw1 := hK.1
  have hl1 := Lib.hid hb1.len
  have hl2 := Lib.hid hb2.len
  go_enter Tryd.func7, Tryd.ntmps7
  go_wp2_with fail
  refine (alive_any w hK).mono ?_
  rintro e u1 ⟨rfl, B1⟩
  have K1 := hK.below B1 hw1
  have a1 := hb1.below B1
  have a2 := hb2.below B1
  have s1 := B1.size
  go_wp2_with fail
  refine (copy_any A1 n1 c1 l1 u1 w.heap.size a1 s1 (by omega)).mono ?_
  rintro e u2 ⟨v, rfl, hown, hb⟩
  rw [hl1.out] at hown
  obtain ⟨A, c, rfl, hc, hbm, hmi⟩ := own_open hown
  have B2 := B1.trans (hb.mono s1)
  have s2 := hb.size
  have K2 := K1.below hb (by omega)
  clear hown hb K1 a1 a2
  go_wp2_with fail
  refine (new_any u2).mono ?_
  rintro e u3 ⟨rfl, H3, hb, s3⟩
  have B3 := B2.trans (hb.mono (by omega))
  have K3 := K2.below hb (by omega)
  replace s3 := Nat.le_of_eq s3.symm
  have m3 := hbm.below hb
  have mi3 : 0 < n1 → ∃ g, A = some ⟨g, 0, none⟩ ∧ u1.heap.size ≤ g ∧ g < u2.heap.size ∧ MI u3 g n1 := fun hn => by
    obtain ⟨g, e1, e2, e3, e4⟩ := hmi hn
    exact ⟨g, e1, e2, e3, e4.below hb e3⟩
  generalize hH : u2.heap.size = H at *
  clear hb hmi hbm K2 B2
  go_wp2_with fail
  refine (write_any H [] l1 A n1 c u3 H H3 m3 (fun hn a ha => ?_) (by omega) hc (by omega) (by omega) (by omega) K3.2 (by omega) (by decide)).mono ?_
  · obtain ⟨g, e1, e2, e3, e4⟩ := mi3 hn
    subst ha
    injection e1 with e1
    subst e1
    show g ≠ H
    omega
  rintro e u4 ⟨rfl, H4, O4⟩
  have s4 := O4.size
  have B4 := B3.trans (O4.toBelow (by omega) (by omega))
  have K4 := K3.only O4 (by omega) (by omega)
  have mi4 : 0 < n1 → ∃ g, A = some ⟨g, 0, none⟩ ∧ u1.heap.size ≤ g ∧ g < H ∧ MI u4 g n1 := fun hn => by
    obtain ⟨g, e1, e2, e3, e4⟩ := mi3 hn
    exact ⟨g, e1, e2, e3, e4.only O4 (by omega) (by omega)⟩
  replace H4 : HashAt u4 H l1 := H4
  clear mi3 m3 K3 B3 O4 H3
  go_wp2_with fail
  go_loopw [27] (fun i wr => ∃ k : Nat, k ≤ n1 ∧ i = .int .i64 k ∧ HashAt wr H l1 ∧ Ks wr ∧ Below w.heap.size w wr ∧ u4.heap.size ≤ wr.heap.size ∧ (0 < n1 → ∃ g, A = some ⟨g, 0, none⟩ ∧ u1.heap.size ≤ g ∧ g < H ∧ MI wr g n1)) (fun i _ => n1 - (intOf i).toNat)
  case atStart => exact ⟨0, by omega, rfl, H4, K4, B4, Nat.le_refl _, mi4⟩
  case round =>
    clear H4 K4 B4 mi4
    obtain ⟨k, hk, rfl, Hr, Kr, Br, sr, mir⟩ := hrel
    by_cases hlt : k < n1
    · obtain ⟨g, rfl, g1, g2, mi⟩ := mir (by omega)
      obtain ⟨z, hz⟩ := mi.2 k hlt
      have hfr := mi.frozen k hlt
      have i1 : (k : Int) < (n1 : Int) := by omega
      go_wp2
      go_roundw
      case rel => exact ⟨k + 1, by omega, by go_num, hash_setCell Hr (by omega) _, Kr.setCell (by omega) _, Br.setCell (by show w.heap.size ≤ g; omega) _, by simpa [World.setCell] using sr, fun _ => ⟨g, rfl, g1, g2, mi.set k _⟩⟩
      case measure => simp [intOf]; omega
    · obtain rfl : k = n1 := by omega
      clear mir
      go_wp2_with fail
      refine (hsum_any wr H l1 Hr (by omega) Kr.1 Kr.2 (by have := hl1.out; omega)).mono ?_
      rintro e u5 ⟨rfl, hb⟩
      have H5 := hash_below Hr hb (by omega)
      have K5 := Kr.below hb (by have := Kr.1; omega)
      have B5 := Br.trans (hb.mono (by omega))
      have s5 := hb.size
      clear Hr Kr Br hb
      obtain ⟨D, hD, hDl⟩ : ∃ D, shaOf l1 = D ∧ D.length = 32 := ⟨_, rfl, shaOf_length _⟩
      rw [hD]
      have hDz := size_U8 hDl
      go_wp2_with (refine wpList_store_mid rfl 25 (.tmp 8) (.tmp 38) rfl u5.heap.size 0 (U8 D).toArray rfl rfl (by rw [hDz]; exact there_new u5 _ 25 rfl) (by rw [size25, hDz]) (all_oneCell_toArray (U8_one _)) ?_)
      refine calls_at_world (F := fun W => HashAt W H l1 ∧ Ks W ∧ W.rangeAt u5.heap.size 0 (U8 D) ∧ Below w.heap.size w W ∧ u5.heap.size + 1 ≤ W.heap.size) ?_ fun W6 ⟨H6, K6, R6, B6, s6⟩ => ?_
      · have h := fun z hz => arr_new u5 z D hz hDl
        exact ⟨hash_below H5 (h _ (by rfl)).2.1 (by omega), K5.below (h _ (by rfl)).2.1 (by omega), (h _ (by rfl)).1, B5.trans ((h _ (by rfl)).2.1.mono (by omega)), (h _ (by rfl)).2.2⟩
      clear H5 K5 B5
      generalize hE : u5.heap.size = E at *
      refine (write_any H l1 l2 A2 n2 c2 W6 w.heap.size H6 (hb2.below B6) (fun h => hb2.off h (by omega)) (by omega) hc2 (by omega) (by omega) (by omega) K6.2 (by omega) (by have := hl1.out; omega)).mono ?_
      rintro e W ⟨rfl, HW, OW⟩
      have KW := K6.only OW (by omega) (by omega)
      have RW := OW.range R6 (by omega) (by omega)
      have BW := B6.trans (OW.toBelow (by omega) (by omega))
      have sW := OW.size
      clear H6 K6 R6 B6 OW
      go_wp2_with fail
      have hn1 := hl1.out
      have hn2 := hl2.out
      have hEN : E < W.heap.size := by omega
      have hHN : H < W.heap.size := by omega
      have h1N : 1 < W.heap.size := by omega
      have bs1 : ∀ w' : World, Below W.heap.size W w' → Bs w' w'.heap.size A1 k l1 := fun w' hS => (hb1.below (BW.trans (hS.mono BW.size))).lt
      have bs2 : ∀ w' : World, Below W.heap.size W w' → Bs w' w'.heap.size A2 n2 l2 := fun w' hS => (hb2.below (BW.trans (hS.mono BW.size))).lt
      obtain ⟨D2, hD2, hD2l⟩ : ∃ D2, shaOf (l1 ++ l2) = D2 ∧ D2.length = 32 := ⟨_, rfl, shaOf_length _⟩
      clear s6 s5 hE sW s4 s3 s2 hH
      refine wp_region_rel (fun w' => Below W.heap.size W w') Grow (KR H A1 A2 k c1 n2 c2 l1 l2 D D2) [(0, .slice A1 k c1), (1, .slice A2 n2 c2), (6, .pointer (some ⟨H, 0, none⟩)), (8, .pointer (some ⟨E, 0, none⟩))] (by kernel_rfl) (by kernel_rfl) (by kernel_rfl) ?base (drew_below W _) KR.grow ?steps ?fin
      case base =>
        intro p hp
        simp only [List.mem_cons, List.not_mem_nil, or_false] at hp
        rcases hp with rfl | rfl | rfl | rfl <;> exact ⟨rfl, rfl⟩
      case steps =>
        refine steps_cons ?_ (steps_cons ?_ (steps_cons ?_ (steps_cons ?_ (steps_cons ?_ (steps_cons ?_ (steps_cons ?_ (steps_cons ?_ (steps_cons ?_ (steps_cons ?_ (steps_cons ?_ (steps_cons ?_ (steps_cons ?_ (steps_cons ?_ (steps_cons ?_ steps_nil))))))))))))))
        · intro a w K hS hB hR hK
          rw [if_pos (wanted_none rfl)]
          refine wp_load_mid _ _ rfl _ _ hB.2.2.2.1 (U8 D) _ (range_below RW hS hEN) Tryd.underlying25 rfl (by rw [size25, U8_length, hDl]) ?_
          exact hK (.agg (U8 D).toArray) w hS (Grow.refl w) rfl
        · intro a w K hS hB hR hK
          rw [if_pos (wanted_none rfl)]
          have h0 := tmp_is (hB.1)
          go_simp
          exact hK (.slice A1 k c1) w hS (Grow.refl w) rfl
        · intro a w K hS hB hR hK
          rw [if_pos (wanted_none rfl)]
          have h43 := tmp_is (hR.1)
          go_simp
          exact hK (.slice (some ⟨w.heap.size, 0, none⟩) 1 1) _ (hS.trans ((alloc_below w _).mono hS.size)) (Grow.below (alloc_below w _)) ⟨w.heap.size, rfl, by rw [alloc_size]; exact pc_one w _ k c1 _ (bs1 w hS) hc1 _ _⟩
        · intro a w K hS hB hR hK
          rw [if_pos (wanted_none rfl)]
          obtain ⟨b, e1, hb1⟩ := hR.1
          have e1 := tmp_is e1
          go_simp
          refine (sum_at D l1 hD _ _ _ w [l1] hb1 (by simp) (KW.below hS h1N) (by omega) (by omega)).mono ?_
          rintro e w' ⟨rfl, hb⟩
          exact hK _ _ (hS.trans (hb.mono hS.size)) (Grow.below hb) rfl
        · intro a w K hS hB hR hK
          rw [if_pos (wanted_none rfl)]
          have h42 := tmp_is (hR.1)
          have h45 := tmp_is (hR.2.1)
          have hq := run_eq32 w D D hDl hDl
          have hg := guard32
          go_simp
          exact hK (.bool true) w hS (Grow.refl w) rfl
        · intro a w K hS hB hR hK
          rw [if_pos (wanted_none rfl)]
          have h46 := tmp_is (hR.1)
          go_simp
          exact hK (.bool true) w hS (Grow.refl w) rfl
        · intro a w K hS hB hR hK
          rw [if_pos (wanted_some rfl (hR.1))]
          have h6 := tmp_is (hB.2.2.1)
          go_simp
          exact hK (.pointer (some ⟨H, 0, none⟩)) w hS (Grow.refl w) rfl
        · intro a w K hS hB hR hK
          rw [if_pos (wanted_some rfl (hR.2.1))]
          have h48 := tmp_is (hR.1)
          go_simp
          refine (hsum_at D2 w H (l1 ++ l2) hD2 (hash_below HW hS hHN) (Nat.lt_of_lt_of_le hHN hS.size) (KW.below hS h1N) (by simp; omega)).mono ?_
          rintro e w' ⟨rfl, hb⟩
          exact hK _ _ (hS.trans (hb.mono hS.size)) (Grow.below hb) rfl
        · intro a w K hS hB hR hK
          rw [if_pos (wanted_some rfl (hR.1))]
          have h0 := tmp_is (hB.1)
          go_simp
          exact hK (.slice A1 k c1) w hS (Grow.refl w) rfl
        · intro a w K hS hB hR hK
          rw [if_pos (wanted_some rfl (hR.1))]
          have h1 := tmp_is (hB.2.1)
          go_simp
          exact hK (.slice A2 n2 c2) w hS (Grow.refl w) rfl
        · intro a w K hS hB hR hK
          rw [if_pos (wanted_some rfl (hR.2.2.1))]
          have h50 := tmp_is (hR.1)
          have h51 := tmp_is (hR.2.1)
          go_simp
          exact hK (.slice (some ⟨w.heap.size, 0, none⟩) 2 2) _ (hS.trans ((alloc_below w _).mono hS.size)) (Grow.below (alloc_below w _)) ⟨w.heap.size, rfl, by rw [alloc_size]; exact pc_two w _ _ k c1 n2 c2 _ _ (bs1 w hS) (bs2 w hS) hc1 hc2 _ _⟩
        · intro a w K hS hB hR hK
          rw [if_pos (wanted_some rfl (hR.2.2.1))]
          obtain ⟨b, e1, hb1⟩ := hR.1
          have e1 := tmp_is e1
          go_simp
          refine (sum_at D2 (l1 ++ l2) hD2 _ _ _ w [l1, l2] hb1 (by simp) (KW.below hS h1N) (by omega) (by simp; omega)).mono ?_
          rintro e w' ⟨rfl, hb⟩
          exact hK _ _ (hS.trans (hb.mono hS.size)) (Grow.below hb) rfl
        · intro a w K hS hB hR hK
          rw [if_pos (wanted_some rfl (hR.2.2.1))]
          have h49 := tmp_is (hR.1)
          have h53 := tmp_is (hR.2.1)
          have hq := run_eq32 w D2 D2 hD2l hD2l
          have hg := guard32
          go_simp
          exact hK (.bool true) w hS (Grow.refl w) rfl
        · intro a w K hS hB hR hK
          rw [if_pos (wanted_none rfl)]
          have h47 := tmp_is (hR.1)
          have h54 := tmp_is (hR.2.1)
          go_simp
          exact hK (.bool true) w hS (Grow.refl w) rfl
        · intro a w K hS hB hR hK
          rw [if_pos (wanted_none rfl)]
          have h55 := tmp_is (hR.1)
          go_simp
          exact hK (.bool true) w hS (Grow.refl w) rfl
      case fin =>
        intro a w' HS ha hR
        have h0 : a.eval (.tmp 4) = .bool true := deps_mem _ hR 14 (by decide)
        clear hR
        simp only [pin] at ha
        rw [ha]
        simp only [List.setIfInBounds_toArray, List.set_cons_zero, List.set_cons_succ, h0]
        go_wp2
        go_ret
        exact ⟨rfl, BW.trans (HS.mono BW.size)⟩
set_option maxRecDepth 100000 in
theorem keeps_law (A1 A2 : Option Addr) (n1 n2 c1 c2 : Nat) (l1 l2 : List UInt8) (w : World) (hb1 : Bs w w.heap.size A1 n1 l1) (hb2 : Bs w w.heap.size A2 n2 l2) (hc1 : n1 ≤ c1) (hc2 : n2 ≤ c2) (hK : Ks w) :
    Calls Tryd.prog 7 #[.slice A1 n1 c1, .slice A2 n2 c2] w fun e w' => e = .returned (.bool true) ∧ Below w.heap.size w w' := by
  by_cases h1 : n1 ≤ 2000
  · by_cases h2 : n2 ≤ 2000
    · exact keeps_small A1 A2 n1 n2 c1 c2 l1 l2 w hb1 hb2 hc1 hc2 hK h1 h2
    · go_enter Tryd.func7, Tryd.ntmps7
      go_wp2_with fail
      refine (alive_any w hK).mono ?_
      rintro e w1 ⟨rfl, B1⟩
      go_wp2
      go_ret
      exact ⟨rfl, B1⟩
  · go_enter Tryd.func7, Tryd.ntmps7
    go_wp2_with fail
    refine (alive_any w hK).mono ?_
    rintro e w1 ⟨rfl, B1⟩
    go_wp2
    go_ret
    exact ⟨rfl, B1⟩
end Go.Proofs.YthdnlcllcdcjhaaDoor
