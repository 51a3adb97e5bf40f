/-
  ShaSums: all bytes, in whatever parts, have the digest that is said.
-/
import Derived.Test.YtoagodgiaccadaaDoorShaAlive
import Derived.Test.YtoagodgiaccadaaDoorShaEq
import Derived.Test.YtoagodgiaccadaaDoorShaJoin
import Derived.Test.YtoagodgiaccadaaDoorShaFew
import Derived.Test.YtoagodgiaccadaaDoorShaRefSum
namespace Go.Proofs.YtoagodgiaccadaaDoor
open Go.RowKit
theorem arr_new (u : World) (z : Array Value) (D : List UInt8) (hz : z.size = 32) (hD : D.length = 32) :
    ((u.alloc (.cells z 25)).setCells u.heap.size 0 (U8 D)).rangeAt u.heap.size 0 (U8 D) ∧ Below u.heap.size u ((u.alloc (.cells z 25)).setCells u.heap.size 0 (U8 D)) ∧ u.heap.size + 1 ≤ ((u.alloc (.cells z 25)).setCells u.heap.size 0 (U8 D)).heap.size := by
  refine ⟨World.rangeAt_setCells_same _ _ _ _ (by rw [U8_length, hD]; exact there_new u z 25 hz), below_setCells (alloc_below u _) (Nat.le_refl _) _ _, ?_⟩
  rw [size_setCells_, alloc_size]; exact Nat.le_refl _
theorem calls_at_world {P : Program} {f : FuncId} {args : Array Value} {Q : Ending → World → Prop} {w0 : World} {F : World → Prop} (h0 : F w0) (h : ∀ W, F W → Calls P f args W Q) : Calls P f args w0 Q := h w0 h0
theorem sum_at (D l : List UInt8) (hD : shaOf l = D) (A : Option Addr) (n c : Nat) (w : World) (B : Nat) (ls : List (List UInt8)) (hp : Pc w B A n ls) (hB : B ≤ w.heap.size) (hf : ls.flatten = l) (hK : Ks w) (hn : (n : Int) ≤ 65536) (hl : l.length ≤ 900000) :
    Calls Tryd.prog 11 #[.slice A n c] w fun e w' => e = .returned (.agg (U8 D).toArray) ∧ Below w.heap.size w w' := by
  rw [← hD, ← hf]
  exact sum_any A n c ls w B hp hB hK.1 hK.2 hn (by rw [hf]; exact hl)
theorem hsum_at (D : List UInt8) (w : World) (g : Nat) (l : List UInt8) (hD : shaOf l = D) (hh : HashAt w g l) (hgs : g < w.heap.size) (hK : Ks w) (hN : l.length ≤ 900000) :
    Calls Tryd.prog 12 #[.pointer (some ⟨g, 0, none⟩)] w fun e w' => e = .returned (.agg (U8 D).toArray) ∧ Below w.heap.size w w' := by
  rw [← hD]; exact hsum_any w g l hh hgs hK.1 hK.2 hN
/-- What each operation of the last line leaves. -/
def SR (H : Nat) (A : Option Addr) (n c T : Nat) (D : List UInt8) (i : Nat) (_w : World) (v : Value) : Prop :=
  match i with
  | 0 => v = .slice A n c
  | 1 => v = .agg (U8 D).toArray
  | 2 => v = .agg (U8 D).toArray
  | 5 => v = .pointer (some ⟨H, 0, none⟩)
  | 6 => v = .agg (U8 D).toArray
  | 7 => v = .agg (U8 D).toArray
  | 11 => v = .pointer (some ⟨H, 0, none⟩)
  | 12 => v = .int .i64 T
  | 13 => v = .int .i64 T
  | _ => v = .bool true
theorem SR.grow {H : Nat} {A : Option Addr} {n c T : Nat} {D : List UInt8} (i : Nat) (w w' : World) (v : Value) (_hg : Grow w w') (h : SR H A n c T D i w v) : SR H A n c T D i w' v := h
theorem Pc.ps {w : World} {B n : Nat} {A : Option Addr} {ls : List (List UInt8)} (h : Pc w B A n ls) : Ps w B A n ls :=
  ⟨h.len, fun hn => by
    obtain ⟨b, off, e, hb, hc⟩ := h.place hn
    refine ⟨b, off, e, hb, fun k l hl => ?_⟩
    obtain ⟨A', n', c', h1, _, h2⟩ := hc k l hl
    exact ⟨A', n', c', h1, h2⟩⟩
set_option maxRecDepth 100000 in
set_option maxHeartbeats 2000000 in
theorem sums_law (A : Option Addr) (n c : Nat) (ls : List (List UInt8)) (w : World) (hp : Pc w w.heap.size A n ls) (hK : Ks w) (hW : w.rangeAt 0 0 (W32 KS)) :
    Calls Tryd.prog 3 #[.slice A n c] w fun e w' => e = .returned (.bool true) ∧ Below w.heap.size w w' := by
  have hw1 := hK.1
  have hlen := Lib.hid hp.len
  go_enter Tryd.func3, Tryd.ntmps3
  go_wp2_with fail
  refine (alive_any w hK).mono ?_
  rintro e u1 ⟨rfl, B1⟩
  have K1 := hK.below B1 hw1
  have W1 := range_below hW B1 (by omega)
  have s1 := B1.size
  have hp1 := hp.below' B1 (Nat.le_refl _)
  go_wp2_with fail
  refine (few_any A n c ls u1 w.heap.size hp1).mono ?_
  rintro e u2 ⟨rfl, hw⟩
  obtain rfl := hw
  by_cases hfew : n ≤ 8 ∧ ls.flatten.length ≤ 2000
  · rw [decide_eq_true hfew]
    obtain ⟨hn8, hT⟩ := hfew
    have hni : (n : Int) ≤ 8 := by omega
    go_wp2_with fail
    refine (join_any A n c ls u2 w.heap.size hp1.ps s1 (by omega) (by omega)).mono ?_
    rintro e u3 hret
    obtain ⟨A', N, c', rfl, hNc, hN, hbj, B3⟩ := hret.slice_
    have K3 := K1.below B3 (by omega)
    have W3 := range_below W1 B3 (by omega)
    have s3 := B3.size
    have C3 := B1.trans (B3.mono s1)
    obtain ⟨D, hD, hDl⟩ : ∃ D, shaOf ls.flatten = D ∧ D.length = 32 := ⟨_, rfl, shaOf_length _⟩
    have hDz := size_U8 hDl
    have hNi : (N : Int) ≤ 2000 := by have := hN.out; omega
    go_wp2_with fail
    have hs := refsum_any A' N c' ls.flatten u3 hbj (by omega) (by omega) W3
    rw [hD] at hs
    refine hs.mono ?_
    rintro e u4 ⟨rfl, B4⟩
    have K4 := K3.below B4 (by omega)
    have s4 := B4.size
    have C4 := C3.trans (B4.mono (by omega))
    clear B3 hbj K3 W3 K1 W1 B4 C3 hs hret
    go_wp2_with (refine wpList_store_mid rfl 25 (.tmp 3) (.tmp 15) rfl u4.heap.size 0 (U8 D).toArray rfl rfl (by rw [hDz]; exact there_new u4 _ 25 rfl) (by rw [size25, hDz]) (all_oneCell_toArray (U8_one _)) ?_)
    refine calls_at_world (F := fun W => Ks W ∧ W.rangeAt u4.heap.size 0 (U8 D) ∧ Below w.heap.size w W ∧ u4.heap.size + 1 ≤ W.heap.size) ?_ fun W5 ⟨K5, R5, B5, s5⟩ => ?_
    · have h := fun z hz => arr_new u4 z D hz hDl
      exact ⟨K4.below (h _ (by rfl)).2.1 (by omega), (h _ (by rfl)).1, C4.trans ((h _ (by rfl)).2.1.mono (by omega)), (h _ (by rfl)).2.2⟩
    clear K4 C4
    generalize hE : u4.heap.size = E at *
    refine (new_any W5).mono ?_
    rintro e u6 ⟨rfl, H6, hb, s6⟩
    have B6 := B5.trans (hb.mono (by omega))
    have K6 := K5.below hb (by omega)
    have R6 := range_below R5 hb (by omega)
    replace s6 := Nat.le_of_eq s6.symm
    generalize hH : W5.heap.size = H at *
    clear hb K5 B5 R5
    go_wp2
    go_loopw [5, 19] (fun v i wr => ∃ k N : Nat, (k : Int) ≤ n ∧ i = .int .i64 k ∧ v = .int .i64 N ∧ Hid (N = (ls.take k).flatten.length) ∧ (N : Int) ≤ 2000 ∧ HashAt wr H (ls.take k).flatten ∧ Ks wr ∧ wr.rangeAt E 0 (U8 D) ∧ Below w.heap.size w wr ∧ H + 1 ≤ wr.heap.size) (fun _ i _ => n - (intOf i).toNat)
    case atStart => exact ⟨0, 0, by omega, rfl, rfl, rfl, by omega, by simpa using H6, K6, R6, B6, s6⟩
    case round =>
      clear H6 K6 R6 B6 s6
      obtain ⟨k, N, hk, rfl, rfl, hN, hN2, Hr, Kr, Rr, Br, sr⟩ := hrel
      by_cases hlt : (k : Int) < n
      · obtain ⟨b, off, rfl, hb, hc⟩ := hp.place (by omega)
        obtain ⟨l, hl⟩ := partc_get (ls := ls) (k := k) (by rw [hlen.out]; omega)
        obtain ⟨A2, n2, c2, hck, hcap, hbs⟩ := hc k l hl
        clear hc
        have hcw := (Br.cell (p := ⟨b, off + k, none⟩) hb).trans hck
        have Htf := Lib.hid (takec_flat hl)
        have Hfl := Lib.hid (flatc_le hl)
        have Hll := Lib.hid hbs.len
        have hfit : (N : Int) + n2 ≤ 2000 := by have := Hfl.out; have := Hll.out; have := hN.out; omega
        clear hl
        go_wp2_with fail
        refine (write_any H (ls.take k).flatten l A2 n2 c2 wr w.heap.size Hr (hbs.below Br) (fun h => hbs.off h (by omega)) (by omega) hcap (by omega) (by omega) (by omega) Kr.2 (by omega) (by have := hN.out; omega)).mono ?_
        rintro e w2 ⟨rfl, H2, O2⟩
        have K2 := Kr.only O2 (by omega) (by omega)
        have R2 := O2.range Rr (by omega) (by omega)
        have B2 := Br.trans (O2.toBelow (by omega) (by omega))
        have s2 := O2.size
        clear Hr Kr Rr Br O2
        go_wp2
        go_roundw
        case rel => exact ⟨k + 1, N + n2, by omega, by go_num, by go_num, by show N + n2 = _; rw [Htf.out, List.length_append, ← hN.out, Hll.out], by omega, by rw [Htf.out]; exact H2, K2, R2, B2, by omega⟩
        case measure => simp [intOf]; omega
      · obtain rfl : k = n := by omega
        rw [List.take_of_length_le (by rw [hlen.out]; omega)] at Hr hN
        go_wp2
        have hHN : H < wr.heap.size := by omega
        have hEN : E < wr.heap.size := by omega
        have h1N : 1 < wr.heap.size := Kr.1
        have hT9 : ls.flatten.length ≤ 900000 := by have := hN.out; omega
        refine wp_region_rel (fun w' => Below wr.heap.size wr w') Grow (SR H A k c N D) [(0, .slice A k c), (3, .pointer (some ⟨E, 0, none⟩)), (4, .pointer (some ⟨H, 0, none⟩)), (5, .int .i64 N)] (by kernel_rfl) (by kernel_rfl) (by kernel_rfl) ?base (drew_below wr _) SR.grow ?steps ?fin
        case base =>
          intro p hp
          simp only [List.mem_cons, List.not_mem_nil, or_false] at hp
          rcases hp with rfl | rfl | rfl | rfl <;> exact ⟨rfl, rfl⟩
        case steps =>
          refine steps_cons ?_ (steps_cons ?_ (steps_cons ?_ (steps_cons ?_ (steps_cons ?_ (steps_cons ?_ (steps_cons ?_ (steps_cons ?_ (steps_cons ?_ (steps_cons ?_ (steps_cons ?_ (steps_cons ?_ (steps_cons ?_ (steps_cons ?_ (steps_cons ?_ (steps_cons ?_ (steps_cons ?_ steps_nil))))))))))))))))
          · intro a w0 K hS hB hR hK
            rw [if_pos (wanted_none rfl)]
            have h0 := tmp_is (hB.1)
            go_simp
            exact hK (.slice A k c) w0 hS (Grow.refl w0) rfl
          · intro a w0 K hS hB hR hK
            rw [if_pos (wanted_none rfl)]
            have h1 := tmp_is (hR.1)
            go_simp
            refine (sum_at D ls.flatten hD _ _ _ w0 w.heap.size ls (hp.below' (Br.trans (hS.mono Br.size)) (Nat.le_refl _)) (Nat.le_trans Br.size hS.size) rfl (Kr.below hS h1N) (by omega) hT9).mono ?_
            rintro e w' ⟨rfl, hb⟩
            exact hK _ _ (hS.trans (hb.mono hS.size)) (Grow.below hb) rfl
          · intro a w0 K hS hB hR hK
            rw [if_pos (wanted_none rfl)]
            refine wp_load_mid _ _ rfl _ _ hB.2.1 (U8 D) _ (range_below Rr hS hEN) Tryd.underlying25 rfl (by rw [size25, U8_length, hDl]) ?_
            exact hK (.agg (U8 D).toArray) w0 hS (Grow.refl w0) rfl
          · intro a w0 K hS hB hR hK
            rw [if_pos (wanted_none rfl)]
            have h1 := tmp_is (hR.1)
            have h2 := tmp_is (hR.2.1)
            have hq := run_eq32 w0 D D hDl hDl
            have hg := guard32
            go_simp
            exact hK (.bool true) w0 hS (Grow.refl w0) rfl
          · intro a w0 K hS hB hR hK
            rw [if_pos (wanted_none rfl)]
            have h1 := tmp_is (hR.1)
            go_simp
            exact hK (.bool true) w0 hS (Grow.refl w0) rfl
          · intro a w0 K hS hB hR hK
            rw [if_pos (wanted_some rfl (hR.1))]
            have h4 := tmp_is (hB.2.2.1)
            go_simp
            exact hK (.pointer (some ⟨H, 0, none⟩)) w0 hS (Grow.refl w0) rfl
          · intro a w0 K hS hB hR hK
            rw [if_pos (wanted_some rfl (hR.2.1))]
            have h5 := tmp_is (hR.1)
            go_simp
            refine (hsum_at D w0 H ls.flatten hD (hash_below Hr hS hHN) (Nat.lt_of_lt_of_le hHN hS.size) (Kr.below hS h1N) hT9).mono ?_
            rintro e w' ⟨rfl, hb⟩
            exact hK _ _ (hS.trans (hb.mono hS.size)) (Grow.below hb) rfl
          · intro a w0 K hS hB hR hK
            rw [if_pos (wanted_some rfl (hR.1))]
            refine wp_load_mid _ _ rfl _ _ hB.2.1 (U8 D) _ (range_below Rr hS hEN) Tryd.underlying25 rfl (by rw [size25, U8_length, hDl]) ?_
            exact hK (.agg (U8 D).toArray) w0 hS (Grow.refl w0) rfl
          · intro a w0 K hS hB hR hK
            rw [if_pos (wanted_some rfl (hR.2.2.1))]
            have h1 := tmp_is (hR.1)
            have h2 := tmp_is (hR.2.1)
            have hq := run_eq32 w0 D D hDl hDl
            have hg := guard32
            go_simp
            exact hK (.bool true) w0 hS (Grow.refl w0) rfl
          · intro a w0 K hS hB hR hK
            rw [if_pos (wanted_none rfl)]
            have h1 := tmp_is (hR.1)
            have h2 := tmp_is (hR.2.1)
            go_simp
            exact hK (.bool true) w0 hS (Grow.refl w0) rfl
          · intro a w0 K hS hB hR hK
            rw [if_pos (wanted_none rfl)]
            have h1 := tmp_is (hR.1)
            go_simp
            exact hK (.bool true) w0 hS (Grow.refl w0) rfl
          · intro a w0 K hS hB hR hK
            rw [if_pos (wanted_some rfl (hR.1))]
            have h4 := tmp_is (hB.2.2.1)
            go_simp
            exact hK (.pointer (some ⟨H, 0, none⟩)) w0 hS (Grow.refl w0) rfl
          · intro a w0 K hS hB hR hK
            rw [if_pos (wanted_some rfl (hR.2.1))]
            have h5 := tmp_is (hR.1)
            go_simp
            refine (len_any w0 H ls.flatten (hash_below Hr hS hHN)).mono ?_
            rintro e w' ⟨rfl, hw'⟩
            obtain rfl := hw'
            rw [← hN.out]
            exact hK _ _ hS (Grow.refl w0) rfl
          · intro a w0 K hS hB hR hK
            rw [if_pos (wanted_some rfl (hR.1))]
            have h5 := tmp_is (hB.2.2.2.1)
            go_simp
            exact hK (.int .i64 N) w0 hS (Grow.refl w0) rfl
          · intro a w0 K hS hB hR hK
            rw [if_pos (wanted_some rfl (hR.2.2.1))]
            have h1 := tmp_is (hR.1)
            have h2 := tmp_is (hR.2.1)
            go_simp
            exact hK (.bool true) w0 hS (Grow.refl w0) rfl
          · intro a w0 K hS hB hR hK
            rw [if_pos (wanted_none rfl)]
            have h1 := tmp_is (hR.1)
            have h2 := tmp_is (hR.2.1)
            go_simp
            exact hK (.bool true) w0 hS (Grow.refl w0) rfl
          · intro a w0 K hS hB hR hK
            rw [if_pos (wanted_none rfl)]
            have h1 := tmp_is (hR.1)
            go_simp
            exact hK (.bool true) w0 hS (Grow.refl w0) rfl
        case fin =>
          intro a w' HS ha hR
          have h0 : a.eval (.tmp 2) = .bool true := deps_mem _ hR 16 (by decide)
          clear hR
          simp only [pin] at ha
          rw [ha]
          simp only [List.setIfInBounds_toArray, List.set_cons_zero, List.set_cons_succ, h0]
          clear ha h0
          go_wp2
          go_ret
          exact ⟨rfl, Br.trans (HS.mono Br.size)⟩
  · rw [decide_eq_false hfew]
    go_wp2
    go_ret
    exact ⟨rfl, B1⟩
end Go.Proofs.YtoagodgiaccadaaDoor
