/-
  ShaPieces: in whatever pieces bytes come the digest is the same.
-/
import Derived.Test.YthdnlcllcdcjhaaDoorShaKeeps
namespace Go.Proofs.YthdnlcllcdcjhaaDoor
open Go.RowKit
/-- Integers that came in. -/
def Is (w : World) (A : Option Addr) (n : Nat) : Prop := 0 < n → ∃ x, A = some x ∧ ∀ j, j < n → ∃ z : Int, w.cell? (x.add j) = some (.int .i64 z)
theorem is_of_row {w : World} {a : Option Addr} {len cap : Nat} {zs : List Int}
    (h : (a = none ∧ len = 0 ∧ cap = 0 ∧ zs = []) ∨ ∃ x, a = some x ∧ len ≤ cap ∧ cap ≤ maxLen ∧ zs.length = cap ∧ (∀ i, i < zs.length → w.cell? (x.add i) = some (.int .i64 (zs.getD i 0))) ∧ ∀ n ∈ zs, (Lit.int .i64 n).wf = true) : Is w a len := by
  rcases h with ⟨rfl, rfl, rfl, rfl⟩ | ⟨x, rfl, hl, hm, hz, hcell, _⟩
  · intro h0; omega
  · exact fun _ => ⟨x, rfl, fun j hj => ⟨_, hcell j (by omega)⟩⟩
theorem Is.below {w w' : World} {A : Option Addr} {n : Nat} (h : Is w A n) (hb : Below w.heap.size w w') : Is w' A n := fun hn => by
  obtain ⟨x, e, hc⟩ := h hn
  refine ⟨x, e, fun j hj => ?_⟩
  obtain ⟨z, hz⟩ := hc j hj
  exact ⟨z, (hb.cell (World.block_lt_of_cell? _ _ hz)).trans hz⟩
theorem and4095 (n : Int) : bits .and .i64 n 4095 = n % 4096 := by
  have h4095 : (BitVec.ofInt 64 4095).toNat = 2 ^ 12 - 1 := by decide
  have key : (BitVec.ofInt 64 n &&& BitVec.ofInt 64 4095).toNat = (n % ((2 ^ 64 : Nat) : Int)).toNat % 2 ^ 12 := by
    rw [BitVec.toNat_and, BitVec.toNat_ofInt, h4095, Nat.and_two_pow_sub_one_eq_mod]
  show IntKind.i64.wrap ((BitVec.ofInt 64 n &&& BitVec.ofInt 64 4095).toNat : Nat) = n % 4096
  rw [key, IntKind.wrap_i64]
  omega
/-- What each operation of the test in the loop leaves. -/
def PR (H : Nat) (A1 AL' : Option Addr) (n1 c1 L' cL' m : Nat) (l1 D : List UInt8) (i : Nat) (w : World) (v : Value) : Prop :=
  match i with
  | 0 => v = .pointer (some ⟨H, 0, none⟩)
  | 1 => v = .agg (U8 D).toArray
  | 2 => v = .slice A1 n1 c1
  | 3 => v = .slice A1 n1 c1
  | 4 => v = .int .i64 n1
  | 5 => v = .slice AL' L' cL'
  | 6 => v = .int .i64 L'
  | 7 => v = .int .i64 m
  | 8 => v = .slice A1 m c1
  | 9 => Lits 1 [l1.take m] w v
  | 10 => v = .agg (U8 D).toArray
  | 11 => v = .bool false
  | _ => v = .bool true
theorem PR.grow {H : Nat} {A1 AL' : Option Addr} {n1 c1 L' cL' m : Nat} {l1 D : List UInt8} (i : Nat) (w w' : World) (v : Value) (hg : Grow w w') (h : PR H A1 AL' n1 c1 L' cL' m l1 D i w v) : PR H A1 AL' n1 c1 L' cL' m l1 D i w' v := by
  unfold PR at *
  split at h <;> first | exact h | exact Lits.grow h hg
set_option maxRecDepth 100000 in
set_option maxHeartbeats 2000000 in
theorem pieces_small (A1 A2 : Option Addr) (n1 n2 c1 c2 : Nat) (l1 : List UInt8) (w : World) (hb1 : Bs w w.heap.size A1 n1 l1) (hi2 : Is w A2 n2) (hc1 : n1 ≤ c1) (hm1 : c1 ≤ maxLen) (hK : Ks w) (h1 : n1 ≤ 2000) (h2 : n2 ≤ 20) :
    Calls Tryd.prog 6 #[.slice A1 n1 c1, .slice A2 n2 c2] w fun e w' => e = .returned (.bool true) ∧ Below w.heap.size w w' := by
  have hw1 := hK.1
  have hl1 := Lib.hid hb1.len
  unfold maxLen at hm1
  go_enter Tryd.func6, Tryd.ntmps6
  go_wp2_with fail
  refine (alive_any w hK).mono ?_
  rintro e u1 ⟨rfl, B1⟩
  have K1 := hK.below B1 hw1
  have s1 := B1.size
  go_wp2_with fail
  refine (new_any u1).mono ?_
  rintro e u3 ⟨rfl, H3, hb, s3⟩
  have B3 := B1.trans (hb.mono (by omega))
  have K3 := K1.below hb (by omega)
  replace s3 := Nat.le_of_eq s3.symm
  generalize hH : u1.heap.size = H at *
  clear hb K1 B1
  go_wp2_with fail
  go_loopw [25, 6] (fun i v wr => ∃ (j p L cL : Nat) (AL : Option Addr), j ≤ n2 ∧ Hid (L + p = n1 ∧ L ≤ cL ∧ cL ≤ c1) ∧ i = .int .i64 j ∧ v = .slice AL L cL ∧ Bs w w.heap.size AL L (l1.drop p) ∧ HashAt wr H (l1.take p) ∧ Ks wr ∧ Below w.heap.size w wr ∧ u3.heap.size ≤ wr.heap.size) (fun i _ _ => n2 - (intOf i).toNat)
  case atStart => exact ⟨0, 0, n1, c1, A1, by omega, Lib.hid ⟨rfl, hc1, Nat.le_refl _⟩, rfl, rfl, hb1, H3, K3, B3, Nat.le_refl _⟩
  case round =>
    clear H3 K3 B3
    obtain ⟨j, p, L, cL, AL, hj, hLp, rfl, rfl, hbl, Hr, Kr, Br, sr⟩ := hrel
    have hLc : L ≤ cL := hLp.out.2.1
    have hLm : L ≤ 2000 := by have := hLp.out.1; omega
    have hcm : cL ≤ 2 ^ 63 - 1 := by have := hLp.out.2.2; omega
    by_cases hlt : j < n2
    · obtain ⟨x, rfl, hcz⟩ := (hi2.below Br) (by omega)
      obtain ⟨z, hz⟩ := hcz j hlt
      clear hcz
      have i1 : (j : Int) < (n2 : Int) := by omega
      have ha := and4095 z
      obtain ⟨k, hk, hkL⟩ : ∃ k : Nat, z % 4096 % ((L : Int) + 1) = (k : Int) ∧ k ≤ L := by
        have h1 := Int.emod_nonneg (z % 4096) (show ((L : Int) + 1) ≠ 0 by omega)
        have h2 := Int.emod_lt_of_pos (z % 4096) (show 0 < ((L : Int) + 1) by omega)
        exact ⟨((z % 4096) % ((L : Int) + 1)).toNat, by omega, by omega⟩
      have hk0 : (0 : Int) ≤ (k : Int) := by omega
      have hkL' : (k : Int) ≤ (L : Int) := by omega
      have hkc : (k : Int) ≤ (cL : Int) := by omega
      go_wp2_with fail
      refine (write_any H (l1.take p) ((l1.drop p).take k) AL k cL wr w.heap.size Hr ((hbl.below Br).take_ k hkL) (fun h => (hbl.take_ k hkL).off h (by omega)) (by omega) (by omega) (by omega) (by omega) (by omega) Kr.2 (by omega) (by rw [List.length_take]; have := hLp.out.1; omega)).mono ?_
      rintro e u4 ⟨rfl, H4, O4⟩
      rw [← List.take_add] at H4
      have K4 := Kr.only O4 (by omega) (by omega)
      have B4 := Br.trans (O4.toBelow (by omega) (by omega))
      have s4 := O4.size
      obtain ⟨AL', hAL', hbl'⟩ : ∃ AL', (if cL = k then AL else AL.map (·.add k)) = AL' ∧ Bs w w.heap.size AL' (L - k) (l1.drop (p + k)) := by
        have h := hbl.cut (lo := k) (hi := L) (c := cL) (A' := if cL = k then AL else AL.map (·.add k)) hkL (Nat.le_refl _) hLc rfl
        rw [List.take_of_length_le (by rw [hbl.len]; exact Nat.le_refl _), List.drop_drop] at h
        exact ⟨_, rfl, h⟩
      clear Hr Kr Br O4
      go_wp2_with fail
      obtain ⟨m, hm, hmn, hmL⟩ : ∃ m, Hid (m = p + k) ∧ m ≤ n1 ∧ L - k + m = n1 := ⟨p + k, Lib.hid rfl, by have := hLp.out.1; omega, by have := hLp.out.1; omega⟩
      rw [← hm.out] at H4 hbl'
      generalize hL' : L - k = L' at *
      generalize hc' : cL - k = cL' at *
      have hcc : L' ≤ cL' ∧ cL' ≤ c1 := ⟨by omega, by have := hLp.out.2; omega⟩
      have HL' := Lib.hid hL'
      have Hc' := Lib.hid hc'
      clear hL' hc' hAL'
      refine wp_at_world (F := fun W => W = u4) rfl fun W hW => ?_
      have HW : HashAt W H (l1.take m) := hW ▸ H4
      have KW : Ks W := hW ▸ K4
      have BW : Below w.heap.size w W := hW ▸ B4
      have sW : u3.heap.size ≤ W.heap.size := by rw [hW]; omega
      clear H4 K4 B4 s4 hW
      have hHN : H < W.heap.size := by omega
      have h1N : 1 < W.heap.size := by omega
      have hmc : m ≤ c1 := by omega
      have hmn' : (m : Int) ≤ (n1 : Int) := by omega
      have hmc' : (m : Int) ≤ (c1 : Int) := by omega
      have hm0 : (0 : Int) ≤ (m : Int) := by omega
      have hq0 : (n1 : Int) - (L' : Int) = (m : Int) := by omega
      have hwm : IntKind.i64.wrap (m : Int) = (m : Int) := by rw [IntKind.wrap_i64]; omega
      have hm9 : (l1.take m).length ≤ 900000 := by rw [List.length_take]; omega
      have bs1 : ∀ w' : World, Below W.heap.size W w' → Bs w' w'.heap.size A1 m (l1.take m) := fun w' hS => ((hb1.take_ m hmn).below (BW.trans (hS.mono BW.size))).lt
      obtain ⟨D, hD, hDl⟩ : ∃ D, shaOf (l1.take m) = D ∧ D.length = 32 := ⟨_, rfl, shaOf_length _⟩
      refine wp_region_rel (fun w' => Below W.heap.size W w') Grow (PR H A1 AL' n1 c1 L' cL' m l1 D) [(0, .slice A1 n1 c1), (5, .pointer (some ⟨H, 0, none⟩)), (6, .slice AL' L' cL')] (by kernel_rfl) (by kernel_rfl) (by kernel_rfl) ?base (drew_below W _) PR.grow ?steps ?fin
      case base =>
        intro p hp
        simp only [List.mem_cons, List.not_mem_nil, or_false] at hp
        rcases hp with rfl | rfl | rfl <;> exact ⟨rfl, rfl⟩
      case steps =>
        clear ha hk hk0 hkL' hkc hz i1 hmL
        refine steps_cons ?_ (steps_cons ?_ (steps_cons ?_ (steps_cons ?_ (steps_cons ?_ (steps_cons ?_ (steps_cons ?_ (steps_cons ?_ (steps_cons ?_ (steps_cons ?_ (steps_cons ?_ (steps_cons ?_ steps_nil)))))))))))
        · intro a w K hS hB hR hK
          rw [if_pos (wanted_none rfl)]
          have h5 := tmp_is (hB.2.1)
          go_simp
          exact hK (.pointer (some ⟨H, 0, none⟩)) w hS (Grow.refl w) rfl
        · intro a w K hS hB hR hK
          rw [if_pos (wanted_none rfl)]
          have h43 := tmp_is (hR.1)
          go_simp
          refine (hsum_at D w H (l1.take m) hD (hash_below HW hS hHN) (Nat.lt_of_lt_of_le hHN hS.size) (KW.below hS h1N) hm9).mono ?_
          rintro e w' ⟨rfl, hb⟩
          exact hK _ _ (hS.trans (hb.mono hS.size)) (Grow.below hb) rfl
        · intro a w K hS hB hR hK
          rw [if_pos (wanted_none rfl)]
          have h0 := tmp_is (hB.1)
          go_simp
          exact hK (.slice A1 n1 c1) w hS (Grow.refl w) rfl
        · intro a w K hS hB hR hK
          rw [if_pos (wanted_none rfl)]
          have h0 := tmp_is (hB.1)
          go_simp
          exact hK (.slice A1 n1 c1) w hS (Grow.refl w) rfl
        · intro a w K hS hB hR hK
          rw [if_pos (wanted_none rfl)]
          have h46 := tmp_is (hR.1)
          go_simp
          exact hK (.int .i64 n1) w hS (Grow.refl w) rfl
        · intro a w K hS hB hR hK
          rw [if_pos (wanted_none rfl)]
          have h6 := tmp_is (hB.2.2.1)
          go_simp
          exact hK (.slice AL' L' cL') w hS (Grow.refl w) rfl
        · intro a w K hS hB hR hK
          rw [if_pos (wanted_none rfl)]
          have h48 := tmp_is (hR.1)
          go_simp
          exact hK (.int .i64 L') w hS (Grow.refl w) rfl
        · intro a w K hS hB hR hK
          rw [if_pos (wanted_none rfl)]
          have h47 := tmp_is (hR.1)
          have h49 := tmp_is (hR.2.1)
          go_simp
          exact hK (.int .i64 m) w hS (Grow.refl w) rfl
        · intro a w K hS hB hR hK
          rw [if_pos (wanted_none rfl)]
          have h45 := tmp_is (hR.1)
          have h50 := tmp_is (hR.2.1)
          go_simp
          exact hK (.slice A1 m c1) w hS (Grow.refl w) rfl
        · intro a w K hS hB hR hK
          rw [if_pos (wanted_none rfl)]
          have h51 := tmp_is (hR.1)
          go_simp
          exact hK (.slice (some ⟨w.heap.size, 0, none⟩) 1 1) _ (hS.trans ((alloc_below w _).mono hS.size)) (Grow.below (alloc_below w _)) ⟨w.heap.size, rfl, by rw [alloc_size]; exact pc_one w _ m c1 _ (bs1 w hS) hmc _ _⟩
        · intro a w K hS hB hR hK
          rw [if_pos (wanted_none rfl)]
          obtain ⟨b, e1, hb1⟩ := hR.1
          have e1 := tmp_is e1
          go_simp
          refine (sum_at D (l1.take m) hD _ _ _ w [l1.take m] hb1 (by simp) (KW.below hS h1N) (by omega) hm9).mono ?_
          rintro e w' ⟨rfl, hb⟩
          exact hK _ _ (hS.trans (hb.mono hS.size)) (Grow.below hb) rfl
        · intro a w K hS hB hR hK
          rw [if_pos (wanted_none rfl)]
          have h44 := tmp_is (hR.1)
          have h53 := tmp_is (hR.2.1)
          have hq := run_eq32 w D D hDl hDl
          have hg := guard32
          go_simp
          exact hK (.bool false) w hS (Grow.refl w) rfl
      case fin =>
        intro a w' HS ha hR
        have h0 : a.eval (.tmp 54) = .bool false := deps_mem _ hR 11 (by decide)
        clear hR
        simp only [pin] at ha
        rw [ha]
        simp only [List.setIfInBounds_toArray, List.set_cons_zero, List.set_cons_succ, h0]
        clear ha h0
        generalize a.eval (.tmp 43) = v43
        generalize a.eval (.tmp 44) = v44
        generalize a.eval (.tmp 45) = v45
        generalize a.eval (.tmp 46) = v46
        generalize a.eval (.tmp 47) = v47
        generalize a.eval (.tmp 48) = v48
        generalize a.eval (.tmp 49) = v49
        generalize a.eval (.tmp 50) = v50
        generalize a.eval (.tmp 51) = v51
        generalize a.eval (.tmp 52) = v52
        generalize a.eval (.tmp 53) = v53
        clear a hk ha hz
        go_wp2
        go_roundw
        case rel => exact ⟨j + 1, m, L', cL', AL', by omega, Lib.hid ⟨by omega, hcc⟩, by go_num, rfl, hbl', hash_below HW HS hHN, KW.below HS h1N, BW.trans (HS.mono BW.size), Nat.le_trans sW HS.size⟩
        case measure => simp [intOf]; omega
    · obtain rfl : j = n2 := by omega
      have hp1 := hLp.out.1
      have hll := hl1.out
      go_wp2_with fail
      refine (clone_any wr H _ Hr).mono ?_
      rintro e u4 ⟨rfl, C4, hb, s4⟩
      replace s4 := Nat.le_of_eq s4.symm
      have H4 := hash_below Hr hb (by omega)
      have K4 := Kr.below hb (by omega)
      have B4 := Br.trans (hb.mono (by omega))
      generalize hC : wr.heap.size = C at *
      clear Hr Kr Br hb
      go_wp2_with fail
      refine (write_lit C 1 _ (l1.take p) [1] u4 _ _ (by rfl) rfl C4 (by omega) (by omega) K4 (by decide) (by rw [List.length_take]; omega) rfl).mono ?_
      rintro e u5 ⟨rfl, C5, O5⟩
      have H5 := hash_only H4 O5 (by omega) (by omega)
      have K5 := K4.only O5 (by omega) (by omega)
      have B5 := B4.trans (O5.toBelow (by omega) (by omega))
      have s5 := O5.size
      clear C4 H4 K4 B4 O5
      go_wp2_with fail
      refine (write_any H (l1.take p) (l1.drop p) AL L cL u5 w.heap.size H5 (hbl.below B5) (fun h => hbl.off h (by omega)) (by omega) (by omega) (by omega) (by omega) (by omega) K5.2 (by omega) (by rw [List.length_take]; omega)).mono ?_
      rintro e u6 ⟨rfl, H6, O6⟩
      rw [List.take_append_drop] at H6
      have C6 := hash_only C5 O6 (by omega) (by omega)
      have K6 := K5.only O6 (by omega) (by omega)
      have B6 := B5.trans (O6.toBelow (by omega) (by omega))
      have s6 := O6.size
      clear C5 H5 K5 B5 O6
      obtain ⟨D, hD, hDl⟩ : ∃ D, shaOf l1 = D ∧ D.length = 32 := ⟨_, rfl, shaOf_length _⟩
      go_wp2_with fail
      refine (hsum_at D u6 H l1 hD H6 (by omega) K6 (by omega)).mono ?_
      rintro e u7 ⟨rfl, hb⟩
      have H7 := hash_below H6 hb (by omega)
      have C7 := hash_below C6 hb (by omega)
      have K7 := K6.below hb (by omega)
      have B7 := B6.trans (hb.mono (by omega))
      have s7 := hb.size
      clear H6 C6 K6 B6 hb
      go_wp2_with fail
      refine (sum_at D l1 hD _ _ _ (u7.alloc _) [l1] (by rw [alloc_size]; exact pc_one u7 A1 n1 c1 l1 (hb1.below B7).lt hc1 _ _) (by simp) (K7.below (alloc_below u7 _) (by omega)) (by omega) (by omega)).mono ?_
      rintro e u8 ⟨rfl, hb⟩
      have hb' := (alloc_below u7 _).trans (hb.mono (Nat.le_of_lt (by rw [alloc_size]; exact Nat.lt_succ_self _)))
      have H8 := hash_below H7 hb' (by omega)
      have C8 := hash_below C7 hb' (by omega)
      have B8 := B7.trans (hb'.mono (by omega))
      clear H7 C7 K7 B7 hb hb'
      have hq := run_eq32 u8 D D hDl hDl
      have hg := guard32
      go_wp2_with fail
      refine (len_any u8 H l1 H8).mono ?_
      rintro e u9 ⟨rfl, rfl⟩
      rw [hll]
      go_wp2_with fail
      refine (len_any u8 C _ C8).mono ?_
      rintro e u9 ⟨rfl, rfl⟩
      have hcl : (l1.take p ++ [1]).length = p + 1 := by rw [List.length_append, List.length_take, List.length_singleton]; omega
      rw [hcl]
      have hsub : (n1 : Int) - (L : Int) = (p : Int) := by omega
      go_wp2
      go_ret
      exact ⟨rfl, B8⟩
set_option maxRecDepth 100000 in
theorem pieces_law (A1 A2 : Option Addr) (n1 n2 c1 c2 : Nat) (l1 : List UInt8) (w : World) (hb1 : Bs w w.heap.size A1 n1 l1) (hi2 : Is w A2 n2) (hc1 : n1 ≤ c1) (hm1 : c1 ≤ maxLen) (hK : Ks w) :
    Calls Tryd.prog 6 #[.slice A1 n1 c1, .slice A2 n2 c2] w fun e w' => e = .returned (.bool true) ∧ Below w.heap.size w w' := by
  by_cases h1 : n1 ≤ 2000
  · by_cases h2 : n2 ≤ 20
    · exact pieces_small A1 A2 n1 n2 c1 c2 l1 w hb1 hi2 hc1 hm1 hK h1 h2
    · go_enter Tryd.func6, Tryd.ntmps6
      go_wp2_with fail
      refine (alive_any w hK).mono ?_
      rintro e w1 ⟨rfl, B1⟩
      go_wp2
      go_ret
      exact ⟨rfl, B1⟩
  · go_enter Tryd.func6, Tryd.ntmps6
    go_wp2_with fail
    refine (alive_any w hK).mono ?_
    rintro e w1 ⟨rfl, B1⟩
    go_wp2
    go_ret
    exact ⟨rfl, B1⟩
end Go.Proofs.YthdnlcllcdcjhaaDoor
