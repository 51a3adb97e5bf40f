/-
  ImageTurns: with bits turned a head is not read.
-/
import Derived.Test.YtiieianbmldnbaaDoorImgAlive
import Derived.Test.YtiieianbmldnbaaDoorImgRound
import Derived.Test.YtiieianbmldnbaaDoorCrcTurn
namespace Go.Proofs.YtiieianbmldnbaaDoor
open Go.RowKit
set_option maxRecDepth 100000
theorem and1023 (x : Int) : bits .and .i64 x 1023 = x % 1024 := by
  show IntKind.i64.wrap ((BitVec.ofInt 64 x &&& BitVec.ofInt 64 1023).toNat : Int) = x % 1024
  rw [BitVec.toNat_and, show (BitVec.ofInt 64 1023).toNat = 2 ^ 10 - 1 from rfl, Nat.and_two_pow_sub_one_eq_mod, BitVec.toNat_ofInt, IntWalk.i64_in _ (by omega)]
  omega
theorem at480 (x : Int) : ∃ a : Nat, a < 480 ∧ (bits .and .i64 x 1023).tmod 480 = (a : Int) := by
  rw [and1023, Int.tmod_eq_emod_of_nonneg (by omega)]
  exact ⟨(x % 1024 % 480).toNat, by omega, by omega⟩
theorem mask16 (y : Int) : ∃ m : BitVec 32, bits .and .u32 y 65535 = (m.toNat : Int) ∧ ∀ k, 16 ≤ k → m.getLsbD k = false := by
  refine ⟨BitVec.ofInt 32 y &&& BitVec.ofInt 32 65535, by rw [and32], fun k hk => ?_⟩
  rw [BitVec.getLsbD_and]
  have : (BitVec.ofInt 32 65535).getLsbD k = false := by
    rw [← BitVec.testBit_toNat, show (BitVec.ofInt 32 65535).toNat = 2 ^ 16 - 1 from rfl, Nat.testBit_two_pow_sub_one]
    simp; omega
  rw [this, Bool.and_false]
/-- Bits turned ahead of a tail. -/
theorem turn_tail (a : Nat) (m : BitVec 32) (l r : List UInt8) (hm : ∀ k, 16 ≤ k → m.getLsbD k = false) (ha : a + 16 ≤ 8 * l.length) : ∀ k, turnN a m (l ++ r) k = turnN a m l k ++ r
  | 0 => rfl
  | k + 1 => by
    have ih := turn_tail a m l r hm ha k
    have hlen := turnN_length a m l k
    by_cases hk : m.getLsbD k = true
    · have hk16 : k < 16 := by
        rcases Nat.lt_or_ge k 16 with h | h
        · exact h
        · rw [hm k h] at hk; cases hk
      have h1 : a + k < 8 * l.length := by omega
      have h2 : a + k < 8 * (l ++ r).length := by rw [List.length_append]; omega
      have hi : (a + k) / 8 < (turnN a m l k).length := by omega
      rw [turnN, if_pos ⟨hk, h2⟩, turnN, if_pos ⟨hk, h1⟩, ih, List.set_append, if_pos hi]
      congr 2
      rw [List.getD_eq_getElem?_getD, List.getD_eq_getElem?_getD, List.getElem?_append_left hi]
    · rw [turnN, if_neg (fun h => hk h.1), turnN, if_neg (fun h => hk h.1), ih]
theorem sums_same (a : Nat) (m : BitVec 32) (l : List UInt8) (h : a < 8 * l.length) : sum (turnN a m l 32) = sum l ↔ turnN a m l 32 = l := by
  rw [sum_eq, sum_eq, ← turn_iff a m ones l h]
  exact BitVec.not_inj
/-- A head with bits turned is read just if none was. -/
theorem turned_read {v sz : Int} {nm d : List UInt8} (hn : named nm = true) (hv0 : 0 ≤ v) (hv1 : v < 4294967296) (hz0 : 0 ≤ sz) (hz1 : sz ≤ 1048576) (hd : d.length = 32) (a : Nat) (ha : a ≤ 464) (m : BitVec 32) (hm : ∀ k, 16 ≤ k → m.getLsbD k = false) :
    readErr (turnN a m (headOf v sz nm d) 32) = 0 ↔ turnN a m (headOf v sz nm d) 32 = headOf v sz nm d := by
  have hl := rawOf_length (v := v) (sz := sz) (named_le hn) hd
  constructor
  · intro h
    obtain ⟨_, _, t, ho, _⟩ := readErr_ok h
    have ht : turnN a m (headOf v sz nm d) 32 = turnN a m (rawOf v sz nm d) 32 ++ p32 ((sum (rawOf v sz nm d)).toNat : Int) := by
      unfold headOf seals
      exact turn_tail a m _ _ hm (by omega) 32
    have hl2 := turnN_length a m (rawOf v sz nm d) 32
    have h64 : (turnN a m (headOf v sz nm d) 32).length = 64 := by rw [turnN_length, headOf_length (named_le hn) hd]
    rw [List.take_of_length_le (by omega)] at ho
    unfold opens at ho
    rw [if_neg (by omega), h64] at ho
    split at ho
    · rename_i hs
      rw [ht, show 64 - 4 = (turnN a m (rawOf v sz nm d) 32).length by omega, List.drop_left, List.take_left, ← List.append_nil (p32 _), g32_p32 _ (by omega) (word_lt _)] at hs
      have hs' : sum (turnN a m (rawOf v sz nm d) 32) = sum (rawOf v sz nm d) := BitVec.eq_of_toNat_eq (by
        have : ((sum (rawOf v sz nm d)).toNat : Int) = ((sum (turnN a m (rawOf v sz nm d) 32)).toNat : Int) := hs
        omega)
      rw [ht, (sums_same a m _ (by omega)).1 hs']
      rfl
    · cases ho
  · intro h
    rw [h]
    have := (read_head hn hv0 hv1 hz0 hz1 hd []).1
    rwa [List.append_nil] at this
set_option maxHeartbeats 4000000 in
theorem iturns_law (v sz : Int) (nm : ByteArray) (d : List UInt8) (x y : Int) (w : World) (hd : d.length = 32) (hv0 : 0 ≤ v) (hv1 : v < 4294967296) (hK : Ks w) :
    Calls Tryd.prog 6 #[.agg (Hv v sz nm d).toArray, .int .i64 x, .int .u32 y] w fun e w' => e = .returned (.bool true) ∧ Below w.heap.size w w' := by
  obtain ⟨W, hW⟩ : ∃ W, W = w.alloc (.cells (Hv v sz nm d).toArray 25) := ⟨_, rfl⟩
  have hH : HdAt W w.heap.size v sz nm d := hW ▸ HdAt.new_ w 25 v sz nm d hd
  have hB : Below w.heap.size w W := hW ▸ alloc_below w _
  have hKW := hK.below hB hK.1
  obtain ⟨a, ha, hat⟩ := at480 x
  obtain ⟨m, hmk, hm⟩ := mask16 y
  have hai : (a : Int) < 480 := by omega
  go_enter Tryd.func6, Tryd.ntmps6
  go_wp2_with (refine Great.wpList_boxTo rfl 25 _ rfl (some 3) rfl w.heap.size rfl (Hv v sz nm d).toArray rfl ?_; rw [← hW]; clear hW)
  refine (alive_any W hKW).mono ?_
  rintro e w1 ⟨rfl, b1⟩
  have B1 := hB.trans (b1.mono hB.size)
  have H1 := hH.below b1 hH.lt
  clear hH hB hKW b1
  go_wp2_with (refine wpList_load_mid rfl 25 (.tmp 3) rfl w.heap.size 0 rfl (Hv v sz nm d) _ H1.range Tryd.underlying25 rfl (by rw [size25h, Hv_length hd]) ?_)
  cases hr : rightH sz nm with
  | false =>
    refine (write_no w1 v sz nm d hd hr).mono ?_
    rintro e w2 ⟨rfl, b2⟩
    have B2 := B1.trans (b2.mono B1.size)
    have H2 := H1.below b2 H1.lt
    clear H1 b2 hat hmk hm
    go_wp2_with (refine wpList_load_wanted (by rfl) 25 (.tmp 3) rfl w.heap.size 0 rfl (Hv v sz nm d) _ H2.range Tryd.underlying25 rfl (by rw [size25h, Hv_length hd]) ?_)
    refine (right_any w2 v sz nm d hd).mono ?_
    rintro e w3 ⟨rfl, b3⟩
    rw [hr]
    go_wp2
    go_ret
    exact ⟨rfl, B2.trans (b3.mono B2.size)⟩
  | true =>
    have hnr : named nm.data.toList = true ∧ 0 ≤ sz ∧ sz ≤ 1048576 := by
      unfold rightH at hr
      simp only [Bool.and_eq_true, decide_eq_true_eq] at hr
      exact hr
    have hl64 := headOf_length (v := v) (sz := sz) (named_le hnr.1) hd
    have hti := fun h464 => turned_read (v := v) (sz := sz) (d := d) hnr.1 hv0 hv1 hnr.2.1 hnr.2.2 hd a h464 m hm
    have htl := turnN_length a m (headOf v sz nm.data.toList d) 32
    refine (write_yes w1 v sz nm d hd hv0 hv1 hr).mono ?_
    rintro e w2 ⟨x2, rfl, ho2, b2⟩
    have B2 := B1.trans (b2.mono B1.size)
    generalize headOf v sz nm.data.toList d = h at *
    obtain ⟨A2, c2, rfl, hc2, hb2, _⟩ := own_open ho2
    clear ho2 H1 b2 hnr hm hK
    go_wp2_with fail
    refine (crcturn_any A2 64 c2 a m h w2 _ hb2 (Nat.le_refl _) (by omega) (by omega)).mono ?_
    intro e w3 hret
    rw [hl64] at htl
    obtain ⟨A3, N3, c3, rfl, hc3, hN3, hb3, b3⟩ := hret.slice_
    have hN64 : N3 = 64 := by rw [hN3.out, htl]
    subst hN64
    have B3 := B2.trans (b3.mono B2.size)
    have hb23 := (hb2.below b3).more b3.size
    clear hret hb2 b3 hN3
    generalize turnN a m h 32 = tn at *
    by_cases h464 : (464 : Int) < a
    · go_wp2
      go_ret
      exact ⟨rfl, B3⟩
    · have hti2 := hti (by omega)
      have hd3 := readOf_d tn
      clear hti hmk
      have hrd := read_any A3 64 c3 tn w3 _ hb3 (Nat.le_refl _) hc3
      unfold Hd.val at hrd
      generalize readOf tn = P at hrd hd3
      obtain ⟨v', sz', nm', d'⟩ := P
      simp only at hrd hd3
      have hvs := Hv_size (v := v') (sz := sz') (nm := ⟨nm'.toArray⟩) hd3
      go_wp2_with fail
      refine hrd.mono ?_
      rintro e w4 ⟨rfl, b4⟩
      have B4 := B3.trans (b4.mono B3.size)
      have hb34 := (hb3.below b4).more b4.size
      have hb24 := (hb23.below b4).more b4.size
      clear hrd hb3 hb23 b4
      go_wp2_with (first
        | (refine wpList_store_mid rfl 25 (.tmp 10) (.tmp 42) rfl w4.heap.size 0 (Hv v' sz' ⟨nm'.toArray⟩ d').toArray rfl rfl (by rw [hvs]; exact z35_there w4 _) (by rw [size25h, hvs]) (all_oneCell_toArray (Hv_one _ _ _ _)) ?_
           refine gen_world (F := fun W => wpList Tryd.prog _ _ _ _ W) (fun W => HdAt W w4.heap.size v' sz' ⟨nm'.toArray⟩ d' ∧ Below w4.heap.size w4 W) (hd_stored w4 v' sz' ⟨nm'.toArray⟩ d' hd3) ?_
           rintro w5 ⟨_, b5⟩)
        | fail)
      have B5 := B4.trans (b5.mono B4.size)
      have hb35 := (hb34.below b5).more b5.size
      have hb25 := (hb24.below b5).more b5.size
      refine (same_any A3 A2 64 c3 64 c2 tn h w5 _ _ hb35 hb25 (by omega) (by omega)).mono ?_
      rintro e w6 ⟨rfl, m6, rfl⟩
      have B6 := B5.trans (drewN_below w5 w.heap.size m6)
      have hfin : (((readErr tn : Nat) : Int) == 0) = decide (tn = h) := by
        rw [Bool.eq_iff_iff, beq_iff_eq, decide_eq_true_eq, ← hti2]
        omega
      generalize decide (tn = h) = q at *
      clear hti2
      go_wp2
      go_ret
      exact ⟨by cases q <;> rfl, B6⟩
end Go.Proofs.YtiieianbmldnbaaDoor
