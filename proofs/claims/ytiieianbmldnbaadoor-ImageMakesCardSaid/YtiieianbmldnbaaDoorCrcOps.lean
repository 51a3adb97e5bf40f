/-
  The sums, sealed and opened bytes, joined bytes, turned bits: one contract each.
-/
import Derived.Test.YtiieianbmldnbaaDoorCrcNums
import Derived.Test.YtiieianbmldnbaaDoorShaSched
namespace Go.Proofs.YtiieianbmldnbaaDoor
open Go.RowKit
set_option maxRecDepth 100000
/-- The sum of bytes. -/
def sum (l : List UInt8) : BitVec 32 := ext 0#32 l
def ones : BitVec 32 := BitVec.allOnes 32
theorem sum_eq (l : List UInt8) : sum l = ~~~ crcOf ones l := by unfold sum ext; rfl
set_option maxHeartbeats 400000 in
theorem sum_any (A : Option Addr) (n c : Nat) (l : List UInt8) (w : World) (B : Nat) (hbs : Bs w B A n l) (hn : (n : Int) ≤ 9223372036854775807) :
    Calls Tryd.prog 41 #[.slice A n c] w fun e w' => e = .returned (.int .u32 ((sum l).toNat : Int)) ∧ w = w' := by
  go_enter Tryd.func41, Tryd.ntmps41
  go_wp2_with fail
  refine (extend_any 0#32 A n c l w B hbs hn).mono ?_
  rintro e w1 ⟨rfl, rfl⟩
  go_wp2
  go_ret
  exact ⟨rfl, rfl⟩
/-- The reference's round. -/
theorem rb_walk_ne (x : BitVec 32) (b : Bool) (h : b ≠ x.getLsbD 0) : bits .xor .u32 ((x.toNat : Int) / 2) 3988292384 = ((rb x b).toNat : Int) := by
  unfold rb
  rw [if_pos (by simpa using h), half32, xor32, of32]; rfl
theorem rb_walk_eq (x : BitVec 32) (b : Bool) (h : b = x.getLsbD 0) : ((x.toNat : Int) / 2) = ((rb x b).toNat : Int) := by
  unfold rb
  rw [if_neg (by simpa using h), half32]
theorem low_walk (x : BitVec 32) : bits .and .u32 (x.toNat : Int) 1 = if x.getLsbD 0 then 1 else 0 := by
  rw [and32, of32, BitVec.toNat_and, show (BitVec.ofInt 32 1).toNat = 2 ^ 1 - 1 from rfl, Nat.and_two_pow_sub_one_eq_mod, ← BitVec.testBit_toNat, Nat.testBit_zero]
  by_cases h : x.toNat % 2 = 1 <;> simp [h] <;> omega
theorem bit_walk (u : UInt8) (k : Nat) : bits .and .u32 ((u.toNat : Int) / (2 : Int) ^ k % 4294967296) 1 = if u.toNat.testBit k then 1 else 0 := by
  have hu := u.toNat_lt
  have h0 : u.toNat / 2 ^ k ≤ u.toNat := Nat.div_le_self _ _
  rw [show ((u.toNat : Int) / (2 : Int) ^ k) = ((u.toNat / 2 ^ k : Nat) : Int) by simp, and32, ofMod32, BitVec.toNat_and, show (BitVec.ofInt 32 1).toNat = 2 ^ 1 - 1 from rfl, Nat.and_two_pow_sub_one_eq_mod, BitVec.ofInt_natCast, BitVec.toNat_ofNat, Nat.testBit_eq_decide_div_mod_eq]
  generalize u.toNat / 2 ^ k = q at *
  rw [Nat.mod_eq_of_lt (show q < 2 ^ 32 by omega)]
  by_cases h : q % 2 = 1
  · simp [h]
  · simp [h]; omega
theorem test_walk (u : UInt8) (k : Nat) (x : BitVec 32) : (bits .and .u32 ((u.toNat : Int) / (2 : Int) ^ k % 4294967296) 1 != bits .and .u32 (x.toNat : Int) 1) = (u.toNat.testBit k != x.getLsbD 0) := by
  rw [bit_walk, low_walk]
  cases u.toNat.testBit k <;> cases x.getLsbD 0 <;> rfl
theorem take_crc' {l : List UInt8} {k : Nat} {u : UInt8} (r : BitVec 32) (h : l[k]? = some u) : crcOf r (l.take (k + 1)) = rbN 8 (crcOf r (l.take k)) u := by
  rw [take_crc r h, ← byte1_bits]; rfl
set_option maxHeartbeats 400000 in
theorem rsum_any (A : Option Addr) (n c : Nat) (l : List UInt8) (w : World) (B : Nat) (hbs : Bs w B A n l) (hn : (n : Int) ≤ 9223372036854775807) :
    Calls Tryd.prog 42 #[.slice A n c] w fun e w' => e = .returned (.int .u32 ((sum l).toNat : Int)) ∧ w = w' := by
  have hlen := Lib.hid hbs.len
  go_enter Tryd.func42, Tryd.ntmps42
  go_wp2
  go_loop [3, 4] (fun r i => ∃ k : Nat, k ≤ n ∧ i = .int .i64 k ∧ r = .int .u32 ((crcOf ones (l.take k)).toNat : Int)) (fun _ i => n - (intOf i).toNat)
  case atStart => exact ⟨0, by omega, rfl, rfl⟩
  case round =>
    obtain ⟨k, hk, rfl, rfl⟩ := hrel
    by_cases hlt : k < n
    · obtain ⟨b, off, rfl, hb, hc⟩ := hbs.place (by omega)
      obtain ⟨u, hu⟩ := byte_get (l := l) (k := k) (by rw [hlen.out]; omega)
      have hck := hc k u hu
      clear hc
      have Hs := Lib.hid (take_crc' ones hu); clear hu
      go_wp2
      go_loop [3, 5] (fun r i => ∃ j : Nat, j ≤ 8 ∧ i = .int .i64 j ∧ r = .int .u32 ((rbN j (crcOf ones (l.take k)) u).toNat : Int)) (fun _ i => 8 - (intOf i).toNat)
      case atStart => exact ⟨0, by omega, rfl, rfl⟩
      case round =>
        obtain ⟨j, hj, rfl, rfl⟩ := hrel
        by_cases hlt : j < 8
        · have Ht := Lib.hid (test_walk u j (rbN j (crcOf ones (l.take k)) u))
          by_cases hb : u.toNat.testBit j = (rbN j (crcOf ones (l.take k)) u).getLsbD 0
          · have ht := Ht.out.trans (bne_eq_false_iff_eq.2 hb)
            have Hb := Lib.hid hb; clear hb
            go_wp2
            go_round
            case rel => exact ⟨j + 1, by omega, by go_num, int32 (rb_walk_eq _ _ Hb.out)⟩
            case measure => simp [intOf]; omega
          · have ht := Ht.out.trans (bne_iff_ne.2 hb)
            have Hb := Lib.hid hb; clear hb
            go_wp2
            go_round
            case rel => exact ⟨j + 1, by omega, by go_num, int32 (rb_walk_ne _ _ Hb.out)⟩
            case measure => simp [intOf]; omega
        · go_wp2
          go_round
          case rel => exact ⟨k + 1, by omega, by go_num, int32 (by rw [Hs.out, show j = 8 by omega])⟩
          case measure => simp [intOf]; omega
    · go_wp2
      go_ret
      exact ⟨ret32 (by rw [List.take_of_length_le (by rw [hlen.out]; omega), sum_eq, xor32, of32, show BitVec.ofInt 32 4294967295 = BitVec.allOnes 32 from rfl, BitVec.xor_allOnes]), rfl⟩

/-- Bytes with their sum behind. -/
def seals (l : List UInt8) : List UInt8 := l ++ p32 ((sum l).toNat : Int)
set_option maxHeartbeats 400000 in
theorem seal_any (A : Option Addr) (n c : Nat) (l : List UInt8) (w : World) (B : Nat) (hbs : Bs w B A n l) (hB : B ≤ w.heap.size) (hn : (n : Int) ≤ 65536) :
    Calls Tryd.prog 26 #[.slice A n c] w (RetOwn 5 (seals l) w) := by
  go_enter Tryd.func26, Tryd.ntmps26
  go_wp2_with fail
  refine (sum_any A n c l w B hbs (by omega)).mono ?_
  rintro e w1 ⟨rfl, rfl⟩
  go_wp2_with fail
  refine (put32_any A n c _ l w B hbs hB hn (by omega) (word_lt _)).mono ?_
  rintro e w1 ⟨v, rfl, h1, h2⟩
  go_wp2
  go_ret
  exact ⟨v, rfl, h1, h2⟩
set_option maxHeartbeats 400000 in
theorem rseal_any (A : Option Addr) (n c : Nat) (l : List UInt8) (w : World) (B : Nat) (hbs : Bs w B A n l) (hB : B ≤ w.heap.size) (hn : (n : Int) ≤ 65536) :
    Calls Tryd.prog 28 #[.slice A n c] w (RetOwn 5 (seals l) w) := by
  go_enter Tryd.func28, Tryd.ntmps28
  go_wp2_with fail
  refine (rsum_any A n c l w B hbs (by omega)).mono ?_
  rintro e w1 ⟨rfl, rfl⟩
  go_wp2_with fail
  refine (rput32_any A n c _ l w B hbs hB hn (by omega) (word_lt _)).mono ?_
  rintro e w1 ⟨v, rfl, h1, h2⟩
  go_wp2
  go_ret
  exact ⟨v, rfl, h1, h2⟩
/-- What stands ahead of its sum. -/
def opens (l : List UInt8) : Option (List UInt8) :=
  if l.length < 4 then none else if (g32 (l.drop (l.length - 4))).1 = ((sum (l.take (l.length - 4))).toNat : Int) then some (l.take (l.length - 4)) else none
def RetOpen (l : List UInt8) (w : World) (e : Ending) (w' : World) : Prop :=
  ∃ A n c, e = .returned (.tuple #[.slice A n c, .bool (opens l).isSome]) ∧ n ≤ c ∧ Bs w' w'.heap.size A n ((opens l).getD []) ∧ Below w.heap.size w w'
set_option maxHeartbeats 400000 in
theorem open_any (A : Option Addr) (n c : Nat) (l : List UInt8) (w : World) (B : Nat) (hbs : Bs w B A n l) (hB : B ≤ w.heap.size) (hn : (n : Int) ≤ 65536) (hc : n ≤ c) :
    Calls Tryd.prog 30 #[.slice A n c] w (RetOpen l w) := by
  have hlen := Lib.hid hbs.len
  by_cases h4 : n < 4
  · go_enter Tryd.func30, Tryd.ntmps30
    go_wp2
    go_ret2
    refine ⟨none, 0, 0, ret2 rfl ?_, Nat.le_refl _, ?_, Below.refl _ _⟩
    all_goals unfold opens; rw [if_pos (by rw [hlen.out]; exact h4)]
    · rfl
    · exact Bs.empty _ _ _
  · obtain ⟨b, off, rfl, hb, _⟩ := hbs.place (by omega)
    by_cases he : (g32 (l.drop (n - 4))).1 = ((sum (l.take (n - 4))).toNat : Int)
    · have ht : ((g32 (l.drop (n - 4))).1 != ((sum (l.take (n - 4))).toNat : Int)) = false := bne_eq_false_iff_eq.2 he
      have ho : Hid (opens l = some (l.take (n - 4))) := by unfold opens; rw [hlen.out, if_neg h4, if_pos he]; rfl
      clear he
      go_enter Tryd.func30, Tryd.ntmps30
      go_wp2_with fail
      refine (get32_any _ _ _ (l.drop (n - 4)) w B (hbs.drop_ (n - 4))).mono ?_
      rintro e w1 ⟨rfl, m, rfl⟩
      go_wp2_with fail
      refine (sum_any _ _ _ (l.take (n - 4)) _ B ((hbs.take_ (n - 4) (by omega)).drewN m) (by omega)).mono ?_
      rintro e w1 ⟨rfl, rfl⟩
      go_wp2_with fail
      refine (withRoom_any _ _ _ 0 (l.take (n - 4)) _ B ((hbs.take_ (n - 4) (by omega)).drewN m) hB (by omega) (by omega)).mono ?_
      intro e w1 hret
      obtain ⟨A', N, c', rfl, hc', hN, hbs', h2⟩ := hret.slice_
      clear hret
      go_wp2
      go_ret2
      rw [RetOpen, ho.out]
      exact ⟨_, _, _, ret2 rfl rfl, hc', hbs', (drewN_below w _ m).trans h2⟩
    · have ht : ((g32 (l.drop (n - 4))).1 != ((sum (l.take (n - 4))).toNat : Int)) = true := bne_iff_ne.2 he
      have ho : Hid (opens l = none) := by unfold opens; rw [hlen.out, if_neg h4, if_neg he]; rfl
      clear he
      go_enter Tryd.func30, Tryd.ntmps30
      go_wp2_with fail
      refine (get32_any _ _ _ (l.drop (n - 4)) w B (hbs.drop_ (n - 4))).mono ?_
      rintro e w1 ⟨rfl, m, rfl⟩
      go_wp2_with fail
      refine (sum_any _ _ _ (l.take (n - 4)) _ B ((hbs.take_ (n - 4) (by omega)).drewN m) (by omega)).mono ?_
      rintro e w1 ⟨rfl, rfl⟩
      go_wp2
      go_ret2
      rw [RetOpen, ho.out]
      exact ⟨_, _, _, ret2 rfl rfl, Nat.le_refl _, Bs.empty _ _ _, drewN_below w _ m⟩
set_option maxHeartbeats 400000 in
theorem ropen_any (A : Option Addr) (n c : Nat) (l : List UInt8) (w : World) (B : Nat) (hbs : Bs w B A n l) (hB : B ≤ w.heap.size) (hn : (n : Int) ≤ 65536) (hc : n ≤ c) :
    Calls Tryd.prog 33 #[.slice A n c] w (RetOpen l w) := by
  have hlen := Lib.hid hbs.len
  by_cases h4 : n < 4
  · go_enter Tryd.func33, Tryd.ntmps33
    go_wp2
    go_ret2
    refine ⟨none, 0, 0, ret2 rfl ?_, Nat.le_refl _, ?_, Below.refl _ _⟩
    all_goals unfold opens; rw [if_pos (by rw [hlen.out]; exact h4)]
    · rfl
    · exact Bs.empty _ _ _
  · obtain ⟨b, off, rfl, hb, _⟩ := hbs.place (by omega)
    by_cases he : (g32 (l.drop (n - 4))).1 = ((sum (l.take (n - 4))).toNat : Int)
    · have ht : ((g32 (l.drop (n - 4))).1 != ((sum (l.take (n - 4))).toNat : Int)) = false := bne_eq_false_iff_eq.2 he
      have ho : Hid (opens l = some (l.take (n - 4))) := by unfold opens; rw [hlen.out, if_neg h4, if_pos he]; rfl
      clear he
      go_enter Tryd.func33, Tryd.ntmps33
      go_wp2_with fail
      refine (rget32_any _ _ _ (l.drop (n - 4)) w B (hbs.drop_ (n - 4))).mono ?_
      rintro e w1 ⟨rfl, m, rfl⟩
      go_wp2_with fail
      refine (rsum_any _ _ _ (l.take (n - 4)) _ B ((hbs.take_ (n - 4) (by omega)).drewN m) (by omega)).mono ?_
      rintro e w1 ⟨rfl, rfl⟩
      go_wp2_with fail
      refine (rcopy_any _ _ _ (l.take (n - 4)) _ B ((hbs.take_ (n - 4) (by omega)).drewN m) hB (by omega)).mono ?_
      intro e w1 hret
      obtain ⟨A', N, c', rfl, hc', hN, hbs', h2⟩ := hret.slice_
      clear hret
      go_wp2
      go_ret2
      rw [RetOpen, ho.out]
      exact ⟨_, _, _, ret2 rfl rfl, hc', hbs', (drewN_below w _ m).trans h2⟩
    · have ht : ((g32 (l.drop (n - 4))).1 != ((sum (l.take (n - 4))).toNat : Int)) = true := bne_iff_ne.2 he
      have ho : Hid (opens l = none) := by unfold opens; rw [hlen.out, if_neg h4, if_neg he]; rfl
      clear he
      go_enter Tryd.func33, Tryd.ntmps33
      go_wp2_with fail
      refine (rget32_any _ _ _ (l.drop (n - 4)) w B (hbs.drop_ (n - 4))).mono ?_
      rintro e w1 ⟨rfl, m, rfl⟩
      go_wp2_with fail
      refine (rsum_any _ _ _ (l.take (n - 4)) _ B ((hbs.take_ (n - 4) (by omega)).drewN m) (by omega)).mono ?_
      rintro e w1 ⟨rfl, rfl⟩
      go_wp2
      go_ret2
      rw [RetOpen, ho.out]
      exact ⟨_, _, _, ret2 rfl rfl, Nat.le_refl _, Bs.empty _ _ _, drewN_below w _ m⟩
end Go.Proofs.YtiieianbmldnbaaDoor
