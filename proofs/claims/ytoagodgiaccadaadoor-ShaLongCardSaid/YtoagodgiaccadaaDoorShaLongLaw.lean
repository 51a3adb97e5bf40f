/-
  ShaLong: bytes that come again and again.
-/
import Derived.Test.YtoagodgiaccadaaDoorShaAlive
import Derived.Test.YtoagodgiaccadaaDoorShaEq
import Derived.Test.YtoagodgiaccadaaDoorShaRefSum
namespace Go.Proofs.YtoagodgiaccadaaDoor
open Go.RowKit
/-- Bytes, so many times. -/
def rep (l : List UInt8) (k : Nat) : List UInt8 := (List.replicate k l).flatten
theorem rep_succ (l : List UInt8) (k : Nat) : rep l (k + 1) = rep l k ++ l := by
  unfold rep
  rw [List.replicate_succ', List.flatten_append]
  simp
theorem rep_length (l : List UInt8) (k : Nat) : (rep l k).length = k * l.length := by
  induction k with
  | zero => simp [rep]
  | succ k ih => rw [rep_succ, List.length_append, ih, Nat.succ_mul]
theorem and15t (n : Int) : bits .and .i64 n 15 = n % 16 := by
  have h15 : (BitVec.ofInt 64 15).toNat = 2 ^ 4 - 1 := by decide
  have key : (BitVec.ofInt 64 n &&& BitVec.ofInt 64 15).toNat = (n % ((2 ^ 64 : Nat) : Int)).toNat % 2 ^ 4 := by
    rw [BitVec.toNat_and, BitVec.toNat_ofInt, h15, Nat.and_two_pow_sub_one_eq_mod]
  show IntKind.i64.wrap ((BitVec.ofInt 64 n &&& BitVec.ofInt 64 15).toNat : Nat) = n % 16
  rw [key, IntKind.wrap_i64]
  omega
theorem own_heap {w w' : World} {base n : Nat} {v : Value} {xs : List Value} (h : w.ownsRow base 5 1 v n xs) (hk : ∀ g, base ≤ g → g < w.heap.size → w'.heap[g]? = w.heap[g]?) : w'.ownsRow base 5 1 v n xs := by
  refine ⟨h.1, ?_⟩
  rcases h.2 with h' | ⟨g, cap, cur, h1, hb, hg, hr⟩
  · exact .inl h'
  · exact .inr ⟨g, cap, cur, h1, hb, (hk g hb (Array.getElem?_eq_some_iff.1 hg).1).trans hg, hr⟩
set_option maxRecDepth 100000 in
set_option maxHeartbeats 2000000 in
theorem long_small (A1 : Option Addr) (n1 c1 : Nat) (l1 : List UInt8) (times : Int) (w : World) (hb1 : Bs w w.heap.size A1 n1 l1) (hc1 : n1 ≤ c1) (hK : Ks w) (hW : w.rangeAt 0 0 (W32 KS)) (h1 : n1 ≤ 100) :
    Calls Tryd.prog 4 #[.slice A1 n1 c1, .int .i64 times] w fun e w' => e = .returned (.bool true) ∧ Below w.heap.size w w' := by
  obtain ⟨i0, hi0, hz0, hz1, hz2⟩ := info_parts info_u8
  have hw1 := hK.1
  have hl1 := Lib.hid hb1.len
  have h1i : (n1 : Int) ≤ 100 := by omega
  obtain ⟨m, hm⟩ : ∃ m : Nat, times % 16 = (m : Int) := ⟨(times % 16).toNat, by omega⟩
  have hm15 : (m : Int) ≤ 15 := by omega
  have ha : bits .and .i64 times 15 = (m : Int) := by rw [and15t, hm]
  have hmw : IntKind.i64.wrap ((m : Int) + 1) = (m : Int) + 1 := by rw [IntKind.wrap_i64]; omega
  clear hm
  go_enter Tryd.func4, Tryd.ntmps4
  go_wp2_with fail
  refine (alive_any w hK).mono ?_
  rintro e u1 ⟨rfl, B1⟩
  have K1 := hK.below B1 hw1
  have W1 := range_below hW B1 (by omega)
  have s1 := B1.size
  go_wp2_with fail
  refine (new_any u1).mono ?_
  rintro e u3 ⟨rfl, H3, hb, s3⟩
  have B3 := B1.trans (hb.mono (by omega))
  have K3 := K1.below hb (by omega)
  have W3 := range_below W1 hb (by omega)
  replace s3 := Nat.le_of_eq s3.symm
  have HH := Lib.hid s3
  generalize hH : u1.heap.size = H at *
  clear hb K1 B1 W1
  go_wp2
  go_loopw [6, 7] (fun v i wr => ∃ k N : Nat, (k : Int) ≤ (m : Int) + 1 ∧ i = .int .i64 k ∧ Hid (N = k * n1) ∧ wr.ownsRow (H + 1) 5 1 v N (U8 (rep l1 k)) ∧ HashAt wr H (rep l1 k) ∧ Ks wr ∧ wr.rangeAt 0 0 (W32 KS) ∧ Below w.heap.size w wr ∧ H + 1 ≤ wr.heap.size) (fun _ i _ => m + 1 - (intOf i).toNat)
  case atStart =>
    have hx : Below u3.heap.size u3 (u3.alloc (.cells #[] 5)) := alloc_below _ _
    refine ⟨0, 0, by omega, rfl, Lib.hid (by omega), World.ownsRow_lit u3 #[] 0 (by omega) (by simp [maxLen]) rfl, hash_below H3 hx (by omega), K3.below hx (by omega), range_below W3 hx (by omega), B3.trans (hx.mono B3.size), by rw [alloc_size]; omega⟩
  case round =>
    clear H3 K3 B3 W3
    obtain ⟨k, N, hk, rfl, hN, hown, Hr, Kr, Wr, Br, sr⟩ := hrel
    have hNi : (N : Int) ≤ 1600 := by
      have := hN.out
      have h2 : k ≤ 16 := by omega
      have := Nat.mul_le_mul h2 h1
      omega
    have hrl : (rep l1 k).length = N := by rw [rep_length, hl1.out, ← hN.out]
    by_cases hlt : (k : Int) < (m : Int) + 1
    · have HR := Lib.hid hrl
      clear hrl
      go_wp2_with fail
      refine (write_any H (rep l1 k) l1 A1 n1 c1 wr w.heap.size Hr (hb1.below Br) (fun hn a ha => ?_) (by omega) (by omega) (by omega) (by omega) (by omega) Kr.2 (by omega) (by rw [HR.out]; omega)).mono ?_
      · obtain ⟨b, o, hbo, hlt2, _⟩ := hb1.place hn
        rw [hbo] at ha
        injection ha with ha
        subst ha
        show b ≠ H
        omega
      rintro e u4 ⟨rfl, H4, O4⟩
      rw [← rep_succ] at H4
      have K4 := Kr.only O4 (by omega) (by omega)
      have W4 := O4.range Wr (by omega) (by omega)
      have B4 := Br.trans (O4.toBelow (by omega) (by omega))
      have own4 := own_heap hown (fun g hg hl => O4.block g hl (by omega))
      have s4 := O4.size
      clear Hr Kr Wr Br hown O4
      go_wp2_with (at_builtin; refine wpList_append_bs _ rfl (.tmp 25) (.tmp 26) 27 rfl (H + 1) 5 i0 Tryd.underlying27 hi0 hz0 hz1 hz2 _ N _ rfl own4 w.heap.size A1 n1 c1 l1 rfl (hb1.below B4) (by omega) (by omega) ?_; intro v' w1 hown1 hgrow)
      rw [← U8_append, ← rep_succ] at hown1
      have B5 := B4.grown hgrow (by omega) (fun g hg => by have := own_ge own4 g hg; omega)
      have B6 : Below (H + 1) u4 w1 := (Below.refl (H + 1) u4).grown hgrow (by omega) (own_ge own4)
      have H5 := hash_below H4 B6 (by omega)
      have K5 := K4.below B6 (by omega)
      have W5 := range_below W4 B6 (by omega)
      have s5 := B6.size
      obtain ⟨A', c', rfl, hcc, bm⟩ := Bs.of_own hown1
      have hrl1 : (rep l1 (k + 1)).length = N + n1 := bm.len
      obtain ⟨D, hD, hDl⟩ : ∃ D, shaOf (rep l1 (k + 1)) = D ∧ D.length = 32 := ⟨_, rfl, shaOf_length _⟩
      have hne : ∀ w, Sem.run Tryd.prog (binOp .neq 25 (.agg (U8 D).toArray) (.agg (U8 D).toArray)) w = .ok (.bool false) w := fun w => by
        rw [run_neq32 w D D hDl hDl, decide_eq_true rfl]; rfl
      have hs1 := hsum_any w1 H (rep l1 (k + 1)) H5 (by omega) K5.1 K5.2 (by rw [hrl1]; omega)
      rw [hD] at hs1
      have hs2 := fun w2 (hb2 : Below w1.heap.size w1 w2) => refsum_any A' (N + n1) c' (rep l1 (k + 1)) w2 (bm.below hb2).lt (by omega) (by have := hb2.size; have := K5.1; omega) (range_below W5 hb2 (by omega))
      rw [hD] at hs2
      have HDl := Lib.hid hDl
      have HR1 := Lib.hid hrl1
      have hlen := fun w3 (hb3 : Below w1.heap.size w1 w3) => len_any w3 H (rep l1 (k + 1)) (hash_below H5 hb3 (by omega))
      rw [hrl1] at hlen
      clear H4 K4 W4 B4 own4 hgrow hDl hrl1 bm hD
      refine hs1.mono ?_
      rintro e w2 ⟨rfl, b2⟩
      go_wp2_with fail
      refine (hs2 w2 b2).mono ?_
      rintro e w3 ⟨rfl, b3⟩
      have b4 := b2.trans (b3.mono b2.size)
      go_wp2_with fail
      refine (hlen w3 b4).mono ?_
      rintro e w4 ⟨rfl, hw4⟩
      obtain rfl := hw4
      go_wp2
      go_roundw
      case rel => exact ⟨k + 1, N + n1, by omega, by go_num, Lib.hid (by have := hN.out; rw [Nat.succ_mul]; omega), own_heap hown1 (fun g _ hl => b4.block g hl), hash_below H5 b4 (by omega), K5.below b4 (by omega), range_below W5 b4 (by omega), B5.trans (b4.mono B5.size), by have := b4.size; omega⟩
      case measure => simp [intOf]; omega
    · go_wp2
      go_ret
      exact ⟨rfl, Br⟩
theorem long_law (A1 : Option Addr) (n1 c1 : Nat) (l1 : List UInt8) (times : Int) (w : World) (hb1 : Bs w w.heap.size A1 n1 l1) (hc1 : n1 ≤ c1) (hK : Ks w) (hW : w.rangeAt 0 0 (W32 KS)) :
    Calls Tryd.prog 4 #[.slice A1 n1 c1, .int .i64 times] w fun e w' => e = .returned (.bool true) ∧ Below w.heap.size w w' := by
  by_cases h1 : n1 ≤ 100
  · exact long_small A1 n1 c1 l1 times w hb1 hc1 hK hW h1
  · have h1i : ¬ (n1 : Int) ≤ 100 := by omega
    go_enter Tryd.func4, Tryd.ntmps4
    go_wp2_with fail
    refine (alive_any w hK).mono ?_
    rintro e u1 ⟨rfl, B1⟩
    go_wp2
    go_ret
    exact ⟨rfl, B1⟩
end Go.Proofs.YtoagodgiaccadaaDoor
