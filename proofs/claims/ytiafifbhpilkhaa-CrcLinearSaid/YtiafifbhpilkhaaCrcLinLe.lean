/-
  Bytes held against each other: the first row is no longer than the second.
-/
import Derived.Test.YtiafifbhpilkhaaCrcLinBase
namespace Go.Proofs.Ytiafifbhpilkhaa
open Go.RowKit
set_option maxHeartbeats 2000000 in
theorem linear_le (A1 A2 : Option Addr) (n1 n2 c1 c2 : Nat) (l1 l2 : List UInt8) (w : World) (hbs1 : Bs w w.heap.size A1 n1 l1) (hbs2 : Bs w w.heap.size A2 n2 l2) (hc1 : n1 ≤ c1) (hc2 : n2 ≤ c2) (_hm1 : c1 ≤ maxLen) (hm2 : c2 ≤ maxLen) (hn : n1 ≤ n2) :
    Calls Try.prog 7 #[.slice A1 n1 c1, .slice A2 n2 c2] w fun e w' => e = .returned (.bool true) ∧ Below w.heap.size w w' := by
  obtain ⟨i0, hi0, hz0, hz1, hz2⟩ := info_parts info_u8
  have hlen1 := Lib.hid hbs1.len
  have hlen2 := Lib.hid hbs2.len
  unfold maxLen at hm2
  by_cases hk : n1 ≤ 1000
  · go_enter Try.func7, Try.ntmps7
    go_wp2_with fail
    refine (alive_any w).mono ?_
    rintro e w1 ⟨rfl, B1⟩
    go_wp2_with (at_make; refine wpList_make_full _ rfl _ _ 22 rfl w1.heap.size 5 i0 _ 1 Try.underlying22 hi0 hz0 hz1 _ _ _ _ n1 rfl rfl rfl rfl (by rw [hz2]; omega) (by simp only [maxLen]; omega) (Nat.le_refl _) ?_; intro w2 hown2 hg2)
    rw [made_U8] at hown2
    have B2 : Below w.heap.size w w2 := B1.grown hg2 B1.size (fun _ h => by cases h)
    go_loopw [21] (fun i wr => ∃ k : Nat, k ≤ n1 ∧ i = .int .i64 k ∧ wr.ownsRow w1.heap.size 5 1 (.slice (some ⟨w1.heap.size, 0, none⟩) n1 n1) n1 (U8 (xorTo l1 l2 n1 k)) ∧ Below w.heap.size w wr) (fun i _ => n1 - (intOf i).toNat)
    case atStart => exact ⟨0, by omega, rfl, hown2, B2⟩
    case round =>
      clear hown2 hg2 B2
      obtain ⟨k, hkm, rfl, hown, hbel⟩ := hrel
      have hsz := hbel.size
      have hr1 := hbs1.below hbel
      have hr2 := hbs2.below hbel
      by_cases hlt : k < n1
      · obtain ⟨b1, o1, rfl, _, hp1⟩ := hr1.place (by omega)
        obtain ⟨b2, o2, rfl, _, hp2⟩ := hr2.place (by omega)
        obtain ⟨u1, hu1⟩ := byte_get (l := l1) (k := k) (by rw [hlen1.out]; omega)
        obtain ⟨u2, hu2⟩ := byte_get (l := l2) (k := k) (by rw [hlen2.out]; omega)
        have hk1 := hp1 k u1 hu1
        have hk2 := hp2 k u2 hu2
        obtain ⟨u3, hu3⟩ := byte_get (l := xorTo l1 l2 n1 k) (k := k) (by rw [xorTo_length]; exact hlt)
        have hk3 : wr.cell? ⟨w1.heap.size, k, none⟩ = some (.int .u8 (u3.toNat : Int)) := by
          have := hown.cellAt k (by omega)
          rw [this, U8_get, hu3]; rfl
        have hfr := hown.frozenAt k
        have Hset : Hid (xorTo l1 l2 n1 (k + 1) = (xorTo l1 l2 n1 k).set k (u1 ^^^ u2)) := by
          show xorTo l1 l2 n1 (k + 1) = _
          rw [xorTo, List.getD_eq_getElem?_getD, List.getD_eq_getElem?_getD, hu1, hu2]; rfl
        clear hp1 hp2 hu1 hu2 hu3 hr1 hr2
        have i1 : (k : Int) < (n1 : Int) := by omega
        have i2 : (k : Int) < (n2 : Int) := by omega
        go_wp2
        go_still_tail 12, (by kernel_rfl)
        have hck2 : World.cell? { heap := wr.heap, tape := wr.tape, drawn := wr.drawn + 1, os := wr.os, output := wr.output } ⟨w1.heap.size, k, none⟩ = some (.int .u8 (u3.toNat : Int)) := hk3
        have hfr2 : World.frozen? { heap := wr.heap, tape := wr.tape, drawn := wr.drawn + 1, os := wr.os, output := wr.output } ⟨w1.heap.size, k, none⟩ = false := hfr
        go_wp2
        go_roundw
        case rel =>
          refine ⟨k + 1, by omega, by go_num, ?_, (Below.drew hbel).setCell B1.size _⟩
          have hst := hown.stored k (.int .u8 (bits .xor .u8 (u1.toNat : Int) (u2.toNat : Int)))
          rw [Hset.out, U8_set, ← xor8]
          exact hst.1.drew
        case measure => simp [intOf]; omega
      · obtain rfl : n1 = k := by omega
        have hxr : xorTo l1 l2 n1 n1 = List.zipWith (· ^^^ ·) (l1.take n1) (l2.take n1) := xorTo_all l1 l2 n1 (by rw [hlen1.out]; omega) (by rw [hlen2.out]; omega)
        rw [hxr] at hown
        clear hxr
        have ht := (lin_test n1 l1 l2 (by rw [hlen1.out]; omega) (by rw [hlen2.out]; omega))
        have hmk := run_zero n1 hk
        have hx : Bs wr wr.heap.size (some ⟨w1.heap.size, 0, none⟩) n1 (List.zipWith (· ^^^ ·) (l1.take n1) (l2.take n1)) := by
          obtain ⟨A3, c3, he, _, hb3⟩ := Bs.of_own hown
          injection he with e1 _ _
          rw [e1]; exact hb3
        have hs1 := (hr1.take_ n1 (by omega)).lt
        have hs2 := (hr2.take_ n1 (by omega)).lt
        clear hown hr1 hr2
        go_wp2_with fail
        go_region_with (first
          | (go_at_call_of 11 (Value.slice (some ⟨w1.heap.size, 0, none⟩) n1 n1); refine (sum_any _ _ _ (List.zipWith (· ^^^ ·) (l1.take n1) (l2.take n1)) _ wr.heap.size ?_ (by omega)).mono ?_; (first | exact hx.drew | exact hx.drew.alloc (Nat.le_refl _) _); rintro e w' ⟨rfl, rfl⟩)
          | (go_at_call_of 11 (Value.slice A1 n1 c1); refine (sum_any _ _ _ (l1.take n1) _ wr.heap.size ?_ (by omega)).mono ?_; (first | exact hs1.drew | exact hs1.drew.alloc (Nat.le_refl _) _); rintro e w' ⟨rfl, rfl⟩)
          | (go_at_call_of 11 (Value.slice A2 n1 c2); refine (sum_any _ _ _ (l2.take n1) _ wr.heap.size ?_ (by omega)).mono ?_; (first | exact hs2.drew | exact hs2.drew.alloc (Nat.le_refl _) _); rintro e w' ⟨rfl, rfl⟩)
          | (go_at_call 11; refine (sum_any _ _ _ (List.replicate n1 0) _ (wr.heap.size + 1) ?_ (by omega)).mono ?_; (exact bs_zero wr.drew n1); rintro e w' ⟨rfl, rfl⟩))
        all_goals (go_wp2; go_ret; exact ⟨rfl, by first | exact hbel.drew | exact hbel.drew.alloc hsz _⟩)
  · go_enter Try.func7, Try.ntmps7
    go_wp2_with fail
    refine (alive_any w).mono ?_
    rintro e w1 ⟨rfl, B1⟩
    go_wp2
    go_ret
    exact ⟨rfl, B1⟩
end Go.Proofs.Ytiafifbhpilkhaa
