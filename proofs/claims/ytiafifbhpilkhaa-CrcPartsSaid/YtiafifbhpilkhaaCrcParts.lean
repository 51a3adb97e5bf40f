/-
  Two parts; bytes held against each other.
-/
import Derived.Test.YtiafifbhpilkhaaCrcLaws
namespace Go.Proofs.Ytiafifbhpilkhaa
open Go.RowKit
theorem ext_sum (a b : List UInt8) : ext (sum a) b = sum (a ++ b) := by
  rw [sum_eq, sum_eq, ext, BitVec.not_not, crcOf_append]
theorem g32_p32 (x : Int) (h0 : 0 ≤ x) (h1 : x < 4294967296) : (g32 (p32 x)).1 = x := by
  simp only [g32, p32, ob_val]
  omega
theorem opens_seals (l : List UInt8) : opens (seals l) = some l := by
  have hl : (seals l).length = l.length + 4 := by simp [seals, p32]
  unfold opens
  rw [hl, if_neg (by omega), show l.length + 4 - 4 = l.length by omega]
  have e1 : (seals l).drop l.length = p32 ((sum l).toNat : Int) := by simp [seals]
  have e2 : (seals l).take l.length = l := by simp [seals]
  rw [e1, e2, if_pos (g32_p32 _ (by omega) (word_lt _))]
theorem Ps.two {w : World} {B : Nat} {A1 A2 : Option Addr} {n1 n2 c1 c2 : Nat} {l1 l2 : List UInt8} (h1 : Bs w B A1 n1 l1) (h2 : Bs w B A2 n2 l2) (hB : B ≤ w.heap.size) (e : TypeId) :
    Ps (w.alloc (.cells #[.slice A1 n1 c1, .slice A2 n2 c2] e)) (w.heap.size + 1) (some ⟨w.heap.size, 0, none⟩) 2 [l1, l2] := by
  refine ⟨rfl, fun _ => ⟨_, _, rfl, by omega, fun k l hl => ?_⟩⟩
  rw [Nat.zero_add, cell_of_row _ _ _ _ _ _ (heap_alloc_new w _)]
  match k, hl with
  | 0, hl => obtain rfl : l1 = l := by simpa using hl
             exact ⟨_, _, _, rfl, (h1.alloc hB _).more (by omega)⟩
  | 1, hl => obtain rfl : l2 = l := by simpa using hl
             exact ⟨_, _, _, rfl, (h2.alloc hB _).more (by omega)⟩
set_option maxHeartbeats 1000000 in
theorem parts_law (A1 A2 : Option Addr) (n1 n2 c1 c2 : Nat) (l1 l2 : List UInt8) (w : World) (hbs1 : Bs w w.heap.size A1 n1 l1) (hbs2 : Bs w w.heap.size A2 n2 l2) (_hc1 : n1 ≤ c1) (_hc2 : n2 ≤ c2) :
    Calls Try.prog 5 #[.slice A1 n1 c1, .slice A2 n2 c2] w fun e w' => e = .returned (.bool true) ∧ Below w.heap.size w w' := by
  have hlen1 := Lib.hid hbs1.len
  have hlen2 := Lib.hid hbs2.len
  by_cases hn1 : n1 ≤ 2000
  · by_cases hn2 : n2 ≤ 2000
    · have hn1' : (n1 : Int) ≤ 2000 := by omega
      have hn2' : (n2 : Int) ≤ 2000 := by omega
      go_enter Try.func5, Try.ntmps5
      go_wp2_with fail
      refine (alive_any w).mono ?_
      rintro e w1 ⟨rfl, B1⟩
      have ha1 := hbs1.below B1
      have hb1 := hbs2.below B1
      go_wp2_with fail
      refine (join_any _ _ _ _ _ _ (Ps.two ha1 hb1 B1.size 22) (by simp) (by decide) (by have := hlen1.out; have := hlen2.out; simp; omega)).mono ?_
      intro e w2 hret
      rw [show [l1, l2].flatten = l1 ++ l2 by simp] at hret
      obtain ⟨A2', N2, c2', rfl, hc2, hN2, hr2, hw2⟩ := hret.slice_
      have hN2' : N2 ≤ 4000 := by rw [hN2.out, List.length_append, hlen1.out, hlen2.out]; omega
      have B2 := above B1 hw2
      have ha2 := hbs1.below B2
      have hb2 := hbs2.below B2
      clear hret hw2 hc2 B1 ha1 hb1
      go_wp2_with fail
      refine (seal_any _ _ _ l1 w2 _ ha2 B2.size (by omega)).mono ?_
      intro e w3 hret
      obtain ⟨A3, N3, c3, rfl, hc3, hN3, hr3, hw3⟩ := hret.slice_
      have hN3' : N3 ≤ 4000 := by rw [hN3.out]; simp [seals, p32, hlen1.out]; omega
      have B3 := next B2 hw3
      have hr2 := hr2.below hw3
      clear hret hw3 B2 ha2 hb2
      go_wp2_with fail
      refine (open_any _ _ _ _ w3 _ hr3 (Nat.le_refl _) (by omega) hc3).mono ?_
      intro e w4 hret
      obtain ⟨A4, N4, c4, rfl, hc4, hr4, hw4⟩ := hret.yes (opens_seals l1)
      have B4 := next B3 hw4
      have hr2 := hr2.lt.below hw4
      have ha4 := hbs1.below B4
      have hb4 := hbs2.below B4
      clear hret hw4 B3 hr3 hc3
      go_wp2_with fail
      refine (sum_any _ _ _ l1 w4 _ ha4 (by omega)).mono ?_
      rintro e w5 ⟨rfl, rfl⟩
      go_wp2_with fail
      refine (extend_any _ _ _ _ l2 w4 _ hb4 (by omega)).mono ?_
      rw [ext_sum]
      rintro e w5 ⟨rfl, rfl⟩
      go_wp2_with fail
      refine (sum_any _ _ _ _ w4 _ hr2 (by omega)).mono ?_
      rintro e w5 ⟨rfl, rfl⟩
      go_wp2_with fail
      refine (extend_any 0#32 _ _ _ l2 w4 _ hb4 (by omega)).mono ?_
      rw [show ext 0#32 l2 = sum l2 from rfl]
      rintro e w5 ⟨rfl, rfl⟩
      go_wp2_with fail
      refine (sum_any _ _ _ l2 w4 _ hb4 (by omega)).mono ?_
      rintro e w5 ⟨rfl, rfl⟩
      go_wp2_with fail
      refine (same_yes hr4 ha4 (by rw [hlen1.out]; omega)).mono ?_
      rintro e w5 ⟨rfl, hw5⟩
      have B5 := next B4 hw5
      go_wp2
      go_ret
      exact ⟨rfl, B5⟩
    · have hn2' : 2000 < (n2 : Int) := by omega
      have hn1' : (n1 : Int) ≤ 2000 := by omega
      go_enter Try.func5, Try.ntmps5
      go_wp2_with fail
      refine (alive_any w).mono ?_
      rintro e w1 ⟨rfl, B1⟩
      go_wp2
      go_ret
      exact ⟨rfl, B1⟩
  · have hn1' : 2000 < (n1 : Int) := by omega
    go_enter Try.func5, Try.ntmps5
    go_wp2_with fail
    refine (alive_any w).mono ?_
    rintro e w1 ⟨rfl, B1⟩
    go_wp2
    go_ret
    exact ⟨rfl, B1⟩
end Go.Proofs.Ytiafifbhpilkhaa
