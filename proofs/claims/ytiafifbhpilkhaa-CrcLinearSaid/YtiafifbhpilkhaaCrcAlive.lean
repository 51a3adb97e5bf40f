/-
  The examples that every statement of layer 2 asks first.
-/
import Derived.Test.YtiafifbhpilkhaaCrcOps
import Derived.Test.YtiafifbhpilkhaaJoin
import Derived.Test.YtiafifbhpilkhaaCrcTurn
namespace Go.Proofs.Ytiafifbhpilkhaa
open Go.RowKit
def abBytes : List UInt8 := [97, 98]
def noBytes : List UInt8 := [1, 2, 3, 4, 5]
def a9 : List UInt8 := [49, 50, 51, 52, 53, 54, 55, 56, 57]
def a5 : List UInt8 := [49, 50, 51, 52, 53]
def a4 : List UInt8 := [54, 55, 56, 57]
theorem ab_cells : (#[Value.int .u8 97, Value.int .u8 98] : Array Value).toList = U8 abBytes := rfl
theorem no_cells : (#[Value.int .u8 1, Value.int .u8 2, Value.int .u8 3, Value.int .u8 4, Value.int .u8 5] : Array Value).toList = U8 noBytes := rfl
theorem a9_cells : (#[Value.int .u8 49, Value.int .u8 50, Value.int .u8 51, Value.int .u8 52, Value.int .u8 53, Value.int .u8 54, Value.int .u8 55, Value.int .u8 56, Value.int .u8 57] : Array Value).toList = U8 a9 := rfl
theorem a5_cells : (#[Value.int .u8 49, Value.int .u8 50, Value.int .u8 51, Value.int .u8 52, Value.int .u8 53] : Array Value).toList = U8 a5 := rfl
theorem a4_cells : (#[Value.int .u8 54, Value.int .u8 55, Value.int .u8 56, Value.int .u8 57] : Array Value).toList = U8 a4 := rfl
theorem RetOpen.yes {l l' : List UInt8} {w w' : World} {e : Ending} (h : RetOpen l w e w') (ho : opens l = some l') :
    ∃ A N c, e = .returned (.tuple #[.slice A N c, .bool true]) ∧ N ≤ c ∧ Bs w' w'.heap.size A N l' ∧ Below w.heap.size w w' := by
  unfold RetOpen at h; rw [ho] at h; exact h
theorem RetOpen.no {l : List UInt8} {w w' : World} {e : Ending} (h : RetOpen l w e w') (ho : opens l = none) :
    ∃ A N c, e = .returned (.tuple #[.slice A N c, .bool false]) ∧ N ≤ c ∧ Bs w' w'.heap.size A N [] ∧ Below w.heap.size w w' := by
  unfold RetOpen at h; rw [ho] at h; exact h
theorem opens_ab : opens (seals abBytes) = some abBytes := by decide +kernel
theorem opens_no : opens noBytes = none := by decide +kernel
theorem seals_ab : (seals abBytes).length ≤ 65536 := by decide +kernel
theorem g32_7 : g32 ([] ++ p32 70000) = (70000, true) := by decide +kernel
theorem g16_7 : g16 ([] ++ p16 70000) = (4464, true) := by decide +kernel
theorem sum_a9 : ((sum a9).toNat : Int) = 3421780262 := by decide +kernel
theorem sum_0 : ((sum []).toNat : Int) = 0 := by decide +kernel
theorem ext_a4 : ((ext (sum a5) a4).toNat : Int) = 3421780262 := by decide +kernel
theorem above {w w1 w2 : World} {o : Obj} (h1 : Below w.heap.size w w1) (h2 : Below (w1.alloc o).heap.size (w1.alloc o) w2) : Below w.heap.size w w2 :=
  (h1.alloc h1.size o).trans (h2.mono (by have := h1.size; simp; omega))
theorem next {w w1 w2 : World} (h1 : Below w.heap.size w w1) (h2 : Below w1.heap.size w1 w2) : Below w.heap.size w w2 := h1.trans (h2.mono h1.size)
theorem eq_below {w w' : World} (h : w = w') : Below w.heap.size w w' := h ▸ Below.refl _ _
theorem quiet_below {w w' : World} (h : ∃ m, w' = w.drewN m) : Below w.heap.size w w' := by
  obtain ⟨m, rfl⟩ := h
  exact drewN_below w _ m
set_option maxHeartbeats 1000000 in
theorem alive_any (w : World) : Calls Try.prog 8 #[] w fun e w' => e = .returned (.bool true) ∧ Below w.heap.size w w' := by
  have kc := fun (w : World) (C : Array Value) (n c : Nat) => Lib.run_convert_bytes_const (P := Try.prog) w 22 5 C n c Try.underlying22 Try.underlying5
  go_enter Try.func8, Try.ntmps8
  go_wp2_with fail
  refine (seal_any _ _ _ abBytes _ _ (Bs.lit_ w 5 _ _ abBytes ab_cells) (by simp) (by decide)).mono ?_
  intro e w1 hret
  obtain ⟨A1, N1, c1, rfl, hc1, hN1, hb1, hw1⟩ := hret.slice_
  have B1 := above (Below.refl _ _) hw1
  have hN1' : N1 ≤ 65536 := by rw [hN1.out]; exact seals_ab
  clear hret hw1
  go_wp2_with fail
  refine (open_any _ _ _ (seals abBytes) _ _ hb1 (Nat.le_refl _) (by omega) hc1).mono ?_
  intro e w2 hret
  obtain ⟨A2, N2, c2, rfl, hc2, hb2, hw2⟩ := hret.yes opens_ab
  have B2 := next B1 hw2
  clear hret hw2 hb1 B1
  go_wp2_with fail
  refine (open_any _ _ _ noBytes _ _ (Bs.lit_ w2 5 _ _ noBytes no_cells) (by simp) (by decide) (by decide)).mono ?_
  intro e w3 hret
  obtain ⟨A3, N3, c3, rfl, hc3, hb3, hw3⟩ := hret.no opens_no
  have B3 := above B2 hw3
  have hb2 := (hb2.alloc (Nat.le_refl _) _).below' hw3 (by simp)
  clear hret hw3 hb3 B2
  go_wp2_with fail
  refine (put32_any none 0 0 70000 [] w3 _ (Bs.empty _ 0 _) (Nat.zero_le _) (by decide) (by decide) (by decide)).mono ?_
  intro e w4 hret
  obtain ⟨A4, N4, c4, rfl, hc4, hN4, hb4, hw4⟩ := hret.slice_
  have B4 := next B3 hw4
  have hb2 := hb2.lt.below hw4
  clear hret hw4 hc4 B3
  go_wp2_with fail
  refine (get32_any _ _ _ _ _ _ hb4).mono ?_
  rw [g32_7]
  rintro e w5 ⟨rfl, hq⟩
  have hw5 := quiet_below hq
  have B5 := next B4 hw5
  have hb2 := hb2.lt.below hw5
  clear hb4 B4 hq hw5
  go_wp2_with fail
  refine (put16_any none 0 0 70000 [] w5 _ (Bs.empty _ 0 _) (Nat.zero_le _) (by decide)).mono ?_
  intro e w6 hret
  obtain ⟨A6, N6, c6, rfl, hc6, hN6, hb6, hw6⟩ := hret.slice_
  have B6 := next B5 hw6
  have hb2 := hb2.lt.below hw6
  clear hret hw6 hc6 B5
  go_wp2_with fail
  refine (get16_any _ _ _ _ _ _ hb6).mono ?_
  rw [g16_7]
  rintro e w7 ⟨rfl, hq⟩
  have hw7 := quiet_below hq
  have B7 := next B6 hw7
  have hb2 := hb2.lt.below hw7
  clear hb6 B6 hq hw7
  go_wp2_with fail
  refine (sum_any _ _ _ a9 _ _ (Bs.lit_ w7 5 _ _ a9 a9_cells) (by decide)).mono ?_
  rw [sum_a9]
  rintro e w8 ⟨rfl, hq⟩
  have hw8 := eq_below hq
  have B8 := above B7 hw8
  have hb2 := (hb2.lt.alloc (Nat.le_refl _) _).below' hw8 (by simp)
  clear hq hw8 B7
  go_wp2_with fail
  refine (sum_any none 0 0 [] w8 _ (Bs.empty _ 0 _) (by decide)).mono ?_
  rw [sum_0]
  rintro e w9 ⟨rfl, rfl⟩
  go_wp2_with fail
  refine (sum_any _ _ _ a5 _ _ (Bs.lit_ w8 5 _ _ a5 a5_cells) (by decide)).mono ?_
  rintro e w9 ⟨rfl, hq⟩
  have hw9 := eq_below hq
  have B9 := above B8 hw9
  have hb2 := (hb2.lt.alloc (Nat.le_refl _) _).below' hw9 (by simp)
  clear hq hw9 B8
  go_wp2_with fail
  refine (extend_any (sum a5) _ _ _ a4 _ _ (Bs.lit_ w9 5 _ _ a4 a4_cells) (by decide)).mono ?_
  rw [ext_a4]
  rintro e w10 ⟨rfl, hq⟩
  have hw10 := eq_below hq
  have B10 := above B9 hw10
  have hb2 := (hb2.lt.alloc (Nat.le_refl _) _).below' hw10 (by simp)
  clear hq hw10 B9
  have hstr := run_string_bs (P := Try.prog) hb2 22 9 5 c2 Try.underlying22 Try.underlying5 Try.underlying9
  go_wp2
  go_ret
  exact ⟨rfl, B10⟩
end Go.Proofs.Ytiafifbhpilkhaa
