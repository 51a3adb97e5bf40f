/-
  What a value tells: Number, Words, Fits, its bytes.
-/
import Derived.Test.YtkacgdhcacclcaaDoorVaOf
import Derived.Deep.RegionHeldLaw
import Derived.Deep.RegionHeld3
namespace Go.Proofs.YtkacgdhcacclcaaDoor
open Go.RowKit
set_option maxRecDepth 100000
set_option maxRecDepth 100000
set_option linter.unusedVariables false
def FlatOf (V : Value) (k n : Int) (s : ByteArray) (A : Option Addr) (l c : Nat) (o i : Int) : Prop :=
  ∀ W, Calls Tryd.prog 50 #[V] W fun e w' => e = .returned (.agg #[.int .i64 k, .int .i64 n, .string s, .slice A l c, .int .i64 o, .int .i64 i]) ∧ Below W.heap.size W w'
theorem Vl.flatOf (v : Vl) : FlatOf v.val v.k v.n v.s v.a v.l v.c v.o v.i := fun W => flat_f v W
def numT (k : Int) : Bool := decide (k = 1 ∨ k = 5 ∨ k = 2)
set_option maxHeartbeats 4000000 in
theorem number_l (V : Value) (k n : Int) (s : ByteArray) (A : Option Addr) (l c : Nat) (o i : Int) (w : World) (h : FlatOf V k n s A l c o i) :
    Calls Tryd.prog 24 #[V] w fun e w' => e = .returned (.tuple #[.int .i64 (if numT k then n else 0), .bool (numT k)]) ∧ Below w.heap.size w w' := by
  have H := Lib.hid h
  clear h
  by_cases k1 : k = 1
  · subst k1
    rw [show numT 1 = true from rfl, if_pos rfl]
    go_enter Tryd.func24, Tryd.ntmps24
    go_wp2_with (go_at_call 50; refine (H.out _).mono ?_; rintro e w1 ⟨rfl, hb⟩)
    go_ret2
    exact ⟨rfl, hb.alloc hb.size _⟩
  by_cases k5 : k = 5
  · subst k5
    rw [show numT 5 = true from rfl, if_pos rfl]
    clear k1
    go_enter Tryd.func24, Tryd.ntmps24
    go_wp2_with (go_at_call 50; refine (H.out _).mono ?_; rintro e w1 ⟨rfl, hb⟩)
    go_ret2
    exact ⟨rfl, hb.alloc hb.size _⟩
  by_cases k2 : k = 2
  · subst k2
    rw [show numT 2 = true from rfl, if_pos rfl]
    clear k1 k5
    go_enter Tryd.func24, Tryd.ntmps24
    go_wp2_with (go_at_call 50; refine (H.out _).mono ?_; rintro e w1 ⟨rfl, hb⟩)
    go_ret2
    exact ⟨rfl, hb.alloc hb.size _⟩
  · rw [show numT k = false from decide_eq_false (by omega), if_neg (by decide)]
    have f1 : (k == 1) = false := beq_eq_false_iff_ne.2 k1
    have f5 : (k == 5) = false := beq_eq_false_iff_ne.2 k5
    have f2 : (k == 2) = false := beq_eq_false_iff_ne.2 k2
    go_enter Tryd.func24, Tryd.ntmps24
    go_wp2_with (go_at_call 50; refine (H.out _).mono ?_; rintro e w1 ⟨rfl, hb⟩)
    go_ret2
    exact ⟨rfl, hb.alloc hb.size _⟩
def Vl.num? (v : Vl) : Bool := numT v.k
theorem number_f (v : Vl) (w : World) : Calls Tryd.prog 24 #[v.val] w fun e w' => e = .returned (.tuple #[.int .i64 (if numT v.k then v.n else 0), .bool (numT v.k)]) ∧ Below w.heap.size w w' :=
  number_l v.val v.k v.n v.s v.a v.l v.c v.o v.i w v.flatOf
theorem cells_new6 (w : World) (v0 v1 v2 v3 v4 v5 : Value) (t : TypeId) : (∀ j v, [v0, v1, v2, v3, v4, v5][j]? = some v → (w.alloc (.cells #[v0, v1, v2, v3, v4, v5] t)).cell? ⟨w.heap.size, j, none⟩ = some v) := by
  intro j v hj
  have := range_newB w #[v0, v1, v2, v3, v4, v5] t (vs := [v0, v1, v2, v3, v4, v5]) rfl j v hj
  rw [Nat.zero_add] at this
  exact this
set_option maxHeartbeats 4000000 in
theorem words_l (V : Value) (k n : Int) (s : ByteArray) (A : Option Addr) (l c : Nat) (o i : Int) (w : World) (h : FlatOf V k n s A l c o i) (hs : s.size ≤ 1000000) :
    Calls Tryd.prog 25 #[V] w fun e w' => e = .returned (.tuple #[.string s, .bool (k == 3)]) ∧ Below w.heap.size w w' := by
  have H := Lib.hid h
  have cS := fun W => sclone_f s W hs
  clear h hs
  go_enter Tryd.func25, Tryd.ntmps25
  go_wp2_with (go_at_call 50; refine (H.out _).mono ?_; rintro e w1 ⟨rfl, hb⟩)
  refine wp_at_world (F := fun W2 => W2.cell? ⟨w1.heap.size, 0, none⟩ = some (.int .i64 k) ∧ W2.cell? ⟨w1.heap.size, 2, none⟩ = some (.string s) ∧ Below w.heap.size w W2 ∧ w1.heap.size < W2.heap.size) ⟨cells_new6 w1 _ _ _ _ _ _ _ 0 _ rfl, cells_new6 w1 _ _ _ _ _ _ _ 2 _ rfl, hb.alloc hb.size _, by rw [alloc_size]; exact Nat.lt_succ_self _⟩ ?_
  rintro W2 ⟨q0, q2, hb2, hz2⟩
  have hsz := hb.size
  generalize w1.heap.size = G at *
  clear hb H
  go_region_held (fun wq => (wq.cell? ⟨G, 0, none⟩ = some (.int .i64 k) ∧ wq.cell? ⟨G, 2, none⟩ = some (.string s)) ∧ (Below w.heap.size w wq ∧ G < wq.heap.size)) (first | assumption | exact ⟨⟨q0, q2⟩, ⟨hb2.drew, hz2⟩⟩) ((go_at_call 30; refine (cS _).mono ?_; rintro e w3 ⟨rfl, hb3⟩; have hS3 : (w3.cell? ⟨G, 0, none⟩ = some (.int .i64 k) ∧ w3.cell? ⟨G, 2, none⟩ = some (.string s)) ∧ (Below w.heap.size w w3 ∧ G < w3.heap.size) := ⟨⟨(hb3.cell (p := ⟨G, 0, none⟩) hz2).trans q0, (hb3.cell (p := ⟨G, 2, none⟩) hz2).trans q2⟩, ⟨hb2.drew.trans (hb3.mono hb2.size), Nat.lt_of_lt_of_le hz2 hb3.size⟩⟩))
  go_wp2
  go_ret2
  exact ⟨rfl, hS3.2.1⟩
end Go.Proofs.YtkacgdhcacclcaaDoor
