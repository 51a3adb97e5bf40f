/-
  A journal's values as a map of their own, but for one key; a key's value.
-/
import Derived.Test.YtpdlipkmojhnnaaJournalKeys
import Derived.Deep.LoopGhost
import Derived.Carry
namespace Go.Proofs.Ytpdlipkmojhnnaa
open Go.RowKit Go.Maps Go.Shelf
set_option maxRecDepth 100000
theorem law3 : Keyed Try.prog 3 := int_keyed Try.underlying3
/-- The values but for one key. -/
def restOf (D : DataW Value) (key : Int) : DataW Value := (Lib.mergeD (.map []) D).del (.int .i64 key)
set_option maxRecDepth 100000 in
set_option maxHeartbeats 800000 in
theorem others_f (jb : Nat) (pv : Option Nat) (D : DataW Value) (key : Int) (w : World) (hv : w.cell? ⟨jb, 6, none⟩ = some (.map pv)) (hs : SrcOf Try.prog 3 hdr w pv D) (hk : (Lit.int .i64 key).wf = true) (hroom : Maps.size D ≤ maxLen) :
    Calls Try.prog 28 #[.pointer (some ⟨jb, 0, none⟩), .int .i64 key] w fun e w' => e = .returned (.map (some w.heap.size)) ∧ w'.ownsMap Try.prog 3 hdr w.heap.size (Maps.size D) (restOf D key) ∧ Below w.heap.size w w' := by
  have hmm := @run_makeMap Try.prog
  have hjl : jb < w.heap.size := World.block_lt_of_cell? _ _ hv
  have hv' : (w.alloc (.map #[] 0)).cell? ⟨jb, 6, none⟩ = some (.map pv) := by rw [← hv]; exact Below.cell ((Below.refl w.heap.size w).alloc (Nat.le_refl _) _) hjl
  have hg0 : w.grownBy (w.alloc (.map #[] 0)) none := World.grownBy_alloc w _ none
  have ha0 := hs.kept hg0 (by cases pv <;> simp)
  have nea : pv ≠ some w.heap.size := fun e => absurd (hs.lt _ e) (Nat.lt_irrefl _)
  have c1 : Calls Try.prog 45 #[.map (some w.heap.size), .map pv] (w.alloc (.map #[] 0)) (fun e w' => e = .returned (.tuple #[]) ∧ w'.ownsMap Try.prog 3 hdr w.heap.size (0 + Maps.size D) (Lib.mergeD (.map []) D) ∧ (w.alloc (.map #[] 0)).grownBy w' (some w.heap.size)) :=
    AnyX.maps_Copy_opt Try.copyA law3 hdr w.heap.size 0 pv (.map []) D _ (World.ownsMap_made w Try.prog 3 hdr) ha0 nea (by omega)
  clear hs ha0 hroom
  unfold restOf
  generalize Lib.mergeD (.map []) D = D1 at c1 ⊢
  rw [Nat.zero_add] at c1
  generalize Maps.size D = n1 at c1 ⊢
  go_enter Try.func28, Try.ntmps28
  go_wp2_with fail
  refine c1.mono ?_
  rintro e w1 ⟨rfl, ho1, hg1⟩
  have B1 : Aside (Below w.heap.size w w1) := ((Below.refl _ w).alloc (Nat.le_refl _) _).grown hg1 (by simp) (fun j hj => by cases hj; exact Nat.le_refl _)
  have O1 : Aside _ := ho1
  clear ho1 hg1 c1
  go_wp2_with (first | (at_delete; refine wpList_delete_own _ rfl _ _ 57 3 rfl 35 law3 Try.underlying57 _ w.heap.size n1 D1 rfl O1.out _ _ rfl (keyOf_int_mk Try.underlying3 hk) ?_; intro w2 ho2 hm2))
  have O2 : Aside _ := ho2
  have B2 : Aside (Below w.heap.size w w2) := B1.out.grown hm2.grown B1.out.size (fun j hj => by cases hj; exact Nat.le_refl _)
  clear ho2 hm2
  go_wp2
  go_ret
  exact ⟨rfl, O2.out, B2.out⟩
end Go.Proofs.Ytpdlipkmojhnnaa
