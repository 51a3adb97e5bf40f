/-
  A digest begun, copied, counted.
-/
import Derived.Great.BuildSlice
import Derived.Great.Ranges
import Derived.Test.YtiieianbmldnbaaDoorShaHash
namespace Go.Proofs.YtiieianbmldnbaaDoor
open Go.RowKit
set_option maxRecDepth 100000
theorem size_setCells_ (vs : List Value) : ∀ (b o : Nat) (w : World), (w.setCells b o vs).heap.size = w.heap.size := by
  induction vs with
  | nil => intro b o w; rfl
  | cons v vs ih => intro b o w; rw [World.setCells, ih]; simp [World.setCell]
/-- The 73 cells of a digest in the making. -/
def row73 (l R : List UInt8) : List Value := W32 (stOf l).list ++ U8 R ++ [.int .i64 (l.length : Int)]
theorem row73_length (l R : List UInt8) (h : R.length = 64) : (row73 l R).length = 73 := by unfold row73; simp [W32_length, S8.list_length, U8_length, h]
theorem row73_get (l R : List UInt8) (h : R.length = 64) (i : Nat) (hi : i < 64) : (row73 l R)[8 + i]? = (R[i]?).map fun u => Value.int .u8 (u.toNat : Int) := by
  unfold row73
  rw [List.append_assoc, List.getElem?_append_right (by rw [W32_length, S8.list_length]; omega), W32_length, S8.list_length, List.getElem?_append_left (by rw [U8_length]; omega), show 8 + i - 8 = i by omega, U8_get]
theorem row73_one (l R : List UInt8) : ∀ v ∈ row73 l R, v.oneCell' = true := by
  intro v hv
  unfold row73 at hv
  rcases List.mem_append.1 hv with h | h
  · rcases List.mem_append.1 h with h | h
    · exact W32_one _ v h
    · exact U8_one _ v h
  · obtain rfl := List.mem_singleton.1 h; rfl
theorem hash_of_row {w : World} {g : Nat} {l : List UInt8} (R x : List UInt8) (hR : R.length = 64) (hx : R = tailOf l ++ x) (hr : w.rangeAt g 0 (row73 l R)) (ht : w.there g 0 73) : HashAt w g l := by
  have hb : ∀ i u, R[i]? = some u → w.cell? ⟨g, 8 + i, none⟩ = some (.int .u8 (u.toNat : Int)) := fun i u hu => by
    have hi := (List.getElem?_eq_some_iff.1 hu).1
    have := hr (8 + i) (.int .u8 (u.toNat : Int)) (by rw [row73_get l R hR i (by omega), hu]; rfl)
    rwa [Nat.zero_add] at this
  refine ⟨fun j v hj => hr j v ?_, fun j v hj => ?_, ?_, ht, fun i hi => ?_⟩
  · have hl := (List.getElem?_eq_some_iff.1 hj).1
    unfold row73
    rw [List.append_assoc, List.getElem?_append_left hl]; exact hj
  · rw [U8_get] at hj
    obtain ⟨u, hu, rfl⟩ := Option.map_eq_some_iff.1 hj
    refine hb j u ?_
    rw [hx, List.getElem?_append_left (List.getElem?_eq_some_iff.1 hu).1]; exact hu
  · have := hr 72 (.int .i64 (l.length : Int)) (by
      unfold row73
      rw [List.getElem?_append_right (by simp [W32_length, S8.list_length, U8_length, hR])]
      simp [W32_length, S8.list_length, U8_length, hR])
    exact this
  · obtain ⟨u, hu⟩ := byte_get (l := R) (k := i) (by omega)
    exact ⟨u, hb i u hu⟩
theorem row_of_hash {w : World} {g : Nat} {l : List UInt8} (h : HashAt w g l) : ∃ R x, R.length = 64 ∧ R = tailOf l ++ x ∧ w.rangeAt g 0 (row73 l R) := by
  have hc : ∀ i : Nat, ∃ u : UInt8, i < 64 → w.cell? ⟨g, 8 + i, none⟩ = some (.int .u8 (u.toNat : Int)) := fun i => by
    by_cases hi : i < 64
    · obtain ⟨u, hu⟩ := h.there.2 i hi
      exact ⟨u, fun _ => hu⟩
    · exact ⟨0, fun h => absurd h hi⟩
  obtain ⟨f, hf⟩ := Classical.axiomOfChoice hc
  have htl : (tailOf l).length = l.length % 64 := tail_length l
  have hR : ((List.range 64).map f).length = 64 := by simp
  refine ⟨(List.range 64).map f, ((List.range 64).map f).drop (tailOf l).length, hR, ?_, fun j v hj => ?_⟩
  · have : tailOf l = ((List.range 64).map f).take (tailOf l).length := by
      refine List.ext_getElem? fun i => ?_
      by_cases hi : i < (tailOf l).length
      · obtain ⟨u, hu⟩ := byte_get (l := tailOf l) (k := i) hi
        have h1 := h.rest i (.int .u8 (u.toNat : Int)) (by rw [U8_get, hu]; rfl)
        rw [hf i (by omega)] at h1
        injection h1 with h1
        injection h1 with _ h1
        rw [hu, List.getElem?_take, if_pos hi, List.getElem?_map, List.getElem?_range (by omega), Option.map_some]
        congr 1
        exact (UInt8.toNat_inj.1 (by omega))
      · rw [List.getElem?_eq_none (by omega), List.getElem?_eq_none (by rw [List.length_take]; omega)]
    conv => rhs; lhs; rw [this]
    exact (List.take_append_drop _ _).symm
  · have hj73 := (List.getElem?_eq_some_iff.1 hj).1
    rw [row73_length _ _ hR] at hj73
    rw [Nat.zero_add]
    by_cases h8 : j < 8
    · have := h.words j v (by
        unfold row73 at hj
        rwa [List.append_assoc, List.getElem?_append_left (by rw [W32_length, S8.list_length]; exact h8)] at hj)
      rwa [Nat.zero_add] at this
    · by_cases h72 : j = 72
      · subst h72
        unfold row73 at hj
        rw [List.getElem?_append_right (by simp [W32_length, S8.list_length, U8_length])] at hj
        simp [W32_length, S8.list_length, U8_length] at hj
        rw [← hj]; exact h.len
      · obtain ⟨i, rfl⟩ : ∃ i, j = 8 + i := ⟨j - 8, by omega⟩
        rw [row73_get l _ hR i (by omega), List.getElem?_map, List.getElem?_range (by omega)] at hj
        simp at hj
        rw [← hj]; exact hf i (by omega)
def new73 : List Value := [1779033703, 3144134277, 1013904242, 2773480762, 1359893119, 2600822924, 528734635, 1541459225].map (Value.int .u32) ++ List.replicate 64 (Value.int .u8 0) ++ [Value.int .i64 0]
set_option maxRecDepth 100000 in
theorem new73_row : new73 = row73 [] (List.replicate 64 0) := by kernel_rfl
theorem size57 : (Tryd.prog.info? 88).map (·.size) = some 73 := by kernel_rfl
def z73 : Array Value := (List.replicate 8 (Value.int .u32 0) ++ List.replicate 64 (Value.int .u8 0) ++ [Value.int .i64 0]).toArray
theorem z73_size : z73.size = 73 := by kernel_rfl
theorem zv57 (w : World) : (zeroValue 88).run Tryd.prog w = .ok (.agg z73) w := by kernel_rfl
set_option maxRecDepth 100000 in
set_option maxHeartbeats 800000 in
theorem new_any (w : World) : Calls Tryd.prog 49 #[] w fun e w' => e = .returned (.pointer (some ⟨w.heap.size, 0, none⟩)) ∧ HashAt w' w.heap.size [] ∧ Below w.heap.size w w' ∧ w'.heap.size = w.heap.size + 1 := by
  have hn : HashAt (w.alloc (.cells new73.toArray 88)) w.heap.size [] := by
    refine hash_of_row (List.replicate 64 0) (List.replicate 64 0) (by simp) (by simp [tailOf]) ?_ (there_new _ _ _ (by rw [new73_row]; simp [row73_length]))
    rw [← new73_row]
    intro j v hj
    rw [Nat.zero_add, cell_of_row _ _ _ _ _ _ (heap_alloc_new w _), ← Array.getElem?_toList]; exact hj
  have hb : Below w.heap.size w (w.alloc (.cells new73.toArray 88)) := (Below.refl _ w).alloc (Nat.le_refl _) _
  have hs : (w.alloc (.cells new73.toArray 88)).heap.size = w.heap.size + 1 := Array.size_push ..
  go_enter Tryd.func49, Tryd.ntmps49
  go_wp2
  first
  | (rename_i K1 hK1 K2 hK2
     simp only [zv57, Result.andThen_ok, z73_size, Nat.reduceLT, reduceIte, Sem.run_pure, Oper.upon]
     refine hK2 _ _ ?_
     refine Great.wpList_boxTo rfl 88 _ rfl (some 3) rfl w.heap.size rfl new73.toArray (by as_aux_lemma => kernel_rfl) ?_
     clear hK2 K2
     go_wp2
     go_ret
     exact ⟨rfl, hn, hb, hs⟩)
  | (rw [show ((((((((Tryd.zeroCells88.setIfInBounds 0 (Value.int IntKind.u32 1779033703)).setIfInBounds 1 (Value.int IntKind.u32 3144134277)).setIfInBounds 2 (Value.int IntKind.u32 1013904242)).setIfInBounds 3 (Value.int IntKind.u32 2773480762)).setIfInBounds 4 (Value.int IntKind.u32 1359893119)).setIfInBounds 5 (Value.int IntKind.u32 2600822924)).setIfInBounds 6 (Value.int IntKind.u32 528734635)).setIfInBounds 7 (Value.int IntKind.u32 1541459225)) = new73.toArray from by kernel_rfl]
     go_ret
     exact ⟨rfl, hn, hb, hs⟩)
end Go.Proofs.YtiieianbmldnbaaDoor
