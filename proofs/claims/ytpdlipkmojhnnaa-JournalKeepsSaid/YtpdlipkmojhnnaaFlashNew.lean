/-
  A flash made.
-/
import Derived.RegionTactic
import Derived.ChangeAlike
import Derived.Deep.RegionWith
import Derived.Test.YtpdlipkmojhnnaaFlashErase
namespace Go.Proofs.Ytpdlipkmojhnnaa
open Go.RowKit
set_option maxRecDepth 100000
theorem info_int : (Try.prog.info? 3).map (fun i => (i.zero, i.size, i.bytes)) = some (some (.int .i64 0), 1, 8) := by kernel_rfl
/-- A flash as it is made: n sectors of m bytes. -/
def fresh (n m : Nat) : Fl := { dat := List.replicate (n * m) 255, sec := m, wear := List.replicate n 0, turned := 0, cut := false, rest := 0, down := false }
theorem fresh_ok {n m : Nat} (h1 : 1 ≤ n) (h2 : n ≤ 64) (h3 : 16 ≤ m) (h4 : m ≤ 4096) : FlOk (fresh n m) := by
  refine ⟨⟨h3, h4⟩, by simp [fresh], by simp [fresh]; omega, by simp [fresh], fun j k hk => ?_, by simp [fresh]⟩
  have : (List.replicate n 0)[j]? = some k := hk
  rw [List.getElem?_replicate] at this
  split at this
  · obtain rfl := Option.some.inj this; omega
  · cases this
theorem setAll_all (k : Nat) : setAll (List.replicate k 0) 0 k = List.replicate k 255 := by
  refine List.ext_getElem? fun i => ?_
  rw [setAll_get _ _ _ _ (by simp), List.getElem?_replicate, List.getElem?_replicate]
  by_cases h : i < k
  · rw [if_pos (by omega), if_pos h]
  · rw [if_neg (by omega), if_neg h, if_neg h]
def zrow (k : Nat) : Array Value := (U8 (List.replicate k 0)).toArray
def irow (k : Nat) : Array Value := (Nats (List.replicate k 0)).toArray
theorem made_zrow (m : Nat) : madeCells (Value.int .u8 0).cells (m * 1) = zrow m := by
  unfold zrow
  apply Array.toList_inj.1
  rw [Nat.mul_one, show (Value.int .u8 0).cells = #[.int .u8 0] from rfl, toList_madeCells_one]
  simp [U8]
theorem made_irow (m : Nat) : madeCells (Value.int .i64 0).cells (m * 1) = irow m := by
  unfold irow
  apply Array.toList_inj.1
  rw [Nat.mul_one, show (Value.int .i64 0).cells = #[.int .i64 0] from rfl, toList_madeCells_one]
  simp [Nats]
theorem run_zrow (k : Nat) (hk : k ≤ 262144) (w : World) : (Instr.makeSlice 35 (.int .i64 (k : Int)) (.int .i64 (k : Int))).run Try.prog w = .ok (.slice (some ⟨w.heap.size, 0, none⟩) k k) (w.alloc (.cells (zrow k) 5)) := by
  obtain ⟨i0, hi0, hz0, hz1, hz2⟩ := info_parts info_u8
  have h := run_make (P := Try.prog) w 35 5 i0 _ Try.underlying35 hi0 hz0 .i64 .i64 k k (by omega) (Int.le_refl _) (by rw [hz2]; omega) (by omega)
  rw [hz1, Int.toNat_natCast] at h
  rw [h, made_zrow]
theorem run_irow (k : Nat) (hk : k ≤ 64) (w : World) : (Instr.makeSlice 50 (.int .i64 (k : Int)) (.int .i64 (k : Int))).run Try.prog w = .ok (.slice (some ⟨w.heap.size, 0, none⟩) k k) (w.alloc (.cells (irow k) 3)) := by
  obtain ⟨i0, hi0, hz0, hz1, hz2⟩ := info_parts info_int
  have h := run_make (P := Try.prog) w 50 3 i0 _ Try.underlying50 hi0 hz0 .i64 .i64 k k (by omega) (Int.le_refl _) (by rw [hz2]; omega) (by omega)
  rw [hz1, Int.toNat_natCast] at h
  rw [h, made_irow]
theorem flash_made (W : World) (g bb wb n m k : Nat) (fg fb fw : TypeId) (hg : W.heap[g]? = some (Obj.cells #[.slice (some ⟨bb, 0, none⟩) k k, .int .i64 (m : Int), .slice (some ⟨wb, 0, none⟩) n n, .int .i64 0, .bool false, .int .i64 0, .bool false] fg (0, 0))) (hb : W.heap[bb]? = some (Obj.cells (zrow k) fb (0, 0))) (hw : W.heap[wb]? = some (Obj.cells (irow n) fw (0, 0)))
    (ne : g ≠ bb ∧ g ≠ wb ∧ bb ≠ wb) (h1 : 1 ≤ n) (h2 : n ≤ 64) (h3 : 16 ≤ m) (h4 : m ≤ 4096) (hk : n * m = k) : FlashAt W g bb wb { fresh n m with dat := List.replicate k 0 } := by
  have ok := fresh_ok h1 h2 h3 h4
  have cg : ∀ j v, (#[.slice (some ⟨bb, 0, none⟩) k k, .int .i64 (m : Int), .slice (some ⟨wb, 0, none⟩) n n, .int .i64 0, .bool false, .int .i64 0, .bool false] : Array Value)[j]? = some v → W.cell? ⟨g, j, none⟩ = some v := fun j v hv => by rw [cell_of_row _ _ _ _ _ _ hg]; exact hv
  have hlt : ∀ (x : Nat) (o : Obj), W.heap[x]? = some o → x < W.heap.size := fun x o h => (Array.getElem?_eq_some_iff.1 h).1
  have hL : (fresh n m).dat.length = k := by simp [fresh, hk]
  refine ⟨?_, cg 1 _ rfl, ?_, cg 3 _ rfl, cg 4 _ rfl, cg 5 _ rfl, cg 6 _ rfl, fun j hj => ?_, fun j v hj => ?_, fun j hj => ?_, fun j v hj => ?_, fun j hj => ?_, ne, ⟨hlt _ _ hg, hlt _ _ hb, hlt _ _ hw⟩, ⟨ok.sec, by simp [fresh, hk], ok.wear, ok.turned, ok.each, ok.int⟩⟩
  · rw [List.length_replicate]; exact cg 0 _ rfl
  · show W.cell? _ = some (.slice _ (List.replicate n 0).length (List.replicate n 0).length); rw [List.length_replicate]; exact cg 2 _ rfl
  · rw [Nat.zero_add, frozen_of_row _ _ _ _ _ hg, cell_of_row _ _ _ _ _ _ hg]
    refine ⟨?_, rfl⟩
    rcases (by omega : j = 0 ∨ j = 1 ∨ j = 2 ∨ j = 3 ∨ j = 4 ∨ j = 5 ∨ j = 6) with rfl | rfl | rfl | rfl | rfl | rfl | rfl <;> rfl
  · rw [Nat.zero_add, cell_of_row _ _ _ _ _ _ hb, zrow, List.getElem?_toArray]; exact hj
  · rw [Nat.zero_add, frozen_of_row _ _ _ _ _ hb, cell_of_row _ _ _ _ _ _ hb, zrow, List.getElem?_toArray, U8_get]
    simp only [List.length_replicate] at hj
    rw [List.getElem?_replicate, if_pos hj]
    exact ⟨rfl, rfl⟩
  · rw [Nat.zero_add, cell_of_row _ _ _ _ _ _ hw, irow, List.getElem?_toArray]; exact hj
  · rw [Nat.zero_add, frozen_of_row _ _ _ _ _ hw, cell_of_row _ _ _ _ _ _ hw, irow, List.getElem?_toArray, Nats_get]
    have hj' : j < n := by simpa [fresh] using hj
    rw [List.getElem?_replicate, if_pos hj']
    exact ⟨rfl, rfl⟩
theorem erased (W w' : World) (g bb wb n m k : Nat) (h : FlashAt W g bb wb { fresh n m with dat := List.replicate k 0 }) (hk : n * m = k) (hr : w'.rangeAt bb 0 (U8 (setAll (List.replicate k 0) 0 k))) (ht : w'.there bb 0 (List.replicate k (0 : UInt8)).length) (hO : Only W.heap.size bb W w') : FlashAt w' g bb wb (fresh n m) := by
  have := h.bytes hO _ (setAll_length _ _ _) hr (by rw [setAll_length]; exact ht)
  rw [setAll_all] at this
  have he : fresh n m = { fresh n m with dat := List.replicate k 255 } := by unfold fresh; rw [hk]
  rw [he]; exact this
set_option maxRecDepth 100000 in
set_option maxHeartbeats 800000 in
theorem new_f (w : World) (a b : Int) (n m : Nat) (hn : min (max a 1) 64 = (n : Int)) (hm : min (max b 16) 4096 = (m : Int)) :
    Calls Try.prog 21 #[.int .i64 a, .int .i64 b] w fun e w' => ∃ g bb wb, e = .returned (.pointer (some ⟨g, 0, none⟩)) ∧ FlashAt w' g bb wb (fresh n m) ∧ Below w.heap.size w w' ∧ w.heap.size ≤ g ∧ w.heap.size ≤ bb ∧ w.heap.size ≤ wb := by
  have h1 : 1 ≤ n := by omega
  have h2 : n ≤ 64 := by omega
  have h3 : 16 ≤ m := by omega
  have h4 : m ≤ 4096 := by omega
  obtain ⟨k, hk⟩ : ∃ k, n * m = k := ⟨_, rfl⟩
  have hks : k ≤ 262144 := by rw [← hk]; exact Nat.le_trans (Nat.mul_le_mul h2 h4) (by decide)
  have hmul : (n : Int) * (m : Int) = (k : Int) := by rw [← hk]; push_cast; rfl
  have hw : IntKind.i64.wrap (k : Int) = (k : Int) := by rw [IntKind.wrap_i64]; omega
  have hz := run_zrow k hks
  have hi := run_irow n h2
  have HK := Lib.hid hk
  have HS := Lib.hid (And.intro h1 (And.intro h2 (And.intro h3 (And.intro h4 hks))))
  clear hk h1 h2 h3 h4 hks
  go_enter Try.func21, Try.ntmps21
  go_wp2
  go_region
  · have hW : ∀ W : World, W = (((w.alloc (.cells (zrow k) 5)).alloc (.cells (irow n) 3)).alloc (.cells #[.slice (some ⟨w.heap.size, 0, none⟩) k k, .int .i64 (m : Int), .slice (some ⟨w.heap.size + 1, 0, none⟩) n n, .int .i64 0, .bool false, .int .i64 0, .bool false] 63)).drew → FlashAt W (w.heap.size + 1 + 1) w.heap.size (w.heap.size + 1) { fresh n m with dat := List.replicate k 0 } ∧ Below w.heap.size w W := fun W hW => by
      subst hW
      obtain ⟨h1, h2, h3, h4, h5⟩ := HS.out
      have s1 : (w.alloc (.cells (zrow k) 5)).heap.size = w.heap.size + 1 := alloc_size _ _
      have s2 : ((w.alloc (.cells (zrow k) 5)).alloc (.cells (irow n) 3)).heap.size = w.heap.size + 1 + 1 := by rw [alloc_size, s1]
      refine ⟨flash_made _ _ _ _ n m k 63 5 3 ?_ ?_ ?_ (by omega) h1 h2 h3 h4 HK.out, ((((Below.refl _ w).alloc (Nat.le_refl _) _).alloc (by rw [s1]; omega) _).alloc (by rw [s2]; omega) _).drew⟩
      · rw [← s2]; exact heap_alloc_new _ _
      · exact ((alloc_below _ _).block _ (by rw [s2]; omega)).trans (((alloc_below _ _).block _ (by rw [s1]; omega)).trans (heap_alloc_new w _))
      · exact ((alloc_below _ _).block _ (by rw [s2]; omega)).trans (by rw [← s1]; exact heap_alloc_new _ _)
    go_wp2_with (go_at_call 35; refine (erase_f _ w.heap.size 0 k k (List.replicate k 0) ?_ ?_ ?_ ?_).mono ?_; exact (hW _ rfl).1.dat; exact (hW _ rfl).1.datw; (rw [List.length_replicate]; omega); (have := HS.out.2.2.2.2; omega); rintro e w4 ⟨rfl, r4, t4, o4⟩)
    go_ret
    exact ⟨_, _, _, rfl, erased _ w4 _ _ _ n m k (hW _ rfl).1 HK.out r4 t4 o4, (hW _ rfl).2.trans (Only.toBelow (g := w.heap.size) (B' := w.heap.size) o4 (hW _ rfl).2.size (by omega)), by omega, by omega, by omega⟩
  · have hW : ∀ W : World, W = (((w.alloc (.cells (irow n) 3)).alloc (.cells (zrow k) 5)).alloc (.cells #[.slice (some ⟨w.heap.size + 1, 0, none⟩) k k, .int .i64 (m : Int), .slice (some ⟨w.heap.size, 0, none⟩) n n, .int .i64 0, .bool false, .int .i64 0, .bool false] 63)).drew → FlashAt W (w.heap.size + 1 + 1) (w.heap.size + 1) w.heap.size { fresh n m with dat := List.replicate k 0 } ∧ Below w.heap.size w W := fun W hW => by
      subst hW
      obtain ⟨h1, h2, h3, h4, h5⟩ := HS.out
      have s1 : (w.alloc (.cells (irow n) 3)).heap.size = w.heap.size + 1 := alloc_size _ _
      have s2 : ((w.alloc (.cells (irow n) 3)).alloc (.cells (zrow k) 5)).heap.size = w.heap.size + 1 + 1 := by rw [alloc_size, s1]
      refine ⟨flash_made _ _ _ _ n m k 63 5 3 ?_ ?_ ?_ (by omega) h1 h2 h3 h4 HK.out, ((((Below.refl _ w).alloc (Nat.le_refl _) _).alloc (by rw [s1]; omega) _).alloc (by rw [s2]; omega) _).drew⟩
      · rw [← s2]; exact heap_alloc_new _ _
      · exact ((alloc_below _ _).block _ (by rw [s2]; omega)).trans (by rw [← s1]; exact heap_alloc_new _ _)
      · exact ((alloc_below _ _).block _ (by rw [s2]; omega)).trans (((alloc_below _ _).block _ (by rw [s1]; omega)).trans (heap_alloc_new w _))
    go_wp2_with (go_at_call 35; refine (erase_f _ (w.heap.size + 1) 0 k k (List.replicate k 0) ?_ ?_ ?_ ?_).mono ?_; exact (hW _ rfl).1.dat; exact (hW _ rfl).1.datw; (rw [List.length_replicate]; omega); (have := HS.out.2.2.2.2; omega); rintro e w4 ⟨rfl, r4, t4, o4⟩)
    go_ret
    exact ⟨_, _, _, rfl, erased _ w4 _ _ _ n m k (hW _ rfl).1 HK.out r4 t4 o4, (hW _ rfl).2.trans (Only.toBelow (g := (w.heap.size + 1)) (B' := w.heap.size) o4 (hW _ rfl).2.size (by omega)), by omega, by omega, by omega⟩
end Go.Proofs.Ytpdlipkmojhnnaa
