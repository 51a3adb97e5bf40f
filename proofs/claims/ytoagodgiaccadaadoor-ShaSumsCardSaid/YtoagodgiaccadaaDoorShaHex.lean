/-
  A digest as digits.
-/
import Derived.Great.Ranges
import Derived.Deep.RegionHeldLaw
import Derived.Deep.AppendLies
import Derived.Test.YtoagodgiaccadaaDoorShaEnd
namespace Go.Proofs.YtoagodgiaccadaaDoor
open Go.RowKit
/-- The sign of four bits. -/
def hexd (n : Nat) : UInt8 := UInt8.ofNat (if n < 10 then 48 + n else 87 + n)
/-- Bytes as signs. -/
def hexOf (l : List UInt8) : List UInt8 := l.flatMap fun b => [hexd (b.toNat / 16), hexd (b.toNat % 16)]
theorem hex_take : ∀ (L : List UInt8) (k : Nat) (x : UInt8), L[k]? = some x → hexOf (L.take (k + 1)) = hexOf (L.take k) ++ [hexd (x.toNat / 16), hexd (x.toNat % 16)] := fun L k x h => by
  unfold hexOf
  rw [List.take_add_one, h, List.flatMap_append]; rfl
theorem size_d : (Tryd.prog.info? 25).map (·.size) = some 32 := by kernel_rfl
theorem hexOf_length (l : List UInt8) : (hexOf l).length = 2 * l.length := by
  induction l with
  | nil => rfl
  | cons x l ih =>
    have : (hexOf (x :: l)).length = 2 + (hexOf l).length := by unfold hexOf; rw [List.flatMap_cons, List.length_append]; rfl
    rw [this, ih, List.length_cons]; omega
theorem and15 : ∀ n : Nat, n < 256 → bits .and .u8 (n : Int) 15 = ((n % 16 : Nat) : Int) := by decide +kernel
theorem hex_index (n : Nat) (hn : n < 16) (w : World) : (Instr.index 9 (.string ⟨#[48, 49, 50, 51, 52, 53, 54, 55, 56, 57, 97, 98, 99, 100, 101, 102]⟩) (.int .u8 (n : Int))).run Tryd.prog w = .ok (.int .u8 ((hexd n).toNat : Int)) w := by
  have : n = 0 ∨ n = 1 ∨ n = 2 ∨ n = 3 ∨ n = 4 ∨ n = 5 ∨ n = 6 ∨ n = 7 ∨ n = 8 ∨ n = 9 ∨ n = 10 ∨ n = 11 ∨ n = 12 ∨ n = 13 ∨ n = 14 ∨ n = 15 := by omega
  rcases this with rfl | rfl | rfl | rfl | rfl | rfl | rfl | rfl | rfl | rfl | rfl | rfl | rfl | rfl | rfl | rfl <;> rfl
set_option maxRecDepth 100000 in
set_option maxHeartbeats 800000 in
theorem hex_any (w : World) (l : List UInt8) (hl : l.length = 32) : Calls Tryd.prog 16 #[.agg (U8 l).toArray] w fun e w' => e = .returned (.string ⟨(hexOf l).toArray⟩) ∧ Below w.heap.size w w' := by
  obtain ⟨i0, hi0, hz0, hz1, hz2⟩ := info_parts info_u8
  have harr : (U8 l).toArray.size = 32 := by simp [U8_length, hl]
  go_enter Tryd.func16, Tryd.ntmps16
  go_wp2_with (first
    | refine Great.wpList_boxTo rfl 25 _ rfl (some 1) rfl w.heap.size rfl (U8 l).toArray rfl ?_
    | refine wpList_make_part _ rfl (.const (.int .i64 0)) (.const (.int .i64 64)) 27 rfl (w.heap.size + 1) 5 i0 Tryd.underlying27 hi0 hz0 hz1 hz2 .i64 .i64 _ _ 0 64 rfl rfl rfl rfl (by omega) (by omega) (by simp) ?_; intro w1 hown hgr; have hb1 : Below w.heap.size w w1 := ((Below.refl _ w).alloc (Nat.le_refl _) _).grown hgr (by simp) (fun _ h => by cases h); have hb2 : Below (w.heap.size + 1) (w.alloc (.cells (U8 l).toArray 25)) w1 := (Below.refl _ _).grown hgr (by simp) (fun _ h => by cases h); have hD : w1.rangeAt w.heap.size 0 (U8 l) := range_below (fun j v hj => by rw [Nat.zero_add, cell_of_row _ _ _ _ _ _ (heap_alloc_new w _), ← Array.getElem?_toList]; exact hj) hb2 (by omega)
    | refine wpList_load_mid rfl 25 (.tmp 1) rfl w.heap.size 0 rfl (U8 l) _ hD Tryd.underlying25 rfl (by rw [size_d, U8_length, hl]) ?_)
  have hs1 : w.heap.size + 1 ≤ w1.heap.size := by have := hb2.size; simpa using this
  clear hgr hb2 hD
  have hD := hb1
  clear hD
  generalize hv : (U8 l).toArray = arr at harr
  have Harr := Lib.hid hv
  clear hv
  go_loopw [3, 8] (fun v i wr => ∃ k : Nat, (k : Int) ≤ 32 ∧ i = .int .i64 k ∧ wr.ownsRow (w.heap.size + 1) 5 1 v (2 * k) (U8 (hexOf (l.take k))) ∧ Below w.heap.size w wr ∧ w.heap.size + 1 ≤ wr.heap.size) (fun _ i => fun _ => 32 - (intOf i).toNat)
  case atStart => exact ⟨0, by omega, rfl, by rw [show ∀ o, (w.alloc o).heap.size = w.heap.size + 1 from fun _ => Array.size_push ..] at hown; exact hown, hb1, hs1⟩
  case round =>
    clear hown hb1 hs1
    obtain ⟨k, hk, rfl, hown, hbel, hsz⟩ := hrel
    by_cases hlt : (k : Int) < 32
    · obtain ⟨x, hx⟩ := byte_get (l := l) (k := k) (by omega)
      have hix := fun w => run_index_arr (P := Tryd.prog) w 25 5 32 arr i0 .u8 k (.int .u8 (x.toNat : Int)) Tryd.underlying25 (by omega) hi0 hz1 Tryd.underlying5 (by rw [← Harr.out, List.getElem?_toArray, U8_get, hx]; rfl)
      have Hx := Lib.hid hx
      have hxl := byte_lt x
      clear hx
      have hd1 := hex_index (x.toNat / 16) (by omega)
      have hd2 := hex_index (x.toNat % 16) (by omega)
      rw [show ((x.toNat / 16 : Nat) : Int) = (x.toNat : Int) / 16 by omega] at hd1
      rw [← and15 x.toNat (by omega)] at hd2
      go_wp2
      go_region_held_law (fun _ => True) (trivial) ((refine step_append_lies _ (by rfl) _ _ _ (by rfl) (w.heap.size + 1) 5 i0 _ 1 1 Tryd.underlying27 hi0 hz0 hz1 hz2 rfl (by omega) _ (2 * k) _ (by rfl) ((hown.alloc _).drew) ⟨wr.heap.size, 0, none⟩ 2 2 [.int .u8 ((hexd (x.toNat / 16)).toNat : Int), .int .u8 ((hexd (x.toNat % 16)).toNat : Int)] (by rfl) (by rfl) (World.news_of_block (fr := (0, 0)) (heap_alloc_new wr _)) (by simp [Value.oneCell']) (by omega) (by simp only [maxLen]; omega) (by omega) (by simp; omega) (wr.heap.size + 1) (by simp) ?_; intro gg cap w2 hown1 hgrow hat hlt2))
      all_goals
        have hcat : U8 (hexOf (l.take k)) ++ [.int .u8 ((hexd (x.toNat / 16)).toNat : Int), .int .u8 ((hexd (x.toNat % 16)).toNat : Int)] = U8 (hexOf (l.take (k + 1))) := by
          rw [hex_take l k x Hx.out, U8_append]; rfl
        rw [hcat] at hown1
        have hb3 : Below w.heap.size w w2 := ((hbel.alloc (by omega) _).drew).grown hgrow (by simp; omega) (fun g hg => by have := own_ge hown g hg; omega)
        have hs3 : w.heap.size + 1 ≤ w2.heap.size := by have := hgrow.size; simp at this; omega
        go_wp2
        go_roundw
      all_goals first
        | (case rel => exact ⟨k + 1, by omega, by go_num, hown1, hb3, hs3⟩)
        | (case measure => simp [intOf]; omega)
        | skip
    · obtain rfl : k = 32 := by omega
      rw [List.take_of_length_le (by omega)] at hown
      obtain ⟨A, c, rfl, hc, hbs⟩ := Bs.of_own hown
      obtain ⟨b, o, rfl, hb, hcell⟩ := hbs.place (by omega)
      have hlh : (hexOf l).length = 64 := by rw [hexOf_length, hl]
      have hcv := run_convert_bytes_back (P := Tryd.prog) wr 27 9 5 ⟨b, o, none⟩ c (hexOf l) Tryd.underlying27 Tryd.underlying5 Tryd.underlying9 (fun j hj => by rw [Addr.add_lit]; exact hcell j _ (List.getElem?_eq_getElem hj))
      rw [hlh] at hcv
      have h64 : 2 * 32 = 64 := rfl
      rw [h64]
      clear hcell hbs hown hc
      go_wp2
      go_ret
      exact ⟨rfl, hbel⟩
end Go.Proofs.YtoagodgiaccadaaDoor
