/-
  Bytes copied (for seats without the texts of layer 1).
-/
import Derived.Test.YtkacgdhcacclcaaDoorMem
namespace Go.Proofs.YtkacgdhcacclcaaDoor
open Go.RowKit
set_option maxRecDepth 100000
set_option maxHeartbeats 400000 in
theorem copy_any (A : Option Addr) (n c : Nat) (l : List UInt8) (w : World) (B : Nat) (hbs : Bs w B A n l) (hB : B ≤ w.heap.size) (hn : (n : Int) ≤ 65536) :
    Calls Tryd.prog 56 #[.slice A n c] w (RetOwn 5 l w) := by
  obtain ⟨i0, hi0, hz0, hz1, hz2⟩ := info_parts info_u8
  have hlen := Lib.hid hbs.len
  go_enter Tryd.func56, Tryd.ntmps56
  go_wp2
  go_loopw [3, 4] (fun v i wr => ∃ k : Nat, k ≤ n ∧ i = .int .i64 k ∧ wr.ownsRow w.heap.size 5 1 v k (U8 (l.take k)) ∧ Below w.heap.size w wr) (fun _ i _ => n - (intOf i).toNat)
  case atStart => 
    exact ⟨0, by omega, rfl, World.ownsRow_lit w #[] 0 (Nat.le_refl _) (by simp [maxLen]) rfl, (Below.refl _ _).alloc (Nat.le_refl _) _⟩
  case round =>
    obtain ⟨k, hk, rfl, hown, hbel⟩ := hrel
    have hsz := hbel.size
    have hbs1 := hbs.below' hbel hB
    by_cases hlt : k < n
    · obtain ⟨b, off, rfl, hb, hc⟩ := hbs1.place (by omega)
      obtain ⟨u, hu⟩ := byte_get (l := l) (k := k) (by rw [hlen.out]; omega)
      have hck := hc k u hu
      clear hc
      have Hu := Lib.hid hu; clear hu
      go_wp2_with (at_builtin; refine wpList_append_bs _ rfl (.tmp 12) (.tmp 17) 22 rfl w.heap.size 5 i0 Tryd.underlying22 hi0 hz0 hz1 hz2 _ k _ rfl (hown.alloc _) (wr.heap.size + 1) (some ⟨wr.heap.size, 0, none⟩) 1 _ [u] rfl (Bs.new_ wr 5 [u] (0, 0)) (by omega) (by simp; omega) ?_; intro v' w1 hown1 hgrow)
      go_roundw
      case rel => exact ⟨k + 1, by omega, by go_num, by rw [take_snoc_U8 Hu.out] at hown1; exact hown1, (hbel.alloc hsz _).grown hgrow (by simp; omega) (own_ge hown)⟩
      case measure => simp [intOf]; omega
    · go_wp2
      go_ret
      obtain rfl : k = n := by omega
      rw [List.take_of_length_le (by rw [hlen.out]; omega)] at hown
      exact ⟨_, rfl, by rw [hlen.out]; exact hown, hbel⟩
end Go.Proofs.YtkacgdhcacclcaaDoor
