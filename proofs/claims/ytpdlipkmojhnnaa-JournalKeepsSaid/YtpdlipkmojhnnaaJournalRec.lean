/-
  A journal's record but for its mark; a record written.
-/
import Derived.Test.YtpdlipkmojhnnaaCrcRun
import Derived.Test.YtpdlipkmojhnnaaPart
namespace Go.Proofs.Ytpdlipkmojhnnaa
open Go.RowKit
set_option maxRecDepth 100000
theorem own_trans {w0 w w' : World} {e : TypeId} {l : List UInt8} {x : Ending} (hB : Below w0.heap.size w0 w) (h : RetOwn e l w x w') : RetOwn e l w0 x w' := by
  obtain ⟨v, h1, h2, h3⟩ := h
  have hs := hB.size
  refine ⟨v, h1, ⟨h2.1, ?_⟩, hB.trans (h3.mono hs)⟩
  rcases h2.2 with h' | ⟨g, cap, cur, e1, hb, hr⟩
  · exact .inl h'
  · exact .inr ⟨g, cap, cur, e1, Nat.le_trans hs hb, hr⟩
set_option maxHeartbeats 800000 in
theorem record_f (w : World) (key size : Nat) (A : Option Addr) (n c : Nat) (l : List UInt8) (hb : Bs w w.heap.size A n l) (hn : (n : Int) ≤ 65000) :
    Calls Try.prog 30 #[.int .i64 (key : Int), .int .i64 (size : Int), .slice A n c] w (RetOwn 5 (seals (UInt8.ofNat key :: UInt8.ofNat size :: l)) w) := by
  obtain ⟨i0, hi0, hz0, hz1, hz2⟩ := info_parts info_u8
  have hlen := Lib.hid hb.len
  have h2 : (#[Value.int .u8 ((key : Int) % 256), Value.int .u8 ((size : Int) % 256)] : Array Value).toList = U8 [UInt8.ofNat key, UInt8.ofNat size] := by
    have e1 : (key : Int) % 256 = ((UInt8.ofNat key).toNat : Int) := by rw [UInt8.toNat_ofNat', show (2 : Nat) ^ 8 = 256 from rfl, Int.natCast_emod]; rfl
    have e2 : (size : Int) % 256 = ((UInt8.ofNat size).toNat : Int) := by rw [UInt8.toNat_ofNat', show (2 : Nat) ^ 8 = 256 from rfl, Int.natCast_emod]; rfl
    rw [e1, e2]; rfl
  have hown := World.ownsRow_lit (base := w.heap.size) (e := 5) (size := 1) w #[Value.int .u8 ((key : Int) % 256), Value.int .u8 ((size : Int) % 256)] 2 (Nat.le_refl _) (by simp [maxLen]) rfl
  rw [h2] at hown
  have HO := Lib.hid hown
  clear h2 hown
  go_enter Try.func30, Try.ntmps30
  go_wp2_with (at_builtin; refine wpList_append_bs _ rfl (.tmp 11) (.tmp 12) 35 rfl w.heap.size 5 i0 Try.underlying35 hi0 hz0 hz1 hz2 _ 2 _ rfl HO.out w.heap.size A n c l rfl (hb.alloc (Nat.le_refl _) _) (by omega) (by simp) ?_; intro v' w1 hown1 hgrow)
  rw [← U8_append] at hown1
  have B1 : Below w.heap.size w w1 := ((Below.refl _ w).alloc (Nat.le_refl _) _).grown hgrow (by simp) (own_ge HO.out)
  obtain ⟨A', c', rfl, hcc, bm⟩ := Bs.of_own hown1
  refine (seal_any A' (2 + n) c' _ w1 w1.heap.size bm (Nat.le_refl _) (by omega)).mono ?_
  intro e w2 h
  have h' := own_trans B1 h
  obtain ⟨v, rfl, hv⟩ := h'
  go_wp2
  go_ret
  exact ⟨v, rfl, hv⟩
end Go.Proofs.Ytpdlipkmojhnnaa
