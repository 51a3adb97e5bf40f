/-
  Bits turned.
-/
import Derived.Test.YtiieianbmldnbaaDoorCrcNums
import Derived.StillTailTactics
import Derived.Deep.AppendLies
import Derived.Test.YtiieianbmldnbaaDoorCrcOps
namespace Go.Proofs.YtiieianbmldnbaaDoor
open Go.RowKit
set_option maxRecDepth 100000
theorem mask_walk (x : BitVec 32) (k : Nat) : bits .and .u32 ((x.toNat : Int) / (2 : Int) ^ k) 1 = if x.getLsbD k then 1 else 0 := by
  rw [shr32, low_walk]
  simp
theorem bit8 (i : Nat) : ((bitOf i).toNat : Int) = 2 ^ (i % 8) := by rw [bitOf_toNat]; simp
theorem xor8 (u v : UInt8) : bits .xor .u8 (u.toNat : Int) (v.toNat : Int) = ((u ^^^ v).toNat : Int) := by
  rw [u8_xor_nat _ _ (by have := u.toNat_lt; omega) (by have := v.toNat_lt; omega), UInt8.toNat_xor]
theorem U8_setT (l : List UInt8) (i : Nat) (u : UInt8) : U8 (l.set i u) = (U8 l).set i (.int .u8 (u.toNat : Int)) := by
  unfold U8; rw [List.map_set]
set_option maxHeartbeats 800000 in
theorem crcturn_any (A : Option Addr) (n c at_ : Nat) (mask : BitVec 32) (l : List UInt8) (w : World) (B : Nat) (hbs : Bs w B A n l) (hB : B ≤ w.heap.size) (hn : (n : Int) ≤ 65536) (hat : (at_ : Int) ≤ 65536) :
    Calls Tryd.prog 24 #[.slice A n c, .int .i64 at_, .int .u32 mask.toNat] w (RetOwn 5 (turnN at_ mask l 32) w) := by
  have hlen := Lib.hid hbs.len
  go_enter Tryd.func24, Tryd.ntmps24
  go_wp2_with fail
  refine (rcopy_any A n c l w B hbs hB hn).mono ?_
  rintro e w1 ⟨v, rfl, hown1, hb1⟩
  rw [hlen.out] at hown1
  have hv : ∃ A1 c1, v = .slice A1 n c1 := by
    obtain ⟨A1, c1, hv, _⟩ := Bs.of_own hown1
    exact ⟨A1, c1, hv⟩
  obtain ⟨A1, c1, rfl⟩ := hv
  go_wp2_with fail
  go_loopw [8] (fun i wr => ∃ k : Nat, k ≤ 32 ∧ i = .int .i64 k ∧ wr.ownsRow w.heap.size 5 1 (.slice A1 n c1) n (U8 (turnN at_ mask l k)) ∧ Below w.heap.size w wr) (fun i _ => 32 - (intOf i).toNat)
  case atStart => exact ⟨0, by omega, rfl, hown1, hb1⟩
  case round =>
    obtain ⟨k, hk, rfl, hown, hbel⟩ := hrel
    have hsz := hbel.size
    by_cases hlt : k < 32
    · by_cases hm : mask.getLsbD k = true
      · by_cases hi : at_ + k < 8 * n
        · have ht : (bits .and .u32 ((mask.toNat : Int) / 2 ^ k) 1 == 1) = true := by rw [mask_walk, if_pos hm]; rfl
          have Hturn : Hid (turnN at_ mask l (k + 1) = (turnN at_ mask l k).set ((at_ + k) / 8) ((turnN at_ mask l k).getD ((at_ + k) / 8) 0 ^^^ bitOf (at_ + k))) := by
            show turnN at_ mask l (k + 1) = _
            rw [turnN, if_pos ⟨hm, by rw [hlen.out]; exact hi⟩]
          clear hm
          obtain ⟨g, cap, hv, _⟩ := World.ownsRow.form hown (by omega)
          injection hv with hA1 _ hcap
          subst hA1 hcap
          obtain ⟨u, hu⟩ := byte_get (l := turnN at_ mask l k) (k := (at_ + k) / 8) (by rw [turnN_length, hlen.out]; omega)
          have hck : wr.cell? ⟨g, (at_ + k) / 8, none⟩ = some (.int .u8 (u.toNat : Int)) := by
            have := hown.cellAt ((at_ + k) / 8) (by omega)
            rw [this, U8_get, hu]; rfl
          have hfr := hown.frozenAt ((at_ + k) / 8)
          have Hu := Lib.hid hu; clear hu
          have hq : IntKind.i64.wrap (((at_ : Int) + (k : Int)).tdiv 8) = ((at_ : Int) + (k : Int)) / 8 := by
            rw [Int.tdiv_eq_ediv_of_nonneg (by omega), IntWalk.i64_in _ (by omega)]
          have hr : ((at_ : Int) + (k : Int)).tmod 8 = ((at_ : Int) + (k : Int)) % 8 := Int.tmod_eq_emod_of_nonneg (by omega)
          have hq0 : 0 ≤ ((at_ : Int) + (k : Int)) / 8 := by omega
          have hqn : ((at_ : Int) + (k : Int)) / 8 < (n : Int) := by omega
          have hqt : (((at_ : Int) + (k : Int)) / 8).toNat = (at_ + k) / 8 := by omega
          have hr0 : 0 ≤ ((at_ : Int) + (k : Int)) % 8 := by omega
          go_wp2
          go_still_tail 13, (by kernel_rfl)
          have hck2 : World.cell? { heap := wr.heap, tape := wr.tape, drawn := wr.drawn + 1, os := wr.os, output := wr.output } ⟨g, (at_ + k) / 8, none⟩ = some (.int .u8 (u.toNat : Int)) := hck
          have hfr2 : World.frozen? { heap := wr.heap, tape := wr.tape, drawn := wr.drawn + 1, os := wr.os, output := wr.output } ⟨g, (at_ + k) / 8, none⟩ = false := hfr
          go_wp2
          go_roundw
          case rel =>
            refine ⟨k + 1, by omega, by go_num, ?_, ?_⟩
            · have hx : bits .xor .u8 (u.toNat : Int) ((2 : Int) ^ ((at_ + k) % 8) % 256) = ((u ^^^ bitOf (at_ + k)).toNat : Int) := by
                rw [← bit8, Int.emod_eq_of_lt (by omega) (byte_lt _), xor8]
              have hst := hown.stored ((at_ + k) / 8) (.int .u8 (bits .xor .u8 (u.toNat : Int) ((2 : Int) ^ ((at_ + k) % 8) % 256)))
              rw [Hturn.out, U8_setT, List.getD_eq_getElem?_getD, Hu.out, Option.getD_some, ← hx]
              exact hst.1.drew
            · exact (Below.drew hbel).setCell (own_ge hown g rfl) _
          case measure => simp [intOf]; omega
        · have ht : (bits .and .u32 ((mask.toNat : Int) / 2 ^ k) 1 == 1) = true := by rw [mask_walk, if_pos hm]; rfl
          have Hturn : Hid (turnN at_ mask l (k + 1) = turnN at_ mask l k) := by
            show turnN at_ mask l (k + 1) = _
            rw [turnN, if_neg (by rw [hlen.out]; exact fun h => hi h.2)]
          clear hm
          go_wp2
          go_roundw
          case rel => exact ⟨k + 1, by omega, by go_num, by rw [Hturn.out]; exact hown, hbel⟩
          case measure => simp [intOf]; omega
      · have ht : (bits .and .u32 ((mask.toNat : Int) / 2 ^ k) 1 == 1) = false := by rw [mask_walk, if_neg hm]; rfl
        have Hturn : Hid (turnN at_ mask l (k + 1) = turnN at_ mask l k) := by
          show turnN at_ mask l (k + 1) = _
          rw [turnN, if_neg (fun h => hm h.1)]
        clear hm
        go_wp2
        go_roundw
        case rel => exact ⟨k + 1, by omega, by go_num, by rw [Hturn.out]; exact hown, hbel⟩
        case measure => simp [intOf]; omega
    · go_wp2
      go_ret
      obtain rfl : k = 32 := by omega
      exact ⟨_, rfl, by rw [turnN_length, hlen.out]; exact hown, hbel⟩
end Go.Proofs.YtiieianbmldnbaaDoor
