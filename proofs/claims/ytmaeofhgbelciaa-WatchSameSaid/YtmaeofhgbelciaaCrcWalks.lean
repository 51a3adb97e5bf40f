/-
  What the functions of package crc, and those that they are held against, do: one contract each.
-/
import Derived.Test.YtmaeofhgbelciaaRows
import Derived.Test.YtmaeofhgbelciaaBase
import Derived.Test.YtmaeofhgbelciaaCrcMath
import Derived.Test.YtmaeofhgbelciaaMem
namespace Go.Proofs.Ytmaeofhgbelciaa
open Go.RowKit
set_option maxRecDepth 100000

theorem int32 {a : Int} {x : BitVec 32} (h : a = (x.toNat : Int)) : Value.int .u32 a = Value.int .u32 (x.toNat : Int) := by rw [h]
theorem ret32 {a : Int} {x : BitVec 32} (h : a = (x.toNat : Int)) : Ending.returned (.int .u32 a) = .returned (.int .u32 (x.toNat : Int)) := by rw [h]
theorem neg32 (r : BitVec 32) : POLY &&& -(r &&& 1#32) = if r.getLsbD 0 then POLY else 0#32 := by
  have h : r &&& 1#32 = if r.getLsbD 0 then 1#32 else 0#32 := by
    apply BitVec.eq_of_toNat_eq
    rw [BitVec.toNat_and]
    have e : r.getLsbD 0 = decide (r.toNat % 2 = 1) := by rw [← BitVec.testBit_toNat, Nat.testBit_zero]
    rw [e]
    by_cases hx : r.toNat % 2 = 1 <;> simp [hx] <;> omega
  rw [h]
  cases r.getLsbD 0 <;> simp [POLY]
/-- The round of Extend's inner loop, as the walk spells it. -/
theorem st_walk (x : BitVec 32) : bits .xor .u32 ((x.toNat : Int) / 2) (bits .and .u32 3988292384 (-bits .and .u32 (x.toNat : Int) 1 % 4294967296)) = ((st x).toNat : Int) := by
  rw [half32, and32, and32, xor32, of32, of32, of32, ofMod32]
  congr 1
  have e : BitVec.ofInt 32 (-((x &&& BitVec.ofInt 32 1).toNat : Int)) = -(x &&& 1#32) := by
    rw [BitVec.ofInt_neg, of32]; rfl
  rw [e, show BitVec.ofInt 32 3988292384 = POLY from rfl, neg32]
  rfl
theorem not32 (x : BitVec 32) : bits .xor .u32 IntKind.u32.max (x.toNat : Int) = ((~~~ x).toNat : Int) := by
  rw [xor32, of32, show BitVec.ofInt 32 IntKind.u32.max = BitVec.allOnes 32 from rfl, BitVec.allOnes_xor]
theorem byte_in (x : BitVec 32) (u : UInt8) : bits .xor .u32 (x.toNat : Int) ((u.toNat : Int) % 4294967296) = ((x ^^^ w8 u).toNat : Int) := by
  rw [xor32, of32, ofMod32, ofByte32]
theorem take_crc {l : List UInt8} {k : Nat} {u : UInt8} (r : BitVec 32) (h : l[k]? = some u) : crcOf r (l.take (k + 1)) = stN 8 (crcOf r (l.take k) ^^^ w8 u) := by
  rw [List.take_add_one, h]
  exact crcOf_snoc _ _ _
theorem retB {a b : Bool} (h : a = b) : Ending.returned (.bool a) = .returned (.bool b) := by rw [h]
theorem byte_ne {a b : UInt8} (h : a ≠ b) : ((a.toNat : Int) == (b.toNat : Int)) = false := by
  rw [beq_eq_false_iff_ne]; intro e; exact h (UInt8.toNat_inj.1 (by omega))
theorem take_eq_step {a b : List UInt8} {k : Nat} {u : UInt8} (h : a.take k = b.take k) (ha : a[k]? = some u) (hb : b[k]? = some u) : a.take (k + 1) = b.take (k + 1) := by
  rw [List.take_add_one, List.take_add_one, h, ha, hb]
set_option maxHeartbeats 400000 in
theorem same_any (A1 A2 : Option Addr) (n1 c1 n2 c2 : Nat) (l1 l2 : List UInt8) (w : World) (B1 B2 : Nat) (h1 : Bs w B1 A1 n1 l1) (h2 : Bs w B2 A2 n2 l2) (hn : (n1 : Int) ≤ 9223372036854775807) (hn2 : (n2 : Int) ≤ 9223372036854775807) :
    Calls Try.prog 16 #[.slice A1 n1 c1, .slice A2 n2 c2] w fun e w' => e = .returned (.bool (decide (l1 = l2))) ∧ ∃ m, w' = w.drewN m := by
  have hl1 := Lib.hid h1.len
  have hl2 := Lib.hid h2.len
  by_cases hne : n1 = n2
  · obtain rfl := hne
    have hb : ((n1 : Int) != (n1 : Int)) = false := by simp
    go_enter Try.func16, Try.ntmps16
    go_wp2
    go_loopw [5] (fun i wr => ∃ k : Nat, k ≤ n1 ∧ i = .int .i64 k ∧ l1.take k = l2.take k ∧ ∃ m, wr = w.drewN m) (fun i _ => n1 - (intOf i).toNat)
    case atStart => exact ⟨0, by omega, rfl, rfl, 0, rfl⟩
    case round =>
      obtain ⟨k, hk, rfl, htk, q, rfl⟩ := hrel
      have Htk := Lib.hid htk; clear htk
      by_cases hlt : k < n1
      · obtain ⟨b1, o1, rfl, hb1, hc1⟩ := h1.place (by omega)
        obtain ⟨b2, o2, rfl, hb2, hc2⟩ := h2.place (by omega)
        obtain ⟨u1, hu1⟩ := byte_get (l := l1) (k := k) (by rw [hl1.out]; omega)
        obtain ⟨u2, hu2⟩ := byte_get (l := l2) (k := k) (by rw [hl2.out]; omega)
        have hk1 := hc1 k u1 hu1
        have hk2 := hc2 k u2 hu2
        clear hc1 hc2
        by_cases hu : u1 = u2
        · subst hu
          have Hu1 := Lib.hid hu1; have Hu2 := Lib.hid hu2
          clear hu1 hu2
          go_wp2
          go_quiet (fail)
          go_wp2
          go_roundw
          case rel => exact ⟨k + 1, by omega, by go_num, take_eq_step Htk.out Hu1.out Hu2.out, _, rfl⟩
          case measure => simp [intOf]; omega
        · have hbne := byte_ne hu
          have Hd : Hid (l1 ≠ l2) := by
            intro e; subst e; rw [hu1] at hu2; exact hu (Option.some.inj hu2)
          clear hu1 hu2 hu
          go_wp2
          go_quiet (fail)
          go_wp2
          go_ret
          exact ⟨retB (decide_eq_false Hd.out).symm, q + nq, World.drewN_drewN ..⟩
      · go_wp2
        go_ret
        refine ⟨retB (decide_eq_true ?_).symm, _, rfl⟩
        have h3 := Htk.out
        rwa [List.take_of_length_le (by rw [hl1.out]; omega), List.take_of_length_le (by rw [hl2.out]; omega)] at h3
  · have hb : ((n1 : Int) != (n2 : Int)) = true := by rw [bne_iff_ne]; omega
    have Hd : Hid (l1 ≠ l2) := by intro e; subst e; exact hne (hl1.out.symm.trans hl2.out)
    clear hne
    go_enter Try.func16, Try.ntmps16
    go_wp2
    go_ret
    exact ⟨retB (decide_eq_false Hd.out).symm, 0, rfl⟩
set_option maxHeartbeats 400000 in
theorem rcopy_any (A : Option Addr) (n c : Nat) (l : List UInt8) (w : World) (B : Nat) (hbs : Bs w B A n l) (hB : B ≤ w.heap.size) (hn : (n : Int) ≤ 65536) :
    Calls Try.prog 38 #[.slice A n c] w (RetOwn 5 l w) := by
  obtain ⟨i0, hi0, hz0, hz1, hz2⟩ := info_parts info_u8
  have hlen := Lib.hid hbs.len
  go_enter Try.func38, Try.ntmps38
  go_wp2
  go_loopw [3, 4] (fun v i wr => ∃ k : Nat, k ≤ n ∧ i = .int .i64 k ∧ wr.ownsRow w.heap.size 5 1 v k (U8 (l.take k)) ∧ Below w.heap.size w wr) (fun _ i _ => n - (intOf i).toNat)
  case atStart => 
    exact ⟨0, by omega, rfl, World.ownsRow_lit w #[] 0 (Nat.le_refl _) (by simp [maxLen]) rfl, (Below.refl _ _).alloc (Nat.le_refl _) _⟩
  case round =>
    obtain ⟨k, hk, rfl, hown, hbel⟩ := hrel
    have hsz := hbel.size
    have hbs1 := hbs.below' hbel hB
    by_cases hlt : k < n
    · obtain ⟨b, off, rfl, hb, hc⟩ := hbs1.place (by omega)
      obtain ⟨u, hu⟩ := byte_get (l := l) (k := k) (by rw [hlen.out]; omega)
      have hck := hc k u hu
      clear hc
      have Hu := Lib.hid hu; clear hu
      go_wp2_with (at_builtin; refine wpList_append_bs _ rfl (.tmp 12) (.tmp 17) 31 rfl w.heap.size 5 i0 Try.underlying31 hi0 hz0 hz1 hz2 _ k _ rfl (hown.alloc _) (wr.heap.size + 1) (some ⟨wr.heap.size, 0, none⟩) 1 _ [u] rfl (Bs.new_ wr 5 [u] (0, 0)) (by omega) (by simp; omega) ?_; intro v' w1 hown1 hgrow)
      go_roundw
      case rel => exact ⟨k + 1, by omega, by go_num, by rw [take_snoc_U8 Hu.out] at hown1; exact hown1, (hbel.alloc hsz _).grown hgrow (by simp; omega) (own_ge hown)⟩
      case measure => simp [intOf]; omega
    · go_wp2
      go_ret
      obtain rfl : k = n := by omega
      rw [List.take_of_length_le (by rw [hlen.out]; omega)] at hown
      exact ⟨_, rfl, by rw [hlen.out]; exact hown, hbel⟩
end Go.Proofs.Ytmaeofhgbelciaa
