/-
  The document's value as bytes.
-/
import Derived.Test.YtkacgdhcacclcaaDoorVaWire
import Derived.Test.YtkacgdhcacclcaaDoorRefCopy
import Derived.Test.YtkacgdhcacclcaaDoorPlWrite
namespace Go.Proofs.YtkacgdhcacclcaaDoor
open Go.RowKit
set_option maxRecDepth 100000
set_option linter.unusedVariables false
theorem WireRet.lit (w : World) (o : Obj) (cs : Array Value) (l : List UInt8) (h : cs.toList = U8 l) (hm : l.length ≤ maxLen) : WireRet l w (.returned (.slice (some ⟨w.heap.size + 1, 0, none⟩) l.length l.length)) ((w.alloc o).alloc (.cells cs 5)) := by
  have hcs : cs.size = l.length := by rw [← Array.length_toList, h, U8_length]
  have ho : ((w.alloc o).alloc (.cells cs 5)).ownsRow (w.alloc o).heap.size 5 1 (.slice (some ⟨(w.alloc o).heap.size, 0, none⟩) l.length l.length) l.length (U8 l) := by
    have := World.ownsRow_lit (e := 5) (size := 1) (w.alloc o) cs l.length (Nat.le_refl _) hm (by rw [hcs, Nat.mul_one])
    rw [h] at this
    exact this
  have hn := (NewB.of_own ho).2
  rw [alloc_size] at hn
  refine ⟨_, _, _, rfl, Nat.le_refl _, rfl, ⟨by have := hn.bs; exact this, fun ad e => Nat.le_trans (by omega) (hn.fresh ad e), hn.there⟩, ((Below.refl _ w).alloc (Nat.le_refl _) o).alloc (by rw [alloc_size]; omega) _⟩
/-- Does a number need no more than so many bytes? -/
def fitsZ (n : Int) (z : Nat) : Bool := if z = 1 then decide (-128 ≤ n ∧ n ≤ 127) else if z = 2 then decide (-32768 ≤ n ∧ n ≤ 32767) else decide (-2147483648 ≤ n ∧ n ≤ 2147483647)
theorem within_f (n : Int) (z : Nat) (hz : z = 1 ∨ z = 2 ∨ z = 4) (w : World) : Calls Tryd.prog 55 #[.int .i64 n, .int .i64 (z : Int)] w fun e w' => e = .returned (.bool (fitsZ n z)) ∧ w' = w := by
  obtain ⟨q, hq⟩ : ∃ q, fitsZ n z = q := ⟨_, rfl⟩
  rw [hq]
  unfold fitsZ at hq
  rcases hz with rfl | rfl | rfl
  · rw [if_pos rfl] at hq
    go_enter Tryd.func55, Tryd.ntmps55
    by_cases a : n ≤ 127
    · by_cases b : n ≥ -128
      · have e : q = true := by rw [← hq]; exact decide_eq_true ⟨b, a⟩
        subst e; clear hq
        go_wp2
        go_ret
        exact ⟨rfl, rfl⟩
      · have e : q = false := by rw [← hq]; exact decide_eq_false (by omega)
        subst e; clear hq
        go_wp2
        go_ret
        exact ⟨rfl, rfl⟩
    · have e : q = false := by rw [← hq]; exact decide_eq_false (by omega)
      subst e; clear hq
      go_wp2
      go_ret
      exact ⟨rfl, rfl⟩
  · rw [if_neg (by decide), if_pos rfl] at hq
    go_enter Tryd.func55, Tryd.ntmps55
    by_cases a : n ≤ 32767
    · by_cases b : n ≥ -32768
      · have e : q = true := by rw [← hq]; exact decide_eq_true ⟨b, a⟩
        subst e; clear hq
        go_wp2
        go_ret
        exact ⟨rfl, rfl⟩
      · have e : q = false := by rw [← hq]; exact decide_eq_false (by omega)
        subst e; clear hq
        go_wp2
        go_ret
        exact ⟨rfl, rfl⟩
    · have e : q = false := by rw [← hq]; exact decide_eq_false (by omega)
      subst e; clear hq
      go_wp2
      go_ret
      exact ⟨rfl, rfl⟩
  · rw [if_neg (by decide), if_neg (by decide)] at hq
    go_enter Tryd.func55, Tryd.ntmps55
    by_cases a : n ≤ 2147483647
    · by_cases b : n ≥ -2147483648
      · have e : q = true := by rw [← hq]; exact decide_eq_true ⟨b, a⟩
        subst e; clear hq
        go_wp2
        go_ret
        exact ⟨rfl, rfl⟩
      · have e : q = false := by rw [← hq]; exact decide_eq_false (by omega)
        subst e; clear hq
        go_wp2
        go_ret
        exact ⟨rfl, rfl⟩
    · have e : q = false := by rw [← hq]; exact decide_eq_false (by omega)
      subst e; clear hq
      go_wp2
      go_ret
      exact ⟨rfl, rfl⟩
theorem fits_width {n : Int} {y : Nat} (hy : y = 1 ∨ y = 2 ∨ y = 4) (h : y ≤ widthQ n) : (fitsZ n y = true → widthQ n = y) ∧ (fitsZ n y = false → y * 2 ≤ widthQ n) := by
  unfold widthQ at *
  unfold fitsZ
  rcases hy with rfl | rfl | rfl
  · rw [if_pos rfl]
    refine ⟨fun e => ?_, fun e => ?_⟩
    · have := of_decide_eq_true e
      rw [if_pos (by omega)]
    · have := of_decide_eq_false e
      rw [if_neg (by omega)]
      repeat' split
      all_goals omega
  · rw [if_neg (by decide), if_pos rfl]
    refine ⟨fun e => ?_, fun e => ?_⟩
    · have := of_decide_eq_true e
      (repeat' split at h) <;> (repeat' split) <;> omega
    · have := of_decide_eq_false e
      (repeat' split at h) <;> (repeat' split) <;> omega
  · rw [if_neg (by decide), if_neg (by decide)]
    refine ⟨fun e => ?_, fun e => ?_⟩
    · have := of_decide_eq_true e
      (repeat' split at h) <;> (repeat' split) <;> omega
    · have := of_decide_eq_false e
      (repeat' split at h) <;> (repeat' split) <;> omega
theorem run_zrows (z : Nat) (hz : z ≤ 8) : ∃ zz : Array Value, zz.toList = U8 (List.replicate z 0) ∧ ∀ W : World, (Instr.makeSlice 22 (.int .i64 (z : Int)) (.int .i64 (z : Int))).run Tryd.prog W = .ok (.slice (some ⟨W.heap.size, 0, none⟩) z z) (W.alloc (.cells zz 5)) := by
  obtain ⟨i0, hi0, hz0, hz1, hz2⟩ := info_parts info_u8
  refine ⟨madeCells (Value.int .u8 0).cells (z * 1), ?_, fun W => ?_⟩
  · rw [Nat.mul_one, show (Value.int .u8 0).cells = #[.int .u8 0] from rfl, toList_madeCells_one]
    unfold U8
    rw [List.map_replicate]
    rfl
  · have h := run_make (P := Tryd.prog) W 22 5 i0 _ Tryd.underlying22 hi0 hz0 .i64 .i64 (z : Int) (z : Int) (by omega) (Int.le_refl _) (by rw [hz2]; omega) (by omega)
    rw [hz1, Int.toNat_natCast] at h
    exact h
theorem byte_of_nat (n : Int) (hn : I64 n) (X : Nat) (hX : (X : Int) = n % 18446744073709551616) (e : Nat) (he : e < 8) : ((byteAt n e).toNat : Int) = ((X / 256 ^ e % 256 : Nat) : Int) := by
  rw [byteAt_val]
  obtain ⟨h0, h1⟩ := hn
  match e, he with
  | 0, _ => rw [show ((2 : Int) ^ (8 * 0)) = 1 by decide, Int.ediv_one, show 256 ^ 0 = 1 from rfl, Nat.div_one]; omega
  | 1, _ => rw [show ((2 : Int) ^ (8 * 1)) = 256 by decide, show 256 ^ 1 = 256 from rfl]; omega
  | 2, _ => rw [show ((2 : Int) ^ (8 * 2)) = 65536 by decide, show 256 ^ 2 = 65536 from rfl]; omega
  | 3, _ => rw [show ((2 : Int) ^ (8 * 3)) = 16777216 by decide, show 256 ^ 3 = 16777216 from rfl]; omega
  | 4, _ => rw [show ((2 : Int) ^ (8 * 4)) = 4294967296 by decide, show 256 ^ 4 = 4294967296 from rfl]; omega
  | 5, _ => rw [show ((2 : Int) ^ (8 * 5)) = 1099511627776 by decide, show 256 ^ 5 = 1099511627776 from rfl]; omega
  | 6, _ => rw [show ((2 : Int) ^ (8 * 6)) = 281474976710656 by decide, show 256 ^ 6 = 281474976710656 from rfl]; omega
  | 7, _ => rw [show ((2 : Int) ^ (8 * 7)) = 72057594037927936 by decide, show 256 ^ 7 = 72057594037927936 from rfl]; omega
theorem drop_set {us : List UInt8} {z r : Nat} {n : Int} {u : UInt8} (hl : us.length = z) (hr : r < z) (hd : us.drop (r + 1) = (bytesQ n z).drop (r + 1)) (hu : byteAt n (z - 1 - r) = u) : (us.set r u).drop r = (bytesQ n z).drop r := by
  have e1 := List.drop_eq_getElem_cons (l := us.set r u) (i := r) (by rw [List.length_set]; omega)
  have e2 := List.drop_eq_getElem_cons (l := bytesQ n z) (i := r) (by rw [bytesQ_len]; omega)
  have h1 := bytesQ_get n z r hr
  rw [List.getElem?_eq_getElem (by rw [bytesQ_len]; omega)] at h1
  rw [e1, e2, List.getElem_set_self, List.drop_set_of_lt (by omega), hd, Option.some.inj h1, hu]
set_option maxHeartbeats 8000000 in
theorem rwire14_f (k n : Int) (s : ByteArray) (bA : Option Addr) (bl bc : Nat) (o i : Int) (l : List UInt8) (w : World) (B : Nat) (hbs : Bs w B bA bl l) (hB : B ≤ w.heap.size) (hl : bl ≤ 65536) (hn : I64 n) (ho : I64 o) (hi : I64 i) (hk : k = 6 → (0 ≤ o ∧ o ≤ 65535 ∧ 0 ≤ i ∧ i ≤ 65535)) (h2 : k = 2 → 0 ≤ n ∧ n ≤ 1) :
    Calls Tryd.prog 29 #[.agg #[.int .i64 k, .int .i64 n, .string s, .slice bA bl bc, .int .i64 o, .int .i64 i]] w (WireRet (wireQ k n s l o i) w) := by
  have B0 := alloc_below w (.cells #[.int .i64 k, .int .i64 n, .string s, .slice bA bl bc, .int .i64 o, .int .i64 i] 24)
  have r0 := range_newV w #[.int .i64 k, .int .i64 n, .string s, .slice bA bl bc, .int .i64 o, .int .i64 i] 24 rfl
  have hcl : ∀ W, Below (w.heap.size + 1) (w.alloc (.cells #[.int .i64 k, .int .i64 n, .string s, .slice bA bl bc, .int .i64 o, .int .i64 i] 24)) W → W.rangeAt w.heap.size 0 [.int .i64 k, .int .i64 n, .string s, .slice bA bl bc, .int .i64 o, .int .i64 i] := fun W h => range_below r0 h (by omega)
  have hbl : ∀ W, Below (w.heap.size + 1) (w.alloc (.cells #[.int .i64 k, .int .i64 n, .string s, .slice bA bl bc, .int .i64 o, .int .i64 i] 24)) W → Below w.heap.size w W := fun W h => B0.trans (h.mono (by omega))
  have hsz : (w.alloc (.cells #[.int .i64 k, .int .i64 n, .string s, .slice bA bl bc, .int .i64 o, .int .i64 i] 24)).heap.size = w.heap.size + 1 := alloc_size _ _
  obtain ⟨W0, hW0⟩ : ∃ W0, w.alloc (.cells #[.int .i64 k, .int .i64 n, .string s, .slice bA bl bc, .int .i64 o, .int .i64 i] 24) = W0 := ⟨_, rfl⟩
  rw [hW0] at hcl hbl hsz
  have HA := Lib.hid (And.intro hW0 (And.intro hcl (And.intro hbl (And.intro hsz (And.intro hbs hB)))))
  clear hW0 hcl hbl hsz r0 B0 hbs hB
  unfold wireQ
  by_cases k15 : k = 1 ∨ k = 5
  · rw [if_pos k15]
    clear hk h2
    obtain ⟨z, hz⟩ : ∃ z, widthQ n = z := ⟨_, rfl⟩
    rw [hz]
    have HZ := Lib.hid hz
    clear hz
    rcases k15 with rfl | rfl
    · go_enter Tryd.func29, Tryd.ntmps29
      go_wp2_with fail
      rw [HA.out.1]
      go_loopw [3] (fun v wr => ∃ y : Nat, v = .int .i64 (y : Int) ∧ (y = 1 ∨ y = 2 ∨ y = 4 ∨ y = 8) ∧ Aside (y ≤ z ∧ wr = W0)) (fun v _ => 8 - (intOf v).toNat)
      case atStart => exact ⟨1, rfl, .inl rfl, (show Aside _ from ⟨by rw [← HZ.out]; have := width_in n; omega, rfl⟩)⟩
      case round =>
        obtain ⟨y, rfl, hy, hrel⟩ := hrel
        obtain ⟨hyz, hw⟩ := hrel.out
        subst hw
        clear hrel
        obtain ⟨_, c1, _, _, _, _⟩ := six (HA.out.2.1 wr (Below.refl _ _))
        by_cases h8 : y = 8
        · obtain rfl : z = y := by rw [← HZ.out] at hyz ⊢; have := width_in n; omega
          have hz8 : z ≤ 8 := by omega
          have hy8 : ¬ (z : Int) < 8 := by omega
          clear hy hyz h8
          obtain ⟨zz, hzz, hmk⟩ := run_zrows z (by omega)
          obtain ⟨X, hX⟩ : ∃ X : Nat, n % 18446744073709551616 = (X : Int) := ⟨(n % 18446744073709551616).toNat, by omega⟩
          have hg : w.heap.size < wr.heap.size := by have := HA.out.2.2.2.1; omega
          have c1b : (wr.alloc (.cells zz 5)).cell? ⟨w.heap.size, 1, none⟩ = some (.int .i64 n) := ((alloc_below wr _).cell (p := ⟨w.heap.size, 1, none⟩) hg).trans c1
          have hzs : zz.size = z := by rw [← Array.length_toList, hzz, U8_length, List.length_replicate]
          have ho0 : (wr.alloc (.cells zz 5)).ownsRow w.heap.size 5 1 (.slice (some ⟨wr.heap.size, 0, none⟩) z z) z (U8 (List.replicate z 0)) := by
            have := World.ownsRow_lit (base := w.heap.size) (e := 5) (size := 1) wr zz z (by omega) (by simp only [maxLen]; omega) (by omega)
            rw [hzz] at this
            exact this
          have hb0 : Below w.heap.size w (wr.alloc (.cells zz 5)) := (HA.out.2.2.1 wr (Below.refl _ _)).trans ((alloc_below wr _).mono (by omega))
          have HO := Lib.hid (And.intro ho0 (And.intro hb0 (And.intro hX (And.intro hzz hg))))
          have hXm : (X : Int) < 18446744073709551616 := by omega
          clear hzs ho0 hb0 hzz hg
          go_wp2
          go_loopw [5, 6] (fun vx vi wy => ∃ (r Y : Nat), vx = .int .u64 (Y : Int) ∧ vi = .int .i64 ((r : Int) - 1) ∧ r ≤ z ∧ Y < 18446744073709551616 ∧ Aside (Y = X / 256 ^ (z - r) ∧ ∃ us : List UInt8, us.length = z ∧ us.drop r = (bytesQ n z).drop r ∧ wy.ownsRow w.heap.size 5 1 (.slice (some ⟨wr.heap.size, 0, none⟩) z z) z (U8 us) ∧ Below w.heap.size w wy)) (fun _ vi _ => (intOf vi + 1).toNat)
          case atStart => exact ⟨z, X, (congrArg (Value.int IntKind.u64) (show IntKind.u64.wrap n = (X : Int) by rw [← HO.out.2.2.1]; rfl)), rfl, Nat.le_refl _, by omega, (show Aside _ from ⟨by rw [Nat.sub_self, Nat.pow_zero, Nat.div_one], List.replicate z 0, List.length_replicate, by rw [List.drop_of_length_le (by rw [List.length_replicate]; exact Nat.le_refl _), List.drop_of_length_le (by rw [bytesQ_len]; exact Nat.le_refl _)], HO.out.1, HO.out.2.1⟩)⟩
          case round =>
            obtain ⟨r, Y, rfl, rfl, hr, hYm, hrel⟩ := hrel
            obtain ⟨hY, us, hul, hud, hown, hbel⟩ := hrel.out
            clear hrel
            by_cases hr0 : r = 0
            · subst hr0
              have hus : us = bytesQ n z := hud
              subst hus
              obtain ⟨_, hnb⟩ := NewB.of_own hown
              have HN := Lib.hid (And.intro hnb hbel)
              clear hud hown hbel hY hul hnb
              go_wp2
              go_ret
              exact ⟨_, _, _, rfl, Nat.le_refl _, (bytesQ_len n z).symm, HN.out.1, HN.out.2⟩
            · obtain ⟨r1, rfl⟩ : ∃ r1, r = r1 + 1 := ⟨r - 1, by omega⟩
              have e1 : ((r1 + 1 : Nat) : Int) - 1 = (r1 : Int) := by omega
              rw [e1]
              have hr1 : (r1 : Int) < z := by omega
              have hz8I : (z : Int) ≤ 8 := by omega
              obtain ⟨z0, hz0⟩ := byte_get (l := us) (k := r1) (by omega)
              have hcell := hown.cellAt r1 (by omega)
              rw [U8_get, hz0, Option.map_some] at hcell
              have hfz := hown.frozenAt r1
              obtain ⟨q, hq⟩ : ∃ q, Y % 256 = q := ⟨_, rfl⟩
              have hqI : (Y : Int) % 256 = (q : Int) := by omega
              obtain ⟨Y1, hY1⟩ : ∃ Y1, Y / 256 = Y1 := ⟨_, rfl⟩
              have hY1I : (Y : Int) / 256 = (Y1 : Int) := by omega
              have hby := byte_of_nat n hn X HO.out.2.2.1.symm (z - (r1 + 1)) (by omega)
              rw [← hY, hq] at hby
              obtain ⟨u, hu⟩ : ∃ u, byteAt n (z - 1 - r1) = u := ⟨_, rfl⟩
              rw [show z - (r1 + 1) = z - 1 - r1 by omega, hu] at hby
              have hst := hown.stored r1 (.int .u8 (q : Int))
              have hY2 : Y1 = X / 256 ^ (z - r1) := by rw [← hY1, hY, Nat.div_div_eq_div_mul, ← Nat.pow_succ, show (z - (r1 + 1)).succ = z - r1 by omega]
              rw [← hby, ← U8_set, hby] at hst
              have hds := drop_set (u := u) hul (show r1 < z by omega) hud hu
              have hge := own_ge hown
              have HR := Lib.hid (And.intro hst (And.intro hds (And.intro hY2 (And.intro hul (And.intro hbel hge)))))
              have hq8 : (q : Int) < 256 := by omega
              have hYI : (Y : Int) < 18446744073709551616 := by omega
              have hY1m : Y1 < 18446744073709551616 := by omega
              obtain ⟨z1, hz1⟩ : ∃ z1 : Int, (z0.toNat : Int) = z1 := ⟨_, rfl⟩
              rw [hz1] at hcell
              clear hY hul hud hown hbel hz0 hq hby hu hst hY2 hds hge hr0 hz1 e1 hY1
              go_wp2
              go_roundw
              case rel =>
                refine ⟨r1, Y1, by first | rfl | go_num, by first | rfl | go_num, by omega, hY1m, (show Aside _ from ⟨HR.out.2.2.1, us.set r1 u, by rw [List.length_set]; exact HR.out.2.2.2.1, HR.out.2.1, HR.out.1.1, ?_⟩)⟩
                exact HR.out.2.2.2.2.1.grown HR.out.1.2 (HR.out.2.2.2.2.1.size) (fun k e => HR.out.2.2.2.2.2 k e)
              case measure => first | (simp [intOf]; done) | (simp [intOf]; omega)
        · have hy3 : y = 1 ∨ y = 2 ∨ y = 4 := by omega
          have hy8 : (y : Int) < 8 := by omega
          have hwi := within_f n y hy3 wr
          have hfw := fits_width (n := n) hy3 (by rw [HZ.out]; exact hyz)
          rw [HZ.out] at hfw
          obtain ⟨q, hq⟩ : ∃ q, fitsZ n y = q := ⟨_, rfl⟩
          rw [hq] at hwi hfw
          clear hq
          cases q with
          | false =>
            have HF := Lib.hid (And.intro hwi (And.intro (hfw.2 rfl) hy3))
            clear hwi hfw hyz hy hy3 h8
            go_wp2_with (go_at_call 55; refine HF.out.1.mono ?_; rintro e w1 ⟨rfl, hw⟩; obtain rfl := hw.symm)
            go_roundw
            case rel => exact ⟨y * 2, by first | rfl | go_num, by have h1 := HF.out.2.1; have h3 := HF.out.2.2; have h4 := width_in n; have h5 := HZ.out; omega, (show Aside _ from ⟨HF.out.2.1, by first | rfl | trivial⟩)⟩
            case measure => simp [intOf]; have h3 := HF.out.2.2; omega
          | true =>
            obtain rfl : z = y := hfw.1 rfl
            have HF := Lib.hid hwi
            clear hwi hfw hyz hy h8
            have hz8 : z ≤ 8 := by omega
            obtain ⟨zz, hzz, hmk⟩ := run_zrows z (by omega)
            obtain ⟨X, hX⟩ : ∃ X : Nat, n % 18446744073709551616 = (X : Int) := ⟨(n % 18446744073709551616).toNat, by omega⟩
            have hg : w.heap.size < wr.heap.size := by have := HA.out.2.2.2.1; omega
            have c1b : (wr.alloc (.cells zz 5)).cell? ⟨w.heap.size, 1, none⟩ = some (.int .i64 n) := ((alloc_below wr _).cell (p := ⟨w.heap.size, 1, none⟩) hg).trans c1
            have hzs : zz.size = z := by rw [← Array.length_toList, hzz, U8_length, List.length_replicate]
            have ho0 : (wr.alloc (.cells zz 5)).ownsRow w.heap.size 5 1 (.slice (some ⟨wr.heap.size, 0, none⟩) z z) z (U8 (List.replicate z 0)) := by
              have := World.ownsRow_lit (base := w.heap.size) (e := 5) (size := 1) wr zz z (by omega) (by simp only [maxLen]; omega) (by omega)
              rw [hzz] at this
              exact this
            have hb0 : Below w.heap.size w (wr.alloc (.cells zz 5)) := (HA.out.2.2.1 wr (Below.refl _ _)).trans ((alloc_below wr _).mono (by omega))
            have HO := Lib.hid (And.intro ho0 (And.intro hb0 (And.intro hX (And.intro hzz hg))))
            have hXm : (X : Int) < 18446744073709551616 := by omega
            clear hzs ho0 hb0 hzz hg
            clear hy3
            go_wp2_with (go_at_call 55; refine HF.out.mono ?_; rintro e w1 ⟨rfl, hw⟩; obtain rfl := hw.symm)
            go_loopw [5, 6] (fun vx vi wy => ∃ (r Y : Nat), vx = .int .u64 (Y : Int) ∧ vi = .int .i64 ((r : Int) - 1) ∧ r ≤ z ∧ Y < 18446744073709551616 ∧ Aside (Y = X / 256 ^ (z - r) ∧ ∃ us : List UInt8, us.length = z ∧ us.drop r = (bytesQ n z).drop r ∧ wy.ownsRow w.heap.size 5 1 (.slice (some ⟨wr.heap.size, 0, none⟩) z z) z (U8 us) ∧ Below w.heap.size w wy)) (fun _ vi _ => (intOf vi + 1).toNat)
            case atStart => exact ⟨z, X, (congrArg (Value.int IntKind.u64) (show IntKind.u64.wrap n = (X : Int) by rw [← HO.out.2.2.1]; rfl)), rfl, Nat.le_refl _, by omega, (show Aside _ from ⟨by rw [Nat.sub_self, Nat.pow_zero, Nat.div_one], List.replicate z 0, List.length_replicate, by rw [List.drop_of_length_le (by rw [List.length_replicate]; exact Nat.le_refl _), List.drop_of_length_le (by rw [bytesQ_len]; exact Nat.le_refl _)], HO.out.1, HO.out.2.1⟩)⟩
            case round =>
              obtain ⟨r, Y, rfl, rfl, hr, hYm, hrel⟩ := hrel
              obtain ⟨hY, us, hul, hud, hown, hbel⟩ := hrel.out
              clear hrel
              by_cases hr0 : r = 0
              · subst hr0
                have hus : us = bytesQ n z := hud
                subst hus
                obtain ⟨_, hnb⟩ := NewB.of_own hown
                have HN := Lib.hid (And.intro hnb hbel)
                clear hud hown hbel hY hul hnb
                go_wp2
                go_ret
                exact ⟨_, _, _, rfl, Nat.le_refl _, (bytesQ_len n z).symm, HN.out.1, HN.out.2⟩
              · obtain ⟨r1, rfl⟩ : ∃ r1, r = r1 + 1 := ⟨r - 1, by omega⟩
                have e1 : ((r1 + 1 : Nat) : Int) - 1 = (r1 : Int) := by omega
                rw [e1]
                have hr1 : (r1 : Int) < z := by omega
                have hz8I : (z : Int) ≤ 8 := by omega
                obtain ⟨z0, hz0⟩ := byte_get (l := us) (k := r1) (by omega)
                have hcell := hown.cellAt r1 (by omega)
                rw [U8_get, hz0, Option.map_some] at hcell
                have hfz := hown.frozenAt r1
                obtain ⟨q, hq⟩ : ∃ q, Y % 256 = q := ⟨_, rfl⟩
                have hqI : (Y : Int) % 256 = (q : Int) := by omega
                obtain ⟨Y1, hY1⟩ : ∃ Y1, Y / 256 = Y1 := ⟨_, rfl⟩
                have hY1I : (Y : Int) / 256 = (Y1 : Int) := by omega
                have hby := byte_of_nat n hn X HO.out.2.2.1.symm (z - (r1 + 1)) (by omega)
                rw [← hY, hq] at hby
                obtain ⟨u, hu⟩ : ∃ u, byteAt n (z - 1 - r1) = u := ⟨_, rfl⟩
                rw [show z - (r1 + 1) = z - 1 - r1 by omega, hu] at hby
                have hst := hown.stored r1 (.int .u8 (q : Int))
                have hY2 : Y1 = X / 256 ^ (z - r1) := by rw [← hY1, hY, Nat.div_div_eq_div_mul, ← Nat.pow_succ, show (z - (r1 + 1)).succ = z - r1 by omega]
                rw [← hby, ← U8_set, hby] at hst
                have hds := drop_set (u := u) hul (show r1 < z by omega) hud hu
                have hge := own_ge hown
                have HR := Lib.hid (And.intro hst (And.intro hds (And.intro hY2 (And.intro hul (And.intro hbel hge)))))
                have hq8 : (q : Int) < 256 := by omega
                have hYI : (Y : Int) < 18446744073709551616 := by omega
                have hY1m : Y1 < 18446744073709551616 := by omega
                obtain ⟨z1, hz1⟩ : ∃ z1 : Int, (z0.toNat : Int) = z1 := ⟨_, rfl⟩
                rw [hz1] at hcell
                clear hY hul hud hown hbel hz0 hq hby hu hst hY2 hds hge hr0 hz1 e1 hY1
                go_wp2
                go_roundw
                case rel =>
                  refine ⟨r1, Y1, by first | rfl | go_num, by first | rfl | go_num, by omega, hY1m, (show Aside _ from ⟨HR.out.2.2.1, us.set r1 u, by rw [List.length_set]; exact HR.out.2.2.2.1, HR.out.2.1, HR.out.1.1, ?_⟩)⟩
                  exact HR.out.2.2.2.2.1.grown HR.out.1.2 (HR.out.2.2.2.2.1.size) (fun k e => HR.out.2.2.2.2.2 k e)
                case measure => first | (simp [intOf]; done) | (simp [intOf]; omega)
    · go_enter Tryd.func29, Tryd.ntmps29
      go_wp2_with fail
      rw [HA.out.1]
      go_loopw [3] (fun v wr => ∃ y : Nat, v = .int .i64 (y : Int) ∧ (y = 1 ∨ y = 2 ∨ y = 4 ∨ y = 8) ∧ Aside (y ≤ z ∧ wr = W0)) (fun v _ => 8 - (intOf v).toNat)
      case atStart => exact ⟨1, rfl, .inl rfl, (show Aside _ from ⟨by rw [← HZ.out]; have := width_in n; omega, rfl⟩)⟩
      case round =>
        obtain ⟨y, rfl, hy, hrel⟩ := hrel
        obtain ⟨hyz, hw⟩ := hrel.out
        subst hw
        clear hrel
        obtain ⟨_, c1, _, _, _, _⟩ := six (HA.out.2.1 wr (Below.refl _ _))
        by_cases h8 : y = 8
        · obtain rfl : z = y := by rw [← HZ.out] at hyz ⊢; have := width_in n; omega
          have hz8 : z ≤ 8 := by omega
          have hy8 : ¬ (z : Int) < 8 := by omega
          clear hy hyz h8
          obtain ⟨zz, hzz, hmk⟩ := run_zrows z (by omega)
          obtain ⟨X, hX⟩ : ∃ X : Nat, n % 18446744073709551616 = (X : Int) := ⟨(n % 18446744073709551616).toNat, by omega⟩
          have hg : w.heap.size < wr.heap.size := by have := HA.out.2.2.2.1; omega
          have c1b : (wr.alloc (.cells zz 5)).cell? ⟨w.heap.size, 1, none⟩ = some (.int .i64 n) := ((alloc_below wr _).cell (p := ⟨w.heap.size, 1, none⟩) hg).trans c1
          have hzs : zz.size = z := by rw [← Array.length_toList, hzz, U8_length, List.length_replicate]
          have ho0 : (wr.alloc (.cells zz 5)).ownsRow w.heap.size 5 1 (.slice (some ⟨wr.heap.size, 0, none⟩) z z) z (U8 (List.replicate z 0)) := by
            have := World.ownsRow_lit (base := w.heap.size) (e := 5) (size := 1) wr zz z (by omega) (by simp only [maxLen]; omega) (by omega)
            rw [hzz] at this
            exact this
          have hb0 : Below w.heap.size w (wr.alloc (.cells zz 5)) := (HA.out.2.2.1 wr (Below.refl _ _)).trans ((alloc_below wr _).mono (by omega))
          have HO := Lib.hid (And.intro ho0 (And.intro hb0 (And.intro hX (And.intro hzz hg))))
          have hXm : (X : Int) < 18446744073709551616 := by omega
          clear hzs ho0 hb0 hzz hg
          go_wp2
          go_loopw [5, 6] (fun vx vi wy => ∃ (r Y : Nat), vx = .int .u64 (Y : Int) ∧ vi = .int .i64 ((r : Int) - 1) ∧ r ≤ z ∧ Y < 18446744073709551616 ∧ Aside (Y = X / 256 ^ (z - r) ∧ ∃ us : List UInt8, us.length = z ∧ us.drop r = (bytesQ n z).drop r ∧ wy.ownsRow w.heap.size 5 1 (.slice (some ⟨wr.heap.size, 0, none⟩) z z) z (U8 us) ∧ Below w.heap.size w wy)) (fun _ vi _ => (intOf vi + 1).toNat)
          case atStart => exact ⟨z, X, (congrArg (Value.int IntKind.u64) (show IntKind.u64.wrap n = (X : Int) by rw [← HO.out.2.2.1]; rfl)), rfl, Nat.le_refl _, by omega, (show Aside _ from ⟨by rw [Nat.sub_self, Nat.pow_zero, Nat.div_one], List.replicate z 0, List.length_replicate, by rw [List.drop_of_length_le (by rw [List.length_replicate]; exact Nat.le_refl _), List.drop_of_length_le (by rw [bytesQ_len]; exact Nat.le_refl _)], HO.out.1, HO.out.2.1⟩)⟩
          case round =>
            obtain ⟨r, Y, rfl, rfl, hr, hYm, hrel⟩ := hrel
            obtain ⟨hY, us, hul, hud, hown, hbel⟩ := hrel.out
            clear hrel
            by_cases hr0 : r = 0
            · subst hr0
              have hus : us = bytesQ n z := hud
              subst hus
              obtain ⟨_, hnb⟩ := NewB.of_own hown
              have HN := Lib.hid (And.intro hnb hbel)
              clear hud hown hbel hY hul hnb
              go_wp2
              go_ret
              exact ⟨_, _, _, rfl, Nat.le_refl _, (bytesQ_len n z).symm, HN.out.1, HN.out.2⟩
            · obtain ⟨r1, rfl⟩ : ∃ r1, r = r1 + 1 := ⟨r - 1, by omega⟩
              have e1 : ((r1 + 1 : Nat) : Int) - 1 = (r1 : Int) := by omega
              rw [e1]
              have hr1 : (r1 : Int) < z := by omega
              have hz8I : (z : Int) ≤ 8 := by omega
              obtain ⟨z0, hz0⟩ := byte_get (l := us) (k := r1) (by omega)
              have hcell := hown.cellAt r1 (by omega)
              rw [U8_get, hz0, Option.map_some] at hcell
              have hfz := hown.frozenAt r1
              obtain ⟨q, hq⟩ : ∃ q, Y % 256 = q := ⟨_, rfl⟩
              have hqI : (Y : Int) % 256 = (q : Int) := by omega
              obtain ⟨Y1, hY1⟩ : ∃ Y1, Y / 256 = Y1 := ⟨_, rfl⟩
              have hY1I : (Y : Int) / 256 = (Y1 : Int) := by omega
              have hby := byte_of_nat n hn X HO.out.2.2.1.symm (z - (r1 + 1)) (by omega)
              rw [← hY, hq] at hby
              obtain ⟨u, hu⟩ : ∃ u, byteAt n (z - 1 - r1) = u := ⟨_, rfl⟩
              rw [show z - (r1 + 1) = z - 1 - r1 by omega, hu] at hby
              have hst := hown.stored r1 (.int .u8 (q : Int))
              have hY2 : Y1 = X / 256 ^ (z - r1) := by rw [← hY1, hY, Nat.div_div_eq_div_mul, ← Nat.pow_succ, show (z - (r1 + 1)).succ = z - r1 by omega]
              rw [← hby, ← U8_set, hby] at hst
              have hds := drop_set (u := u) hul (show r1 < z by omega) hud hu
              have hge := own_ge hown
              have HR := Lib.hid (And.intro hst (And.intro hds (And.intro hY2 (And.intro hul (And.intro hbel hge)))))
              have hq8 : (q : Int) < 256 := by omega
              have hYI : (Y : Int) < 18446744073709551616 := by omega
              have hY1m : Y1 < 18446744073709551616 := by omega
              obtain ⟨z1, hz1⟩ : ∃ z1 : Int, (z0.toNat : Int) = z1 := ⟨_, rfl⟩
              rw [hz1] at hcell
              clear hY hul hud hown hbel hz0 hq hby hu hst hY2 hds hge hr0 hz1 e1 hY1
              go_wp2
              go_roundw
              case rel =>
                refine ⟨r1, Y1, by first | rfl | go_num, by first | rfl | go_num, by omega, hY1m, (show Aside _ from ⟨HR.out.2.2.1, us.set r1 u, by rw [List.length_set]; exact HR.out.2.2.2.1, HR.out.2.1, HR.out.1.1, ?_⟩)⟩
                exact HR.out.2.2.2.2.1.grown HR.out.1.2 (HR.out.2.2.2.2.1.size) (fun k e => HR.out.2.2.2.2.2 k e)
              case measure => first | (simp [intOf]; done) | (simp [intOf]; omega)
        · have hy3 : y = 1 ∨ y = 2 ∨ y = 4 := by omega
          have hy8 : (y : Int) < 8 := by omega
          have hwi := within_f n y hy3 wr
          have hfw := fits_width (n := n) hy3 (by rw [HZ.out]; exact hyz)
          rw [HZ.out] at hfw
          obtain ⟨q, hq⟩ : ∃ q, fitsZ n y = q := ⟨_, rfl⟩
          rw [hq] at hwi hfw
          clear hq
          cases q with
          | false =>
            have HF := Lib.hid (And.intro hwi (And.intro (hfw.2 rfl) hy3))
            clear hwi hfw hyz hy hy3 h8
            go_wp2_with (go_at_call 55; refine HF.out.1.mono ?_; rintro e w1 ⟨rfl, hw⟩; obtain rfl := hw.symm)
            go_roundw
            case rel => exact ⟨y * 2, by first | rfl | go_num, by have h1 := HF.out.2.1; have h3 := HF.out.2.2; have h4 := width_in n; have h5 := HZ.out; omega, (show Aside _ from ⟨HF.out.2.1, by first | rfl | trivial⟩)⟩
            case measure => simp [intOf]; have h3 := HF.out.2.2; omega
          | true =>
            obtain rfl : z = y := hfw.1 rfl
            have HF := Lib.hid hwi
            clear hwi hfw hyz hy h8
            have hz8 : z ≤ 8 := by omega
            obtain ⟨zz, hzz, hmk⟩ := run_zrows z (by omega)
            obtain ⟨X, hX⟩ : ∃ X : Nat, n % 18446744073709551616 = (X : Int) := ⟨(n % 18446744073709551616).toNat, by omega⟩
            have hg : w.heap.size < wr.heap.size := by have := HA.out.2.2.2.1; omega
            have c1b : (wr.alloc (.cells zz 5)).cell? ⟨w.heap.size, 1, none⟩ = some (.int .i64 n) := ((alloc_below wr _).cell (p := ⟨w.heap.size, 1, none⟩) hg).trans c1
            have hzs : zz.size = z := by rw [← Array.length_toList, hzz, U8_length, List.length_replicate]
            have ho0 : (wr.alloc (.cells zz 5)).ownsRow w.heap.size 5 1 (.slice (some ⟨wr.heap.size, 0, none⟩) z z) z (U8 (List.replicate z 0)) := by
              have := World.ownsRow_lit (base := w.heap.size) (e := 5) (size := 1) wr zz z (by omega) (by simp only [maxLen]; omega) (by omega)
              rw [hzz] at this
              exact this
            have hb0 : Below w.heap.size w (wr.alloc (.cells zz 5)) := (HA.out.2.2.1 wr (Below.refl _ _)).trans ((alloc_below wr _).mono (by omega))
            have HO := Lib.hid (And.intro ho0 (And.intro hb0 (And.intro hX (And.intro hzz hg))))
            have hXm : (X : Int) < 18446744073709551616 := by omega
            clear hzs ho0 hb0 hzz hg
            clear hy3
            go_wp2_with (go_at_call 55; refine HF.out.mono ?_; rintro e w1 ⟨rfl, hw⟩; obtain rfl := hw.symm)
            go_loopw [5, 6] (fun vx vi wy => ∃ (r Y : Nat), vx = .int .u64 (Y : Int) ∧ vi = .int .i64 ((r : Int) - 1) ∧ r ≤ z ∧ Y < 18446744073709551616 ∧ Aside (Y = X / 256 ^ (z - r) ∧ ∃ us : List UInt8, us.length = z ∧ us.drop r = (bytesQ n z).drop r ∧ wy.ownsRow w.heap.size 5 1 (.slice (some ⟨wr.heap.size, 0, none⟩) z z) z (U8 us) ∧ Below w.heap.size w wy)) (fun _ vi _ => (intOf vi + 1).toNat)
            case atStart => exact ⟨z, X, (congrArg (Value.int IntKind.u64) (show IntKind.u64.wrap n = (X : Int) by rw [← HO.out.2.2.1]; rfl)), rfl, Nat.le_refl _, by omega, (show Aside _ from ⟨by rw [Nat.sub_self, Nat.pow_zero, Nat.div_one], List.replicate z 0, List.length_replicate, by rw [List.drop_of_length_le (by rw [List.length_replicate]; exact Nat.le_refl _), List.drop_of_length_le (by rw [bytesQ_len]; exact Nat.le_refl _)], HO.out.1, HO.out.2.1⟩)⟩
            case round =>
              obtain ⟨r, Y, rfl, rfl, hr, hYm, hrel⟩ := hrel
              obtain ⟨hY, us, hul, hud, hown, hbel⟩ := hrel.out
              clear hrel
              by_cases hr0 : r = 0
              · subst hr0
                have hus : us = bytesQ n z := hud
                subst hus
                obtain ⟨_, hnb⟩ := NewB.of_own hown
                have HN := Lib.hid (And.intro hnb hbel)
                clear hud hown hbel hY hul hnb
                go_wp2
                go_ret
                exact ⟨_, _, _, rfl, Nat.le_refl _, (bytesQ_len n z).symm, HN.out.1, HN.out.2⟩
              · obtain ⟨r1, rfl⟩ : ∃ r1, r = r1 + 1 := ⟨r - 1, by omega⟩
                have e1 : ((r1 + 1 : Nat) : Int) - 1 = (r1 : Int) := by omega
                rw [e1]
                have hr1 : (r1 : Int) < z := by omega
                have hz8I : (z : Int) ≤ 8 := by omega
                obtain ⟨z0, hz0⟩ := byte_get (l := us) (k := r1) (by omega)
                have hcell := hown.cellAt r1 (by omega)
                rw [U8_get, hz0, Option.map_some] at hcell
                have hfz := hown.frozenAt r1
                obtain ⟨q, hq⟩ : ∃ q, Y % 256 = q := ⟨_, rfl⟩
                have hqI : (Y : Int) % 256 = (q : Int) := by omega
                obtain ⟨Y1, hY1⟩ : ∃ Y1, Y / 256 = Y1 := ⟨_, rfl⟩
                have hY1I : (Y : Int) / 256 = (Y1 : Int) := by omega
                have hby := byte_of_nat n hn X HO.out.2.2.1.symm (z - (r1 + 1)) (by omega)
                rw [← hY, hq] at hby
                obtain ⟨u, hu⟩ : ∃ u, byteAt n (z - 1 - r1) = u := ⟨_, rfl⟩
                rw [show z - (r1 + 1) = z - 1 - r1 by omega, hu] at hby
                have hst := hown.stored r1 (.int .u8 (q : Int))
                have hY2 : Y1 = X / 256 ^ (z - r1) := by rw [← hY1, hY, Nat.div_div_eq_div_mul, ← Nat.pow_succ, show (z - (r1 + 1)).succ = z - r1 by omega]
                rw [← hby, ← U8_set, hby] at hst
                have hds := drop_set (u := u) hul (show r1 < z by omega) hud hu
                have hge := own_ge hown
                have HR := Lib.hid (And.intro hst (And.intro hds (And.intro hY2 (And.intro hul (And.intro hbel hge)))))
                have hq8 : (q : Int) < 256 := by omega
                have hYI : (Y : Int) < 18446744073709551616 := by omega
                have hY1m : Y1 < 18446744073709551616 := by omega
                obtain ⟨z1, hz1⟩ : ∃ z1 : Int, (z0.toNat : Int) = z1 := ⟨_, rfl⟩
                rw [hz1] at hcell
                clear hY hul hud hown hbel hz0 hq hby hu hst hY2 hds hge hr0 hz1 e1 hY1
                go_wp2
                go_roundw
                case rel =>
                  refine ⟨r1, Y1, by first | rfl | go_num, by first | rfl | go_num, by omega, hY1m, (show Aside _ from ⟨HR.out.2.2.1, us.set r1 u, by rw [List.length_set]; exact HR.out.2.2.2.1, HR.out.2.1, HR.out.1.1, ?_⟩)⟩
                  exact HR.out.2.2.2.2.1.grown HR.out.1.2 (HR.out.2.2.2.2.1.size) (fun k e => HR.out.2.2.2.2.2 k e)
                case measure => first | (simp [intOf]; done) | (simp [intOf]; omega)
  rw [if_neg k15]
  by_cases k2 : k = 2
  · subst k2
    rw [if_pos rfl]
    obtain ⟨n0, n1⟩ := h2 rfl
    have hu := byteAt_val n 0
    rw [show ((2 : Int) ^ (8 * 0)) = 1 by decide, Int.ediv_one] at hu
    have hL := WireRet.lit w (.cells #[.int .i64 2, .int .i64 n, .string s, .slice bA bl bc, .int .i64 o, .int .i64 i] 24) #[.int .u8 n] (bytesQ n 1) (by show _ = [Value.int .u8 ((byteAt n 0).toNat : Int)]; rw [hu]; show [Value.int .u8 n] = _; rw [show n % 256 = n by omega]) (by rw [bytesQ_len]; simp [maxLen])
    rw [bytesQ_len] at hL
    have HL := Lib.hid hL
    clear hk h2 k15 hu hL
    go_enter Tryd.func29, Tryd.ntmps29
    go_wp2
    go_ret
    exact HL.out
  rw [if_neg k2]
  by_cases k3 : k = 3
  · subst k3
    rw [if_pos rfl]
    clear hk h2 k15 k2
    obtain ⟨c, w', hcv, hc, hnb, hb⟩ := conv_row (w.alloc (.cells #[.int .i64 3, .int .i64 n, .string s, .slice bA bl bc, .int .i64 o, .int .i64 i] 24)) s
    have HL := Lib.hid (And.intro hc (And.intro hnb hb))
    clear hc hnb hb
    go_enter Tryd.func29, Tryd.ntmps29
    go_wp2
    go_ret
    refine ⟨_, _, _, rfl, HL.out.1, (show s.size = s.data.toList.length from Array.length_toList.symm), ?_, (alloc_below w _).trans (HL.out.2.2.mono (by rw [alloc_size]; omega))⟩
    have := HL.out.2.1.less (b' := w.heap.size) (by rw [alloc_size]; omega)
    rw [alloc_size] at this
    exact this
  rw [if_neg k3]
  by_cases k4 : k = 4
  · subst k4
    rw [if_pos rfl]
    have hcp := fun W (h : Below w.heap.size w W) => copy_any bA bl bc l W _ (HA.out.2.2.2.2.1.below' h HA.out.2.2.2.2.2) (Nat.le_trans HA.out.2.2.2.2.2 h.size) (by omega)
    have HC := Lib.hid hcp
    have P0 := Lib.hid (alloc_below w (.cells #[.int .i64 4, .int .i64 n, .string s, .slice bA bl bc, .int .i64 o, .int .i64 i] 24))
    clear hk h2 k15 k2 k3 hcp
    go_enter Tryd.func29, Tryd.ntmps29
    go_wp2_with fail
    refine (HC.out _ P0.out).mono ?_
    intro e w1 h1
    have h2 := WireRet.of_own h1 P0.out
    obtain ⟨A1, n1, c1, rfl, q1, q2, q3, q4⟩ := h2
    have HQ := Lib.hid (And.intro q1 (And.intro q2 (And.intro q3 q4)))
    clear h1 q1 q2 q3 q4
    go_wp2
    go_ret
    exact ⟨_, _, _, rfl, HQ.out⟩
  rw [if_neg k4]
  by_cases k6 : k = 6
  · subst k6
    rw [if_pos rfl]
    obtain ⟨o0, o1, i0, i1⟩ := hk rfl
    have u0 := byteAt_val o 0
    have u1 := byteAt_val o 1
    have v0 := byteAt_val i 0
    have v1 := byteAt_val i 1
    rw [show ((2 : Int) ^ (8 * 0)) = 1 by decide, Int.ediv_one] at u0 v0
    rw [show ((2 : Int) ^ (8 * 1)) = 256 by decide] at u1 v1
    have hL := WireRet.lit w (.cells #[.int .i64 6, .int .i64 n, .string s, .slice bA bl bc, .int .i64 o, .int .i64 i] 24) #[.int .u8 (o / 256), .int .u8 (o % 256), .int .u8 (i / 256), .int .u8 (i % 256)] (bytesQ o 2 ++ bytesQ i 2) (by show _ = [Value.int .u8 ((byteAt o 1).toNat : Int), Value.int .u8 ((byteAt o 0).toNat : Int), Value.int .u8 ((byteAt i 1).toNat : Int), Value.int .u8 ((byteAt i 0).toNat : Int)]; rw [u0, u1, v0, v1, show o / 256 % 256 = o / 256 by omega, show i / 256 % 256 = i / 256 by omega]) (by rw [List.length_append, bytesQ_len, bytesQ_len]; simp [maxLen])
    rw [List.length_append, bytesQ_len, bytesQ_len] at hL
    have HL := Lib.hid hL
    clear hk h2 k15 k2 k3 k4 u0 u1 v0 v1 hL
    go_enter Tryd.func29, Tryd.ntmps29
    go_wp2
    go_ret
    exact HL.out
  rw [if_neg k6]
  have hL := WireRet.lit w (.cells #[.int .i64 k, .int .i64 n, .string s, .slice bA bl bc, .int .i64 o, .int .i64 i] 24) #[] [] rfl (Nat.zero_le _)
  have HL := Lib.hid hL
  have e1 : (k == 1) = false := beq_eq_false_iff_ne.2 (by omega)
  have e5 : (k == 5) = false := beq_eq_false_iff_ne.2 (by omega)
  have e2 : (k == 2) = false := beq_eq_false_iff_ne.2 k2
  have e3 : (k == 3) = false := beq_eq_false_iff_ne.2 k3
  have e4 : (k == 4) = false := beq_eq_false_iff_ne.2 k4
  have e6 : (k == 6) = false := beq_eq_false_iff_ne.2 k6
  clear hk h2 hL
  go_enter Tryd.func29, Tryd.ntmps29
  go_wp2
  go_ret
  exact HL.out
end Go.Proofs.YtkacgdhcacclcaaDoor
