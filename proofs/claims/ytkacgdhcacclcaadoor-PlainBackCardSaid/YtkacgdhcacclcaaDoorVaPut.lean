/-
  A number's bytes, the highest first: put.
-/
import Derived.Test.YtkacgdhcacclcaaDoorVaWidth
namespace Go.Proofs.YtkacgdhcacclcaaDoor
open Go.RowKit
set_option maxRecDepth 100000
set_option maxRecDepth 100000
set_option linter.unusedVariables false
def byteAt (n : Int) (e : Nat) : UInt8 := UInt8.ofNat ((n / 2 ^ (8 * e)) % 256).toNat
def bytesQ (n : Int) (size : Nat) : List UInt8 := (List.range size).map fun i => byteAt n (size - 1 - i)
theorem byteAt_val (n : Int) (e : Nat) : ((byteAt n e).toNat : Int) = n / 2 ^ (8 * e) % 256 := by
  unfold byteAt
  have h : 0 ≤ n / 2 ^ (8 * e) % 256 ∧ n / 2 ^ (8 * e) % 256 < 256 := by omega
  rw [UInt8.toNat_ofNat']
  omega
theorem bytesQ_len (n : Int) (size : Nat) : (bytesQ n size).length = size := by unfold bytesQ; rw [List.length_map, List.length_range]
theorem bytesQ_get (n : Int) (size i : Nat) (h : i < size) : (bytesQ n size)[i]? = some (byteAt n (size - 1 - i)) := by
  unfold bytesQ
  rw [List.getElem?_map, List.getElem?_range h]
  rfl
theorem bytesQ_take (n : Int) (size i : Nat) (h : i < size) : (bytesQ n size).take (i + 1) = (bytesQ n size).take i ++ [byteAt n (size - 1 - i)] := by
  rw [List.take_add_one, bytesQ_get n size i h]
  rfl
def PutRet (n : Int) (size base m : Nat) (xs : List UInt8) (w : World) (e : Ending) (w' : World) : Prop :=
  ∃ A c, e = .returned (.slice A (m + size) c) ∧ m + size ≤ c ∧ w'.ownsRow base 5 1 (.slice A (m + size) c) (m + size) (U8 (xs ++ bytesQ n size)) ∧ Below base w w'
theorem own_slice {w : World} {base n : Nat} {v : Value} {l : List UInt8} (h : w.ownsRow base 5 1 v n (U8 l)) : ∃ A c, v = .slice A n c ∧ n ≤ c := by
  have hl : l.length = n := by have := h.1; rw [U8_length] at this; omega
  obtain ⟨A, c, e, hc, _⟩ := Bs.of_own (l := l) (n := n) h
  exact ⟨A, c, e, hc⟩
set_option maxHeartbeats 8000000 in
theorem put_f (n : Int) (size base m : Nat) (pA : Option Addr) (pc : Nat) (xs : List UInt8) (w : World) (hs : size = 1 ∨ size = 2 ∨ size = 4 ∨ size = 8) (hown : w.ownsRow base 5 1 (.slice pA m pc) m (U8 xs)) (hB : base ≤ w.heap.size) (hm : m ≤ 1000) (h0 : -9223372036854775808 ≤ n) (h1 : n ≤ 9223372036854775807) :
    Calls Tryd.prog 53 #[.slice pA m pc, .int .i64 n, .int .i64 (size : Int)] w (PutRet n size base m xs w) := by
  obtain ⟨i0, hi0, hz0, hz1, hz2⟩ := info_parts info_u8
  have hml : xs.length = m := by have := hown.1; rw [U8_length] at this; omega
  have HM := Lib.hid (And.intro hml (And.intro h0 h1))
  clear hml h0 h1
  by_cases s1 : size = 1
  · subst s1
    clear hs
    show Calls Tryd.prog 53 #[.slice pA m pc, .int .i64 n, .int .i64 1] w (PutRet n 1 base m xs w)
    go_enter Tryd.func53, Tryd.ntmps53
    go_wp2
    go_loopw [0, 9] (fun v0 v9 wr => ∃ (i M : Nat) (z : Int) (A : Option Addr) (c : Nat), v0 = .slice A M c ∧ v9 = .int .i64 z ∧ i ≤ 1 ∧ Aside ((z = (i : Int) ∧ M = m + i) ∧ wr.ownsRow base 5 1 (.slice A M c) M (U8 (xs ++ (bytesQ n 1).take i)) ∧ Below base w wr ∧ base ≤ wr.heap.size ∧ M ≤ c)) (fun _ v9 _ => 1 - (intOf v9).toNat)
    case atStart =>
      refine ⟨0, m, 0, pA, pc, rfl, rfl, by omega, ⟨rfl, rfl⟩, ?_, Below.refl _ _, hB, ?_⟩
      · rw [List.take_zero, List.append_nil]; exact hown
      · obtain ⟨_, _, e, hc⟩ := own_slice hown; cases e; exact hc
    case round =>
      clear hown hB
      obtain ⟨i, M, z, A, c, rfl, rfl, hi, hrel⟩ := hrel
      obtain ⟨hz, hM⟩ := hrel.out.1
      have HR := Lib.hid hrel.out.2
      clear hrel
      by_cases e0 : i = 0
      · subst e0
        obtain rfl : z = 0 := hz
        have HMM := Lib.hid hM
        have hMb : M ≤ 1008 := by omega
        clear hi hM
        obtain ⟨u, hu⟩ : ∃ u, byteAt n 0 = u := ⟨_, rfl⟩
        have hv := byteAt_val n 0
        rw [hu] at hv
        have htk := bytesQ_take n 1 0 (by omega)
        rw [show 1 - 1 - 0 = 0 from rfl, hu] at htk
        have HT := Lib.hid htk
        have hval : n % 256 = (u.toNat : Int) := by rw [hv, show ((2 : Int) ^ (8 * 0)) = 1 by decide, Int.ediv_one]
        have hn1 := HM.out.2.1
        have hn2 := HM.out.2.2
        skip
        clear hv htk hu hn1 hn2
        go_wp2_with (at_builtin; refine wpList_append_bs _ rfl (.tmp 12) (.tmp 21) 22 rfl base 5 i0 Tryd.underlying22 hi0 hz0 hz1 hz2 (.slice A M c) M _ rfl (HR.out.1.alloc _) (wr.heap.size + 1) (some ⟨wr.heap.size, 0, none⟩) 1 1 [u] rfl (Bs.lit_ wr 5 _ _ [u] rfl) (by omega) (by have := HR.out.2.2.1; rw [alloc_size]; omega) ?_; intro v2 w2 hown2 hgrow2; obtain ⟨A2, c2, rfl, hc2⟩ := own_slice (l := (xs ++ (bytesQ n 1).take 0) ++ [u]) (by rw [U8_append]; exact hown2); have HO := Lib.hid (And.intro hown2 (And.intro hgrow2 hc2)); clear hown2 hgrow2 hc2)
        go_roundw
        case rel =>
          refine ⟨1, M + 1, 1, A2, c2, rfl, rfl, by omega, (show Aside _ from ⟨⟨rfl, by rw [HMM.out]⟩, ?_, ?_, ?_, HO.out.2.2⟩)⟩
          · rw [HT.out, ← List.append_assoc, U8_append]; exact HO.out.1
          · exact (HR.out.2.1.alloc HR.out.2.2.1 _).grown HO.out.2.1 (by have := HR.out.2.2.1; rw [alloc_size]; omega) (own_ge HR.out.1)
          · exact Nat.le_trans (by have := HR.out.2.2.1; rw [alloc_size]; omega) HO.out.2.1.size
        case measure => simp [intOf]
      obtain rfl : i = 1 := by omega
      obtain rfl : z = 1 := hz
      have HMM := Lib.hid hM
      have hMb : M ≤ 1008 := by omega
      clear hi hM e0
      go_wp2
      go_ret
      have hM := HMM.out
      subst hM
      refine ⟨A, c, rfl, HR.out.2.2.2, ?_, HR.out.2.1⟩
      have := HR.out.1
      rwa [List.take_of_length_le (by rw [bytesQ_len]; omega)] at this
  by_cases s2 : size = 2
  · subst s2
    clear hs s1
    show Calls Tryd.prog 53 #[.slice pA m pc, .int .i64 n, .int .i64 2] w (PutRet n 2 base m xs w)
    go_enter Tryd.func53, Tryd.ntmps53
    go_wp2
    go_loopw [0, 9] (fun v0 v9 wr => ∃ (i M : Nat) (z : Int) (A : Option Addr) (c : Nat), v0 = .slice A M c ∧ v9 = .int .i64 z ∧ i ≤ 2 ∧ Aside ((z = (i : Int) ∧ M = m + i) ∧ wr.ownsRow base 5 1 (.slice A M c) M (U8 (xs ++ (bytesQ n 2).take i)) ∧ Below base w wr ∧ base ≤ wr.heap.size ∧ M ≤ c)) (fun _ v9 _ => 2 - (intOf v9).toNat)
    case atStart =>
      refine ⟨0, m, 0, pA, pc, rfl, rfl, by omega, ⟨rfl, rfl⟩, ?_, Below.refl _ _, hB, ?_⟩
      · rw [List.take_zero, List.append_nil]; exact hown
      · obtain ⟨_, _, e, hc⟩ := own_slice hown; cases e; exact hc
    case round =>
      clear hown hB
      obtain ⟨i, M, z, A, c, rfl, rfl, hi, hrel⟩ := hrel
      obtain ⟨hz, hM⟩ := hrel.out.1
      have HR := Lib.hid hrel.out.2
      clear hrel
      by_cases e0 : i = 0
      · subst e0
        obtain rfl : z = 0 := hz
        have HMM := Lib.hid hM
        have hMb : M ≤ 1008 := by omega
        clear hi hM
        obtain ⟨u, hu⟩ : ∃ u, byteAt n 1 = u := ⟨_, rfl⟩
        have hv := byteAt_val n 1
        rw [hu] at hv
        have htk := bytesQ_take n 2 0 (by omega)
        rw [show 2 - 1 - 0 = 1 from rfl, hu] at htk
        have HT := Lib.hid htk
        have hval : n / 256 % 256 = (u.toNat : Int) := by rw [hv, show ((2 : Int) ^ (8 * 1)) = 256 by decide]
        have hn1 := HM.out.2.1
        have hn2 := HM.out.2.2
        have hw : wrap64 (n / 256) = n / 256 := by unfold wrap64; omega
        clear hv htk hu hn1 hn2
        go_wp2_with (at_builtin; refine wpList_append_bs _ rfl (.tmp 12) (.tmp 21) 22 rfl base 5 i0 Tryd.underlying22 hi0 hz0 hz1 hz2 (.slice A M c) M _ rfl (HR.out.1.alloc _) (wr.heap.size + 1) (some ⟨wr.heap.size, 0, none⟩) 1 1 [u] rfl (Bs.lit_ wr 5 _ _ [u] rfl) (by omega) (by have := HR.out.2.2.1; rw [alloc_size]; omega) ?_; intro v2 w2 hown2 hgrow2; obtain ⟨A2, c2, rfl, hc2⟩ := own_slice (l := (xs ++ (bytesQ n 2).take 0) ++ [u]) (by rw [U8_append]; exact hown2); have HO := Lib.hid (And.intro hown2 (And.intro hgrow2 hc2)); clear hown2 hgrow2 hc2)
        go_roundw
        case rel =>
          refine ⟨1, M + 1, 1, A2, c2, rfl, rfl, by omega, (show Aside _ from ⟨⟨rfl, by rw [HMM.out]⟩, ?_, ?_, ?_, HO.out.2.2⟩)⟩
          · rw [HT.out, ← List.append_assoc, U8_append]; exact HO.out.1
          · exact (HR.out.2.1.alloc HR.out.2.2.1 _).grown HO.out.2.1 (by have := HR.out.2.2.1; rw [alloc_size]; omega) (own_ge HR.out.1)
          · exact Nat.le_trans (by have := HR.out.2.2.1; rw [alloc_size]; omega) HO.out.2.1.size
        case measure => simp [intOf]
      by_cases e1 : i = 1
      · subst e1
        obtain rfl : z = 1 := hz
        have HMM := Lib.hid hM
        have hMb : M ≤ 1008 := by omega
        clear hi hM e0
        obtain ⟨u, hu⟩ : ∃ u, byteAt n 0 = u := ⟨_, rfl⟩
        have hv := byteAt_val n 0
        rw [hu] at hv
        have htk := bytesQ_take n 2 1 (by omega)
        rw [show 2 - 1 - 1 = 0 from rfl, hu] at htk
        have HT := Lib.hid htk
        have hval : n % 256 = (u.toNat : Int) := by rw [hv, show ((2 : Int) ^ (8 * 0)) = 1 by decide, Int.ediv_one]
        have hn1 := HM.out.2.1
        have hn2 := HM.out.2.2
        skip
        clear hv htk hu hn1 hn2
        go_wp2_with (at_builtin; refine wpList_append_bs _ rfl (.tmp 12) (.tmp 21) 22 rfl base 5 i0 Tryd.underlying22 hi0 hz0 hz1 hz2 (.slice A M c) M _ rfl (HR.out.1.alloc _) (wr.heap.size + 1) (some ⟨wr.heap.size, 0, none⟩) 1 1 [u] rfl (Bs.lit_ wr 5 _ _ [u] rfl) (by omega) (by have := HR.out.2.2.1; rw [alloc_size]; omega) ?_; intro v2 w2 hown2 hgrow2; obtain ⟨A2, c2, rfl, hc2⟩ := own_slice (l := (xs ++ (bytesQ n 2).take 1) ++ [u]) (by rw [U8_append]; exact hown2); have HO := Lib.hid (And.intro hown2 (And.intro hgrow2 hc2)); clear hown2 hgrow2 hc2)
        go_roundw
        case rel =>
          refine ⟨2, M + 1, 2, A2, c2, rfl, rfl, by omega, (show Aside _ from ⟨⟨rfl, by rw [HMM.out]⟩, ?_, ?_, ?_, HO.out.2.2⟩)⟩
          · rw [HT.out, ← List.append_assoc, U8_append]; exact HO.out.1
          · exact (HR.out.2.1.alloc HR.out.2.2.1 _).grown HO.out.2.1 (by have := HR.out.2.2.1; rw [alloc_size]; omega) (own_ge HR.out.1)
          · exact Nat.le_trans (by have := HR.out.2.2.1; rw [alloc_size]; omega) HO.out.2.1.size
        case measure => simp [intOf]
      obtain rfl : i = 2 := by omega
      obtain rfl : z = 2 := hz
      have HMM := Lib.hid hM
      have hMb : M ≤ 1008 := by omega
      clear hi hM e0 e1
      go_wp2
      go_ret
      have hM := HMM.out
      subst hM
      refine ⟨A, c, rfl, HR.out.2.2.2, ?_, HR.out.2.1⟩
      have := HR.out.1
      rwa [List.take_of_length_le (by rw [bytesQ_len]; omega)] at this
  by_cases s4 : size = 4
  · subst s4
    clear hs s1 s2
    show Calls Tryd.prog 53 #[.slice pA m pc, .int .i64 n, .int .i64 4] w (PutRet n 4 base m xs w)
    go_enter Tryd.func53, Tryd.ntmps53
    go_wp2
    go_loopw [0, 9] (fun v0 v9 wr => ∃ (i M : Nat) (z : Int) (A : Option Addr) (c : Nat), v0 = .slice A M c ∧ v9 = .int .i64 z ∧ i ≤ 4 ∧ Aside ((z = (i : Int) ∧ M = m + i) ∧ wr.ownsRow base 5 1 (.slice A M c) M (U8 (xs ++ (bytesQ n 4).take i)) ∧ Below base w wr ∧ base ≤ wr.heap.size ∧ M ≤ c)) (fun _ v9 _ => 4 - (intOf v9).toNat)
    case atStart =>
      refine ⟨0, m, 0, pA, pc, rfl, rfl, by omega, ⟨rfl, rfl⟩, ?_, Below.refl _ _, hB, ?_⟩
      · rw [List.take_zero, List.append_nil]; exact hown
      · obtain ⟨_, _, e, hc⟩ := own_slice hown; cases e; exact hc
    case round =>
      clear hown hB
      obtain ⟨i, M, z, A, c, rfl, rfl, hi, hrel⟩ := hrel
      obtain ⟨hz, hM⟩ := hrel.out.1
      have HR := Lib.hid hrel.out.2
      clear hrel
      by_cases e0 : i = 0
      · subst e0
        obtain rfl : z = 0 := hz
        have HMM := Lib.hid hM
        have hMb : M ≤ 1008 := by omega
        clear hi hM
        obtain ⟨u, hu⟩ : ∃ u, byteAt n 3 = u := ⟨_, rfl⟩
        have hv := byteAt_val n 3
        rw [hu] at hv
        have htk := bytesQ_take n 4 0 (by omega)
        rw [show 4 - 1 - 0 = 3 from rfl, hu] at htk
        have HT := Lib.hid htk
        have hval : n / 16777216 % 256 = (u.toNat : Int) := by rw [hv, show ((2 : Int) ^ (8 * 3)) = 16777216 by decide]
        have hn1 := HM.out.2.1
        have hn2 := HM.out.2.2
        have hw : wrap64 (n / 16777216) = n / 16777216 := by unfold wrap64; omega
        clear hv htk hu hn1 hn2
        go_wp2_with (at_builtin; refine wpList_append_bs _ rfl (.tmp 12) (.tmp 21) 22 rfl base 5 i0 Tryd.underlying22 hi0 hz0 hz1 hz2 (.slice A M c) M _ rfl (HR.out.1.alloc _) (wr.heap.size + 1) (some ⟨wr.heap.size, 0, none⟩) 1 1 [u] rfl (Bs.lit_ wr 5 _ _ [u] rfl) (by omega) (by have := HR.out.2.2.1; rw [alloc_size]; omega) ?_; intro v2 w2 hown2 hgrow2; obtain ⟨A2, c2, rfl, hc2⟩ := own_slice (l := (xs ++ (bytesQ n 4).take 0) ++ [u]) (by rw [U8_append]; exact hown2); have HO := Lib.hid (And.intro hown2 (And.intro hgrow2 hc2)); clear hown2 hgrow2 hc2)
        go_roundw
        case rel =>
          refine ⟨1, M + 1, 1, A2, c2, rfl, rfl, by omega, (show Aside _ from ⟨⟨rfl, by rw [HMM.out]⟩, ?_, ?_, ?_, HO.out.2.2⟩)⟩
          · rw [HT.out, ← List.append_assoc, U8_append]; exact HO.out.1
          · exact (HR.out.2.1.alloc HR.out.2.2.1 _).grown HO.out.2.1 (by have := HR.out.2.2.1; rw [alloc_size]; omega) (own_ge HR.out.1)
          · exact Nat.le_trans (by have := HR.out.2.2.1; rw [alloc_size]; omega) HO.out.2.1.size
        case measure => simp [intOf]
      by_cases e1 : i = 1
      · subst e1
        obtain rfl : z = 1 := hz
        have HMM := Lib.hid hM
        have hMb : M ≤ 1008 := by omega
        clear hi hM e0
        obtain ⟨u, hu⟩ : ∃ u, byteAt n 2 = u := ⟨_, rfl⟩
        have hv := byteAt_val n 2
        rw [hu] at hv
        have htk := bytesQ_take n 4 1 (by omega)
        rw [show 4 - 1 - 1 = 2 from rfl, hu] at htk
        have HT := Lib.hid htk
        have hval : n / 65536 % 256 = (u.toNat : Int) := by rw [hv, show ((2 : Int) ^ (8 * 2)) = 65536 by decide]
        have hn1 := HM.out.2.1
        have hn2 := HM.out.2.2
        have hw : wrap64 (n / 65536) = n / 65536 := by unfold wrap64; omega
        clear hv htk hu hn1 hn2
        go_wp2_with (at_builtin; refine wpList_append_bs _ rfl (.tmp 12) (.tmp 21) 22 rfl base 5 i0 Tryd.underlying22 hi0 hz0 hz1 hz2 (.slice A M c) M _ rfl (HR.out.1.alloc _) (wr.heap.size + 1) (some ⟨wr.heap.size, 0, none⟩) 1 1 [u] rfl (Bs.lit_ wr 5 _ _ [u] rfl) (by omega) (by have := HR.out.2.2.1; rw [alloc_size]; omega) ?_; intro v2 w2 hown2 hgrow2; obtain ⟨A2, c2, rfl, hc2⟩ := own_slice (l := (xs ++ (bytesQ n 4).take 1) ++ [u]) (by rw [U8_append]; exact hown2); have HO := Lib.hid (And.intro hown2 (And.intro hgrow2 hc2)); clear hown2 hgrow2 hc2)
        go_roundw
        case rel =>
          refine ⟨2, M + 1, 2, A2, c2, rfl, rfl, by omega, (show Aside _ from ⟨⟨rfl, by rw [HMM.out]⟩, ?_, ?_, ?_, HO.out.2.2⟩)⟩
          · rw [HT.out, ← List.append_assoc, U8_append]; exact HO.out.1
          · exact (HR.out.2.1.alloc HR.out.2.2.1 _).grown HO.out.2.1 (by have := HR.out.2.2.1; rw [alloc_size]; omega) (own_ge HR.out.1)
          · exact Nat.le_trans (by have := HR.out.2.2.1; rw [alloc_size]; omega) HO.out.2.1.size
        case measure => simp [intOf]
      by_cases e2 : i = 2
      · subst e2
        obtain rfl : z = 2 := hz
        have HMM := Lib.hid hM
        have hMb : M ≤ 1008 := by omega
        clear hi hM e0 e1
        obtain ⟨u, hu⟩ : ∃ u, byteAt n 1 = u := ⟨_, rfl⟩
        have hv := byteAt_val n 1
        rw [hu] at hv
        have htk := bytesQ_take n 4 2 (by omega)
        rw [show 4 - 1 - 2 = 1 from rfl, hu] at htk
        have HT := Lib.hid htk
        have hval : n / 256 % 256 = (u.toNat : Int) := by rw [hv, show ((2 : Int) ^ (8 * 1)) = 256 by decide]
        have hn1 := HM.out.2.1
        have hn2 := HM.out.2.2
        have hw : wrap64 (n / 256) = n / 256 := by unfold wrap64; omega
        clear hv htk hu hn1 hn2
        go_wp2_with (at_builtin; refine wpList_append_bs _ rfl (.tmp 12) (.tmp 21) 22 rfl base 5 i0 Tryd.underlying22 hi0 hz0 hz1 hz2 (.slice A M c) M _ rfl (HR.out.1.alloc _) (wr.heap.size + 1) (some ⟨wr.heap.size, 0, none⟩) 1 1 [u] rfl (Bs.lit_ wr 5 _ _ [u] rfl) (by omega) (by have := HR.out.2.2.1; rw [alloc_size]; omega) ?_; intro v2 w2 hown2 hgrow2; obtain ⟨A2, c2, rfl, hc2⟩ := own_slice (l := (xs ++ (bytesQ n 4).take 2) ++ [u]) (by rw [U8_append]; exact hown2); have HO := Lib.hid (And.intro hown2 (And.intro hgrow2 hc2)); clear hown2 hgrow2 hc2)
        go_roundw
        case rel =>
          refine ⟨3, M + 1, 3, A2, c2, rfl, rfl, by omega, (show Aside _ from ⟨⟨rfl, by rw [HMM.out]⟩, ?_, ?_, ?_, HO.out.2.2⟩)⟩
          · rw [HT.out, ← List.append_assoc, U8_append]; exact HO.out.1
          · exact (HR.out.2.1.alloc HR.out.2.2.1 _).grown HO.out.2.1 (by have := HR.out.2.2.1; rw [alloc_size]; omega) (own_ge HR.out.1)
          · exact Nat.le_trans (by have := HR.out.2.2.1; rw [alloc_size]; omega) HO.out.2.1.size
        case measure => simp [intOf]
      by_cases e3 : i = 3
      · subst e3
        obtain rfl : z = 3 := hz
        have HMM := Lib.hid hM
        have hMb : M ≤ 1008 := by omega
        clear hi hM e0 e1 e2
        obtain ⟨u, hu⟩ : ∃ u, byteAt n 0 = u := ⟨_, rfl⟩
        have hv := byteAt_val n 0
        rw [hu] at hv
        have htk := bytesQ_take n 4 3 (by omega)
        rw [show 4 - 1 - 3 = 0 from rfl, hu] at htk
        have HT := Lib.hid htk
        have hval : n % 256 = (u.toNat : Int) := by rw [hv, show ((2 : Int) ^ (8 * 0)) = 1 by decide, Int.ediv_one]
        have hn1 := HM.out.2.1
        have hn2 := HM.out.2.2
        skip
        clear hv htk hu hn1 hn2
        go_wp2_with (at_builtin; refine wpList_append_bs _ rfl (.tmp 12) (.tmp 21) 22 rfl base 5 i0 Tryd.underlying22 hi0 hz0 hz1 hz2 (.slice A M c) M _ rfl (HR.out.1.alloc _) (wr.heap.size + 1) (some ⟨wr.heap.size, 0, none⟩) 1 1 [u] rfl (Bs.lit_ wr 5 _ _ [u] rfl) (by omega) (by have := HR.out.2.2.1; rw [alloc_size]; omega) ?_; intro v2 w2 hown2 hgrow2; obtain ⟨A2, c2, rfl, hc2⟩ := own_slice (l := (xs ++ (bytesQ n 4).take 3) ++ [u]) (by rw [U8_append]; exact hown2); have HO := Lib.hid (And.intro hown2 (And.intro hgrow2 hc2)); clear hown2 hgrow2 hc2)
        go_roundw
        case rel =>
          refine ⟨4, M + 1, 4, A2, c2, rfl, rfl, by omega, (show Aside _ from ⟨⟨rfl, by rw [HMM.out]⟩, ?_, ?_, ?_, HO.out.2.2⟩)⟩
          · rw [HT.out, ← List.append_assoc, U8_append]; exact HO.out.1
          · exact (HR.out.2.1.alloc HR.out.2.2.1 _).grown HO.out.2.1 (by have := HR.out.2.2.1; rw [alloc_size]; omega) (own_ge HR.out.1)
          · exact Nat.le_trans (by have := HR.out.2.2.1; rw [alloc_size]; omega) HO.out.2.1.size
        case measure => simp [intOf]
      obtain rfl : i = 4 := by omega
      obtain rfl : z = 4 := hz
      have HMM := Lib.hid hM
      have hMb : M ≤ 1008 := by omega
      clear hi hM e0 e1 e2 e3
      go_wp2
      go_ret
      have hM := HMM.out
      subst hM
      refine ⟨A, c, rfl, HR.out.2.2.2, ?_, HR.out.2.1⟩
      have := HR.out.1
      rwa [List.take_of_length_le (by rw [bytesQ_len]; omega)] at this
  obtain rfl : size = 8 := by omega
  clear hs s1 s2 s4
  show Calls Tryd.prog 53 #[.slice pA m pc, .int .i64 n, .int .i64 8] w (PutRet n 8 base m xs w)
  go_enter Tryd.func53, Tryd.ntmps53
  go_wp2
  go_loopw [0, 9] (fun v0 v9 wr => ∃ (i M : Nat) (z : Int) (A : Option Addr) (c : Nat), v0 = .slice A M c ∧ v9 = .int .i64 z ∧ i ≤ 8 ∧ Aside ((z = (i : Int) ∧ M = m + i) ∧ wr.ownsRow base 5 1 (.slice A M c) M (U8 (xs ++ (bytesQ n 8).take i)) ∧ Below base w wr ∧ base ≤ wr.heap.size ∧ M ≤ c)) (fun _ v9 _ => 8 - (intOf v9).toNat)
  case atStart =>
    refine ⟨0, m, 0, pA, pc, rfl, rfl, by omega, ⟨rfl, rfl⟩, ?_, Below.refl _ _, hB, ?_⟩
    · rw [List.take_zero, List.append_nil]; exact hown
    · obtain ⟨_, _, e, hc⟩ := own_slice hown; cases e; exact hc
  case round =>
    clear hown hB
    obtain ⟨i, M, z, A, c, rfl, rfl, hi, hrel⟩ := hrel
    obtain ⟨hz, hM⟩ := hrel.out.1
    have HR := Lib.hid hrel.out.2
    clear hrel
    by_cases e0 : i = 0
    · subst e0
      obtain rfl : z = 0 := hz
      have HMM := Lib.hid hM
      have hMb : M ≤ 1008 := by omega
      clear hi hM
      obtain ⟨u, hu⟩ : ∃ u, byteAt n 7 = u := ⟨_, rfl⟩
      have hv := byteAt_val n 7
      rw [hu] at hv
      have htk := bytesQ_take n 8 0 (by omega)
      rw [show 8 - 1 - 0 = 7 from rfl, hu] at htk
      have HT := Lib.hid htk
      have hval : n / 72057594037927936 % 256 = (u.toNat : Int) := by rw [hv, show ((2 : Int) ^ (8 * 7)) = 72057594037927936 by decide]
      have hn1 := HM.out.2.1
      have hn2 := HM.out.2.2
      have hw : wrap64 (n / 72057594037927936) = n / 72057594037927936 := by unfold wrap64; omega
      clear hv htk hu hn1 hn2
      go_wp2_with (at_builtin; refine wpList_append_bs _ rfl (.tmp 12) (.tmp 21) 22 rfl base 5 i0 Tryd.underlying22 hi0 hz0 hz1 hz2 (.slice A M c) M _ rfl (HR.out.1.alloc _) (wr.heap.size + 1) (some ⟨wr.heap.size, 0, none⟩) 1 1 [u] rfl (Bs.lit_ wr 5 _ _ [u] rfl) (by omega) (by have := HR.out.2.2.1; rw [alloc_size]; omega) ?_; intro v2 w2 hown2 hgrow2; obtain ⟨A2, c2, rfl, hc2⟩ := own_slice (l := (xs ++ (bytesQ n 8).take 0) ++ [u]) (by rw [U8_append]; exact hown2); have HO := Lib.hid (And.intro hown2 (And.intro hgrow2 hc2)); clear hown2 hgrow2 hc2)
      go_roundw
      case rel =>
        refine ⟨1, M + 1, 1, A2, c2, rfl, rfl, by omega, (show Aside _ from ⟨⟨rfl, by rw [HMM.out]⟩, ?_, ?_, ?_, HO.out.2.2⟩)⟩
        · rw [HT.out, ← List.append_assoc, U8_append]; exact HO.out.1
        · exact (HR.out.2.1.alloc HR.out.2.2.1 _).grown HO.out.2.1 (by have := HR.out.2.2.1; rw [alloc_size]; omega) (own_ge HR.out.1)
        · exact Nat.le_trans (by have := HR.out.2.2.1; rw [alloc_size]; omega) HO.out.2.1.size
      case measure => simp [intOf]
    by_cases e1 : i = 1
    · subst e1
      obtain rfl : z = 1 := hz
      have HMM := Lib.hid hM
      have hMb : M ≤ 1008 := by omega
      clear hi hM e0
      obtain ⟨u, hu⟩ : ∃ u, byteAt n 6 = u := ⟨_, rfl⟩
      have hv := byteAt_val n 6
      rw [hu] at hv
      have htk := bytesQ_take n 8 1 (by omega)
      rw [show 8 - 1 - 1 = 6 from rfl, hu] at htk
      have HT := Lib.hid htk
      have hval : n / 281474976710656 % 256 = (u.toNat : Int) := by rw [hv, show ((2 : Int) ^ (8 * 6)) = 281474976710656 by decide]
      have hn1 := HM.out.2.1
      have hn2 := HM.out.2.2
      have hw : wrap64 (n / 281474976710656) = n / 281474976710656 := by unfold wrap64; omega
      clear hv htk hu hn1 hn2
      go_wp2_with (at_builtin; refine wpList_append_bs _ rfl (.tmp 12) (.tmp 21) 22 rfl base 5 i0 Tryd.underlying22 hi0 hz0 hz1 hz2 (.slice A M c) M _ rfl (HR.out.1.alloc _) (wr.heap.size + 1) (some ⟨wr.heap.size, 0, none⟩) 1 1 [u] rfl (Bs.lit_ wr 5 _ _ [u] rfl) (by omega) (by have := HR.out.2.2.1; rw [alloc_size]; omega) ?_; intro v2 w2 hown2 hgrow2; obtain ⟨A2, c2, rfl, hc2⟩ := own_slice (l := (xs ++ (bytesQ n 8).take 1) ++ [u]) (by rw [U8_append]; exact hown2); have HO := Lib.hid (And.intro hown2 (And.intro hgrow2 hc2)); clear hown2 hgrow2 hc2)
      go_roundw
      case rel =>
        refine ⟨2, M + 1, 2, A2, c2, rfl, rfl, by omega, (show Aside _ from ⟨⟨rfl, by rw [HMM.out]⟩, ?_, ?_, ?_, HO.out.2.2⟩)⟩
        · rw [HT.out, ← List.append_assoc, U8_append]; exact HO.out.1
        · exact (HR.out.2.1.alloc HR.out.2.2.1 _).grown HO.out.2.1 (by have := HR.out.2.2.1; rw [alloc_size]; omega) (own_ge HR.out.1)
        · exact Nat.le_trans (by have := HR.out.2.2.1; rw [alloc_size]; omega) HO.out.2.1.size
      case measure => simp [intOf]
    by_cases e2 : i = 2
    · subst e2
      obtain rfl : z = 2 := hz
      have HMM := Lib.hid hM
      have hMb : M ≤ 1008 := by omega
      clear hi hM e0 e1
      obtain ⟨u, hu⟩ : ∃ u, byteAt n 5 = u := ⟨_, rfl⟩
      have hv := byteAt_val n 5
      rw [hu] at hv
      have htk := bytesQ_take n 8 2 (by omega)
      rw [show 8 - 1 - 2 = 5 from rfl, hu] at htk
      have HT := Lib.hid htk
      have hval : n / 1099511627776 % 256 = (u.toNat : Int) := by rw [hv, show ((2 : Int) ^ (8 * 5)) = 1099511627776 by decide]
      have hn1 := HM.out.2.1
      have hn2 := HM.out.2.2
      have hw : wrap64 (n / 1099511627776) = n / 1099511627776 := by unfold wrap64; omega
      clear hv htk hu hn1 hn2
      go_wp2_with (at_builtin; refine wpList_append_bs _ rfl (.tmp 12) (.tmp 21) 22 rfl base 5 i0 Tryd.underlying22 hi0 hz0 hz1 hz2 (.slice A M c) M _ rfl (HR.out.1.alloc _) (wr.heap.size + 1) (some ⟨wr.heap.size, 0, none⟩) 1 1 [u] rfl (Bs.lit_ wr 5 _ _ [u] rfl) (by omega) (by have := HR.out.2.2.1; rw [alloc_size]; omega) ?_; intro v2 w2 hown2 hgrow2; obtain ⟨A2, c2, rfl, hc2⟩ := own_slice (l := (xs ++ (bytesQ n 8).take 2) ++ [u]) (by rw [U8_append]; exact hown2); have HO := Lib.hid (And.intro hown2 (And.intro hgrow2 hc2)); clear hown2 hgrow2 hc2)
      go_roundw
      case rel =>
        refine ⟨3, M + 1, 3, A2, c2, rfl, rfl, by omega, (show Aside _ from ⟨⟨rfl, by rw [HMM.out]⟩, ?_, ?_, ?_, HO.out.2.2⟩)⟩
        · rw [HT.out, ← List.append_assoc, U8_append]; exact HO.out.1
        · exact (HR.out.2.1.alloc HR.out.2.2.1 _).grown HO.out.2.1 (by have := HR.out.2.2.1; rw [alloc_size]; omega) (own_ge HR.out.1)
        · exact Nat.le_trans (by have := HR.out.2.2.1; rw [alloc_size]; omega) HO.out.2.1.size
      case measure => simp [intOf]
    by_cases e3 : i = 3
    · subst e3
      obtain rfl : z = 3 := hz
      have HMM := Lib.hid hM
      have hMb : M ≤ 1008 := by omega
      clear hi hM e0 e1 e2
      obtain ⟨u, hu⟩ : ∃ u, byteAt n 4 = u := ⟨_, rfl⟩
      have hv := byteAt_val n 4
      rw [hu] at hv
      have htk := bytesQ_take n 8 3 (by omega)
      rw [show 8 - 1 - 3 = 4 from rfl, hu] at htk
      have HT := Lib.hid htk
      have hval : n / 4294967296 % 256 = (u.toNat : Int) := by rw [hv, show ((2 : Int) ^ (8 * 4)) = 4294967296 by decide]
      have hn1 := HM.out.2.1
      have hn2 := HM.out.2.2
      have hw : wrap64 (n / 4294967296) = n / 4294967296 := by unfold wrap64; omega
      clear hv htk hu hn1 hn2
      go_wp2_with (at_builtin; refine wpList_append_bs _ rfl (.tmp 12) (.tmp 21) 22 rfl base 5 i0 Tryd.underlying22 hi0 hz0 hz1 hz2 (.slice A M c) M _ rfl (HR.out.1.alloc _) (wr.heap.size + 1) (some ⟨wr.heap.size, 0, none⟩) 1 1 [u] rfl (Bs.lit_ wr 5 _ _ [u] rfl) (by omega) (by have := HR.out.2.2.1; rw [alloc_size]; omega) ?_; intro v2 w2 hown2 hgrow2; obtain ⟨A2, c2, rfl, hc2⟩ := own_slice (l := (xs ++ (bytesQ n 8).take 3) ++ [u]) (by rw [U8_append]; exact hown2); have HO := Lib.hid (And.intro hown2 (And.intro hgrow2 hc2)); clear hown2 hgrow2 hc2)
      go_roundw
      case rel =>
        refine ⟨4, M + 1, 4, A2, c2, rfl, rfl, by omega, (show Aside _ from ⟨⟨rfl, by rw [HMM.out]⟩, ?_, ?_, ?_, HO.out.2.2⟩)⟩
        · rw [HT.out, ← List.append_assoc, U8_append]; exact HO.out.1
        · exact (HR.out.2.1.alloc HR.out.2.2.1 _).grown HO.out.2.1 (by have := HR.out.2.2.1; rw [alloc_size]; omega) (own_ge HR.out.1)
        · exact Nat.le_trans (by have := HR.out.2.2.1; rw [alloc_size]; omega) HO.out.2.1.size
      case measure => simp [intOf]
    by_cases e4 : i = 4
    · subst e4
      obtain rfl : z = 4 := hz
      have HMM := Lib.hid hM
      have hMb : M ≤ 1008 := by omega
      clear hi hM e0 e1 e2 e3
      obtain ⟨u, hu⟩ : ∃ u, byteAt n 3 = u := ⟨_, rfl⟩
      have hv := byteAt_val n 3
      rw [hu] at hv
      have htk := bytesQ_take n 8 4 (by omega)
      rw [show 8 - 1 - 4 = 3 from rfl, hu] at htk
      have HT := Lib.hid htk
      have hval : n / 16777216 % 256 = (u.toNat : Int) := by rw [hv, show ((2 : Int) ^ (8 * 3)) = 16777216 by decide]
      have hn1 := HM.out.2.1
      have hn2 := HM.out.2.2
      have hw : wrap64 (n / 16777216) = n / 16777216 := by unfold wrap64; omega
      clear hv htk hu hn1 hn2
      go_wp2_with (at_builtin; refine wpList_append_bs _ rfl (.tmp 12) (.tmp 21) 22 rfl base 5 i0 Tryd.underlying22 hi0 hz0 hz1 hz2 (.slice A M c) M _ rfl (HR.out.1.alloc _) (wr.heap.size + 1) (some ⟨wr.heap.size, 0, none⟩) 1 1 [u] rfl (Bs.lit_ wr 5 _ _ [u] rfl) (by omega) (by have := HR.out.2.2.1; rw [alloc_size]; omega) ?_; intro v2 w2 hown2 hgrow2; obtain ⟨A2, c2, rfl, hc2⟩ := own_slice (l := (xs ++ (bytesQ n 8).take 4) ++ [u]) (by rw [U8_append]; exact hown2); have HO := Lib.hid (And.intro hown2 (And.intro hgrow2 hc2)); clear hown2 hgrow2 hc2)
      go_roundw
      case rel =>
        refine ⟨5, M + 1, 5, A2, c2, rfl, rfl, by omega, (show Aside _ from ⟨⟨rfl, by rw [HMM.out]⟩, ?_, ?_, ?_, HO.out.2.2⟩)⟩
        · rw [HT.out, ← List.append_assoc, U8_append]; exact HO.out.1
        · exact (HR.out.2.1.alloc HR.out.2.2.1 _).grown HO.out.2.1 (by have := HR.out.2.2.1; rw [alloc_size]; omega) (own_ge HR.out.1)
        · exact Nat.le_trans (by have := HR.out.2.2.1; rw [alloc_size]; omega) HO.out.2.1.size
      case measure => simp [intOf]
    by_cases e5 : i = 5
    · subst e5
      obtain rfl : z = 5 := hz
      have HMM := Lib.hid hM
      have hMb : M ≤ 1008 := by omega
      clear hi hM e0 e1 e2 e3 e4
      obtain ⟨u, hu⟩ : ∃ u, byteAt n 2 = u := ⟨_, rfl⟩
      have hv := byteAt_val n 2
      rw [hu] at hv
      have htk := bytesQ_take n 8 5 (by omega)
      rw [show 8 - 1 - 5 = 2 from rfl, hu] at htk
      have HT := Lib.hid htk
      have hval : n / 65536 % 256 = (u.toNat : Int) := by rw [hv, show ((2 : Int) ^ (8 * 2)) = 65536 by decide]
      have hn1 := HM.out.2.1
      have hn2 := HM.out.2.2
      have hw : wrap64 (n / 65536) = n / 65536 := by unfold wrap64; omega
      clear hv htk hu hn1 hn2
      go_wp2_with (at_builtin; refine wpList_append_bs _ rfl (.tmp 12) (.tmp 21) 22 rfl base 5 i0 Tryd.underlying22 hi0 hz0 hz1 hz2 (.slice A M c) M _ rfl (HR.out.1.alloc _) (wr.heap.size + 1) (some ⟨wr.heap.size, 0, none⟩) 1 1 [u] rfl (Bs.lit_ wr 5 _ _ [u] rfl) (by omega) (by have := HR.out.2.2.1; rw [alloc_size]; omega) ?_; intro v2 w2 hown2 hgrow2; obtain ⟨A2, c2, rfl, hc2⟩ := own_slice (l := (xs ++ (bytesQ n 8).take 5) ++ [u]) (by rw [U8_append]; exact hown2); have HO := Lib.hid (And.intro hown2 (And.intro hgrow2 hc2)); clear hown2 hgrow2 hc2)
      go_roundw
      case rel =>
        refine ⟨6, M + 1, 6, A2, c2, rfl, rfl, by omega, (show Aside _ from ⟨⟨rfl, by rw [HMM.out]⟩, ?_, ?_, ?_, HO.out.2.2⟩)⟩
        · rw [HT.out, ← List.append_assoc, U8_append]; exact HO.out.1
        · exact (HR.out.2.1.alloc HR.out.2.2.1 _).grown HO.out.2.1 (by have := HR.out.2.2.1; rw [alloc_size]; omega) (own_ge HR.out.1)
        · exact Nat.le_trans (by have := HR.out.2.2.1; rw [alloc_size]; omega) HO.out.2.1.size
      case measure => simp [intOf]
    by_cases e6 : i = 6
    · subst e6
      obtain rfl : z = 6 := hz
      have HMM := Lib.hid hM
      have hMb : M ≤ 1008 := by omega
      clear hi hM e0 e1 e2 e3 e4 e5
      obtain ⟨u, hu⟩ : ∃ u, byteAt n 1 = u := ⟨_, rfl⟩
      have hv := byteAt_val n 1
      rw [hu] at hv
      have htk := bytesQ_take n 8 6 (by omega)
      rw [show 8 - 1 - 6 = 1 from rfl, hu] at htk
      have HT := Lib.hid htk
      have hval : n / 256 % 256 = (u.toNat : Int) := by rw [hv, show ((2 : Int) ^ (8 * 1)) = 256 by decide]
      have hn1 := HM.out.2.1
      have hn2 := HM.out.2.2
      have hw : wrap64 (n / 256) = n / 256 := by unfold wrap64; omega
      clear hv htk hu hn1 hn2
      go_wp2_with (at_builtin; refine wpList_append_bs _ rfl (.tmp 12) (.tmp 21) 22 rfl base 5 i0 Tryd.underlying22 hi0 hz0 hz1 hz2 (.slice A M c) M _ rfl (HR.out.1.alloc _) (wr.heap.size + 1) (some ⟨wr.heap.size, 0, none⟩) 1 1 [u] rfl (Bs.lit_ wr 5 _ _ [u] rfl) (by omega) (by have := HR.out.2.2.1; rw [alloc_size]; omega) ?_; intro v2 w2 hown2 hgrow2; obtain ⟨A2, c2, rfl, hc2⟩ := own_slice (l := (xs ++ (bytesQ n 8).take 6) ++ [u]) (by rw [U8_append]; exact hown2); have HO := Lib.hid (And.intro hown2 (And.intro hgrow2 hc2)); clear hown2 hgrow2 hc2)
      go_roundw
      case rel =>
        refine ⟨7, M + 1, 7, A2, c2, rfl, rfl, by omega, (show Aside _ from ⟨⟨rfl, by rw [HMM.out]⟩, ?_, ?_, ?_, HO.out.2.2⟩)⟩
        · rw [HT.out, ← List.append_assoc, U8_append]; exact HO.out.1
        · exact (HR.out.2.1.alloc HR.out.2.2.1 _).grown HO.out.2.1 (by have := HR.out.2.2.1; rw [alloc_size]; omega) (own_ge HR.out.1)
        · exact Nat.le_trans (by have := HR.out.2.2.1; rw [alloc_size]; omega) HO.out.2.1.size
      case measure => simp [intOf]
    by_cases e7 : i = 7
    · subst e7
      obtain rfl : z = 7 := hz
      have HMM := Lib.hid hM
      have hMb : M ≤ 1008 := by omega
      clear hi hM e0 e1 e2 e3 e4 e5 e6
      obtain ⟨u, hu⟩ : ∃ u, byteAt n 0 = u := ⟨_, rfl⟩
      have hv := byteAt_val n 0
      rw [hu] at hv
      have htk := bytesQ_take n 8 7 (by omega)
      rw [show 8 - 1 - 7 = 0 from rfl, hu] at htk
      have HT := Lib.hid htk
      have hval : n % 256 = (u.toNat : Int) := by rw [hv, show ((2 : Int) ^ (8 * 0)) = 1 by decide, Int.ediv_one]
      have hn1 := HM.out.2.1
      have hn2 := HM.out.2.2
      skip
      clear hv htk hu hn1 hn2
      go_wp2_with (at_builtin; refine wpList_append_bs _ rfl (.tmp 12) (.tmp 21) 22 rfl base 5 i0 Tryd.underlying22 hi0 hz0 hz1 hz2 (.slice A M c) M _ rfl (HR.out.1.alloc _) (wr.heap.size + 1) (some ⟨wr.heap.size, 0, none⟩) 1 1 [u] rfl (Bs.lit_ wr 5 _ _ [u] rfl) (by omega) (by have := HR.out.2.2.1; rw [alloc_size]; omega) ?_; intro v2 w2 hown2 hgrow2; obtain ⟨A2, c2, rfl, hc2⟩ := own_slice (l := (xs ++ (bytesQ n 8).take 7) ++ [u]) (by rw [U8_append]; exact hown2); have HO := Lib.hid (And.intro hown2 (And.intro hgrow2 hc2)); clear hown2 hgrow2 hc2)
      go_roundw
      case rel =>
        refine ⟨8, M + 1, 8, A2, c2, rfl, rfl, by omega, (show Aside _ from ⟨⟨rfl, by rw [HMM.out]⟩, ?_, ?_, ?_, HO.out.2.2⟩)⟩
        · rw [HT.out, ← List.append_assoc, U8_append]; exact HO.out.1
        · exact (HR.out.2.1.alloc HR.out.2.2.1 _).grown HO.out.2.1 (by have := HR.out.2.2.1; rw [alloc_size]; omega) (own_ge HR.out.1)
        · exact Nat.le_trans (by have := HR.out.2.2.1; rw [alloc_size]; omega) HO.out.2.1.size
      case measure => simp [intOf]
    obtain rfl : i = 8 := by omega
    obtain rfl : z = 8 := hz
    have HMM := Lib.hid hM
    have hMb : M ≤ 1008 := by omega
    clear hi hM e0 e1 e2 e3 e4 e5 e6 e7
    go_wp2
    go_ret
    have hM := HMM.out
    subst hM
    refine ⟨A, c, rfl, HR.out.2.2.2, ?_, HR.out.2.1⟩
    have := HR.out.1
    rwa [List.take_of_length_le (by rw [bytesQ_len]; omega)] at this
end Go.Proofs.YtkacgdhcacclcaaDoor
