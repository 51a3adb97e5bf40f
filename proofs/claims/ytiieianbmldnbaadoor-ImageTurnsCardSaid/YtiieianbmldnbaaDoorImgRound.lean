/-
  What is written is read as it: plain facts on bytes.
-/
import Derived.Test.YtiieianbmldnbaaDoorImgCheck
namespace Go.Proofs.YtiieianbmldnbaaDoor
open Go.RowKit
set_option maxRecDepth 100000
theorem g32_p32 (x : Int) (h0 : 0 ≤ x) (h1 : x < 4294967296) (r : List UInt8) : g32 (p32 x ++ r) = (x, true) := by
  show (((ob x).toNat : Int) + (ob (x / 256)).toNat * 256 + (ob (x / 65536)).toNat * 65536 + (ob (x / 16777216)).toNat * 16777216, true) = (x, true)
  rw [ob_val, ob_val, ob_val, ob_val]
  congr 1
  omega
theorem opens_seals (l : List UInt8) : opens (seals l) = some l := by
  have hl := seals_length l
  have hd : (seals l).drop ((seals l).length - 4) = p32 ((sum l).toNat : Int) ++ [] := by
    rw [hl, Nat.add_sub_cancel, List.append_nil]
    unfold seals
    exact List.drop_left
  have ht : (seals l).take ((seals l).length - 4) = l := by
    rw [hl, Nat.add_sub_cancel]
    unfold seals
    exact List.take_left
  unfold opens
  rw [if_neg (by omega), hd, ht, g32_p32 _ (by omega) (word_lt _), if_pos rfl]
theorem tz_tail (l : List UInt8) (m : Nat) : ∀ j, (∀ i, m ≤ i → i < m + j → l.getD i 0 = 0) → tz l (m + j) = tz l m
  | 0, _ => rfl
  | j + 1, h => by
    have h1 := h (m + j) (by omega) (by omega)
    show (if l.getD (m + j) 0 = 0 then tz l (m + j) else m + j + 1) = _
    rw [if_pos h1]
    exact tz_tail l m j fun i h1 h2 => h i h1 (by omega)
theorem named_last {l : List UInt8} (h : named l = true) (r : List UInt8) : tz (l ++ r) l.length = l.length := by
  have hle : 1 ≤ l.length := by
    unfold named at h
    simp only [Bool.and_eq_true, decide_eq_true_eq] at h
    exact h.1.1
  obtain ⟨m, hm⟩ : ∃ m, l.length = m + 1 := ⟨l.length - 1, by omega⟩
  rw [hm]
  have hx : (l ++ r).getD m 0 = l.getD m 0 := by
    rw [List.getD_eq_getElem?_getD, List.getD_eq_getElem?_getD, List.getElem?_append_left (by omega)]
  have hs : sign (l.getD m 0).toNat = true := by
    unfold named at h
    simp only [Bool.and_eq_true] at h
    refine List.all_eq_true.1 h.2 _ ?_
    rw [List.getD_eq_getElem?_getD, List.getElem?_eq_getElem (by omega), Option.getD_some]
    exact List.getElem_mem _
  show (if (l ++ r).getD m 0 = 0 then tz (l ++ r) m else m + 1) = m + 1
  rw [hx, if_neg]
  intro e
  rw [e] at hs
  exact absurd hs (by decide)
theorem tz_pad {nm : List UInt8} (h : named nm = true) : tz (pad16 nm) 16 = nm.length := by
  have h16 := named_le h
  have h1 := tz_tail (pad16 nm) nm.length (16 - nm.length) fun i hi hi2 => by
    unfold pad16
    rw [List.getD_eq_getElem?_getD, List.getElem?_append_right hi, List.getElem?_replicate, if_pos (by omega)]; rfl
  rw [show nm.length + (16 - nm.length) = 16 by omega] at h1
  rw [h1]
  exact named_last h _
theorem hd_is {P : Hd} {v sz : Int} {nm d : List UInt8} (h1 : P.v = v) (h2 : P.sz = sz) (h3 : P.nm = nm) (h4 : P.d = d) : P = ⟨v, sz, nm, d⟩ := by
  cases P
  simp only at h1 h2 h3 h4
  rw [h1, h2, h3, h4]
theorem parts_raw {v sz : Int} {nm d : List UInt8} (hn : named nm = true) (hv0 : 0 ≤ v) (hv1 : v < 4294967296) (hz0 : 0 ≤ sz) (hz1 : sz < 4294967296) (hd : d.length = 32) : partsOf (rawOf v sz nm d) = ⟨v, sz, nm, d⟩ := by
  have h16 := pad16_length (named_le hn)
  have e4 : (rawOf v sz nm d).drop 4 = p32 v ++ (p32 sz ++ (pad16 nm ++ d)) := by unfold rawOf; simp only [List.append_assoc]; rfl
  have e8 : (rawOf v sz nm d).drop 8 = p32 sz ++ (pad16 nm ++ d) := by unfold rawOf; simp only [List.append_assoc]; rfl
  have e12 : (rawOf v sz nm d).drop 12 = pad16 nm ++ d := by unfold rawOf; simp only [List.append_assoc]; rfl
  have t16 : ((rawOf v sz nm d).drop 12).take 16 = pad16 nm := by rw [e12, ← h16]; exact List.take_left
  have e28 : (rawOf v sz nm d).drop 28 = d := by
    rw [show (28 : Nat) = 12 + 16 from rfl, ← List.drop_drop, e12, ← h16]; exact List.drop_left
  refine hd_is ?_ ?_ ?_ ?_
  · show (g32 ((rawOf v sz nm d).drop 4)).1 = v
    rw [e4, g32_p32 v hv0 hv1]
  · show (g32 ((rawOf v sz nm d).drop 8)).1 = sz
    rw [e8, g32_p32 sz hz0 hz1]
  · show ((rawOf v sz nm d).drop 12).take (tz (((rawOf v sz nm d).drop 12).take 16) 16) = nm
    rw [t16, tz_pad hn, e12]
    unfold pad16
    rw [List.append_assoc]; exact List.take_left
  · show ((rawOf v sz nm d).drop 28).take 32 = d
    rw [e28, List.take_of_length_le (by omega)]
theorem head_take {v sz : Int} {nm d r : List UInt8} (hn : nm.length ≤ 16) (hd : d.length = 32) : (headOf v sz nm d ++ r).take 64 = headOf v sz nm d := by
  rw [← headOf_length (v := v) (sz := sz) hn hd]; exact List.take_left
theorem head_drop {v sz : Int} {nm d r : List UInt8} (hn : nm.length ≤ 16) (hd : d.length = 32) : (headOf v sz nm d ++ r).drop 64 = r := by
  rw [← headOf_length (v := v) (sz := sz) hn hd]; exact List.drop_left
/-- What is written is read as it. -/
theorem read_head {v sz : Int} {nm d : List UInt8} (hn : named nm = true) (hv0 : 0 ≤ v) (hv1 : v < 4294967296) (hz0 : 0 ≤ sz) (hz1 : sz ≤ 1048576) (hd : d.length = 32) (r : List UInt8) :
    readErr (headOf v sz nm d ++ r) = 0 ∧ readOf (headOf v sz nm d ++ r) = ⟨v, sz, nm, d⟩ := by
  have hl := headOf_length (v := v) (sz := sz) (named_le hn) hd
  have ht := head_take (v := v) (sz := sz) (r := r) (named_le hn) hd
  have hp := parts_raw hn hv0 hv1 hz0 (by omega) hd
  have ho : opens ((headOf v sz nm d ++ r).take 64) = some (rawOf v sz nm d) := by rw [ht]; exact opens_seals _
  have hm : (headOf v sz nm d ++ r).take 4 = MAGIC := by
    unfold headOf seals rawOf
    simp only [List.append_assoc]; rfl
  have hr : rightH sz ⟨nm.toArray⟩ = true := by
    unfold rightH
    rw [decide_eq_true hz0, decide_eq_true hz1]
    simpa using hn
  have h0 : readErr (headOf v sz nm d ++ r) = 0 := by
    unfold readErr
    rw [if_neg (by rw [List.length_append]; omega), if_neg (by simpa using hm), ho]
    show (if rightH (partsOf (rawOf v sz nm d)).sz ⟨(partsOf (rawOf v sz nm d)).nm.toArray⟩ then 0 else 20) = 0
    rw [hp]
    show (if rightH sz ⟨nm.toArray⟩ then 0 else 20) = 0
    rw [hr]; rfl
  refine ⟨h0, ?_⟩
  unfold readOf
  rw [if_pos h0, ho]
  exact hp
/-- A made image, and more or less of it. -/
theorem make_read {nm : List UInt8} {v : Int} {l : List UInt8} (hn : named nm = true) (hv0 : 0 ≤ v) (hv1 : v < 4294967296) (hl : l.length ≤ 1048576) (r : List UInt8) :
    readErr (makeOf nm v l ++ r) = 0 ∧ readOf (makeOf nm v l ++ r) = ⟨v, (l.length : Int), nm, shaOf l⟩ := by
  unfold makeOf
  rw [List.append_assoc]
  exact read_head hn hv0 hv1 (by omega) (by omega) (shaOf_length l) _
theorem make_drop {nm : List UInt8} {v : Int} {l : List UInt8} (hn : named nm = true) : (makeOf nm v l).drop 64 = l := head_drop (named_le hn) (shaOf_length l)
theorem make_check {nm : List UInt8} {v : Int} {l : List UInt8} (hn : named nm = true) (hv0 : 0 ≤ v) (hv1 : v < 4294967296) (hl : l.length ≤ 1048576) :
    checkErr (makeOf nm v l) = 0 ∧ checkOf (makeOf nm v l) = ⟨v, (l.length : Int), nm, shaOf l⟩ := by
  obtain ⟨h1, h2⟩ := make_read hn hv0 hv1 hl []
  rw [List.append_nil] at h1 h2
  have h3 : checkErr (makeOf nm v l) = 0 := by
    unfold checkErr
    rw [if_neg (by omega), h2, makeOf_length hn, make_drop hn]
    rw [if_neg (by simp only [ne_eq, Decidable.not_not]; omega), if_neg (by simp)]
  refine ⟨h3, ?_⟩
  unfold checkOf
  rw [if_pos h3, h2]
theorem make_more {nm : List UInt8} {v : Int} {l : List UInt8} (hn : named nm = true) (hv0 : 0 ≤ v) (hv1 : v < 4294967296) (hl : l.length ≤ 1048576) : checkErr (makeOf nm v l ++ [0]) = 53 := by
  obtain ⟨h1, h2⟩ := make_read hn hv0 hv1 hl [0]
  unfold checkErr
  rw [if_neg (by omega), h2, List.length_append, makeOf_length hn, if_pos]
  simp only [List.length_cons, List.length_nil]
  omega
theorem make_less {nm : List UInt8} {v : Int} {l : List UInt8} (hn : named nm = true) (hv0 : 0 ≤ v) (hv1 : v < 4294967296) (hl : l.length ≤ 1048576) :
    checkErr ((makeOf nm v l).take (63 + l.length)) = if l.length = 0 then 20 else 53 := by
  have hm := makeOf_length (v := v) (l := l) hn
  by_cases h0 : l.length = 0
  · rw [if_pos h0]
    have he : readErr ((makeOf nm v l).take (63 + l.length)) = 20 := by
      unfold readErr
      rw [if_pos (by rw [List.length_take]; omega)]
    unfold checkErr
    rw [he]; rfl
  · rw [if_neg h0]
    have ht : (makeOf nm v l).take (63 + l.length) = headOf v (l.length : Int) nm (shaOf l) ++ l.take (l.length - 1) := by
      unfold makeOf
      rw [List.take_append, headOf_length (named_le hn) (shaOf_length l), List.take_of_length_le (by rw [headOf_length (named_le hn) (shaOf_length l)]; omega)]
      congr 2
      omega
    obtain ⟨h1, h2⟩ := read_head hn hv0 hv1 (sz := (l.length : Int)) (by omega) (by omega) (shaOf_length l) (l.take (l.length - 1))
    rw [ht]
    unfold checkErr
    rw [if_neg (by omega), h2, List.length_append, headOf_length (named_le hn) (shaOf_length l), List.length_take, if_pos]
    show ((64 + min (l.length - 1) l.length : Nat) : Int) - 64 ≠ (l.length : Int)
    omega
end Go.Proofs.YtiieianbmldnbaaDoor
