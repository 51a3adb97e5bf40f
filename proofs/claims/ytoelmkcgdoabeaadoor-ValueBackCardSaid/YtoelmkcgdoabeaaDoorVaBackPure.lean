/-
  A value's bytes are read as it, and half of a number's bytes are another number's.
-/
import Derived.Test.YtoelmkcgdoabeaaDoorVaPure
import Derived.Test.YtoelmkcgdoabeaaDoorVaWire
import Derived.Test.YtoelmkcgdoabeaaDoorVaUnw2
namespace Go.Proofs.YtoelmkcgdoabeaaDoor
open Go.RowKit
set_option linter.unusedVariables false
theorem len_nil {l : List UInt8} (h : l.length = 0) : l = [] := List.eq_nil_of_length_eq_zero h
theorem get2_is (o : Int) (h0 : 0 ≤ o) (h1 : o ≤ 65535) : getQ 0 (bytesQ o 2) = o := by
  refine getQ_is (by omega) (by omega) ?_
  rw [val2]
  omega
theorem take2 (o i : Int) : (bytesQ o 2 ++ bytesQ i 2).take 2 = bytesQ o 2 ∧ (bytesQ o 2 ++ bytesQ i 2).drop 2 = bytesQ i 2 := ⟨rfl, rfl⟩
theorem arr_back (s : ByteArray) : (⟨s.data.toList.toArray⟩ : ByteArray) = s := rfl
set_option maxHeartbeats 1000000 in
theorem wire_back (k n : Int) (s : ByteArray) (l : List UInt8) (o i : Int) (hn : I64 n) (h : rightB k n s.size (okN (runesQ s.data.toList)) l.length o i = true) :
    unwE k (wireQ k n s l o i) = 0 ∧ unwN k (wireQ k n s l o i) = n ∧ unwS k (wireQ k n s l o i) = s ∧ unwL k (wireQ k n s l o i) = l ∧ unwO k (wireQ k n s l o i) = o ∧ unwI k (wireQ k n s l o i) = i := by
  unfold rightB at h
  have h := of_decide_eq_true h
  rcases h with ⟨hk, h1, h2, h3, h4⟩ | ⟨hk, hb, h1, h2, h3, h4⟩ | ⟨hk, hn0, h1, hok, h2, h3, h4⟩ | ⟨hk, hn0, h1, h2, h3, h4⟩ | ⟨hk, hn0, h1, h2, h3, h4, h5, h6⟩
  · obtain rfl := str_nil h1
    obtain rfl := len_nil h2
    subst h3 h4
    have hw : wireQ k n ⟨#[]⟩ [] 0 0 = bytesQ n (widthQ n) := if_pos hk
    rw [hw]
    refine ⟨?_, ?_, ?_, ?_, ?_, ?_⟩
    · unfold unwE; rw [if_pos hk, widthB_q, if_pos rfl]
    · unfold unwN; rw [if_pos hk, signed_bytes n hn.1 hn.2]
    · unfold unwS; rw [if_neg (by omega)]
    · unfold unwL; rw [if_neg (by omega)]
    · unfold unwO; rw [if_neg (by omega)]
    · unfold unwI; rw [if_neg (by omega)]
  · obtain rfl := str_nil h1
    obtain rfl := len_nil h2
    subst h3 h4 hk
    have hw : wireQ 2 n ⟨#[]⟩ [] 0 0 = bytesQ n 1 := rfl
    rw [hw]
    rcases hb with rfl | rfl <;> exact ⟨by decide, by decide, by decide, by decide, by decide, by decide⟩
  · obtain rfl := len_nil h2
    subst h3 h4 hk hn0
    have hw : wireQ 3 0 s [] 0 0 = s.data.toList := rfl
    rw [hw]
    have hl : s.data.toList.length = s.size := rfl
    refine ⟨?_, rfl, rfl, rfl, rfl, rfl⟩
    show (if 200 < s.data.toList.length then (2 : Int) else if okN (runesQ s.data.toList) = 1 then 0 else 20) = 0
    rw [if_neg (by omega), if_pos hok]
  · obtain rfl := str_nil h1
    subst h3 h4 hk hn0
    have hw : wireQ 4 0 ⟨#[]⟩ l 0 0 = l := rfl
    rw [hw]
    refine ⟨?_, rfl, rfl, rfl, rfl, rfl⟩
    show (if 200 < l.length then (2 : Int) else 0) = 0
    rw [if_neg (by omega)]
  · obtain rfl := str_nil h1
    obtain rfl := len_nil h2
    subst hk hn0
    have hw : wireQ 6 0 ⟨#[]⟩ [] o i = bytesQ o 2 ++ bytesQ i 2 := rfl
    rw [hw]
    refine ⟨rfl, rfl, rfl, rfl, ?_, ?_⟩
    · show getQ 0 ((bytesQ o 2 ++ bytesQ i 2).take 2) = o
      rw [(take2 o i).1, get2_is o h3 h4]
    · show getQ 0 ((bytesQ o 2 ++ bytesQ i 2).drop 2) = i
      rw [(take2 o i).2, get2_is i h5 h6]
theorem sg_in (l : List UInt8) (P : Int) (hP : P = 256 ∨ P = 65536 ∨ P = 4294967296) (hv : ∀ a : Int, ∃ r, valI a l = a * P + r ∧ 0 ≤ r ∧ r < P ∧ (128 ≤ (l.getD 0 0).toNat ↔ P ≤ 2 * r)) : -P ≤ 2 * signedQ l ∧ 2 * signedQ l < P := by
  by_cases hb : 128 ≤ (l.getD 0 0).toNat
  · have e : signedQ l = getQ (-1) l := by unfold signedQ; rw [if_pos hb]
    obtain ⟨r, h1, h2, h3, h4⟩ := hv (-1)
    have h5 := h4.1 hb
    have : getQ (-1) l = -P + r := getQ_is (by omega) (by omega) (by rw [h1]; rcases hP with rfl | rfl | rfl <;> omega)
    omega
  · have e : signedQ l = getQ 0 l := by unfold signedQ; rw [if_neg hb]
    obtain ⟨r, h1, h2, h3, h4⟩ := hv 0
    have h5 : ¬ P ≤ 2 * r := fun h => hb (h4.2 h)
    have : getQ 0 l = r := getQ_is (by omega) (by omega) (by rw [h1]; rcases hP with rfl | rfl | rfl <;> omega)
    omega
theorem sg1 (a : UInt8) : -256 ≤ 2 * signedQ [a] ∧ 2 * signedQ [a] < 256 := by
  have ha := byte_lt a
  refine sg_in [a] 256 (.inl rfl) fun x => ⟨(a.toNat : Int), rfl, by omega, by omega, ?_⟩
  show 128 ≤ a.toNat ↔ _
  omega
theorem sg2 (a b : UInt8) : -65536 ≤ 2 * signedQ [a, b] ∧ 2 * signedQ [a, b] < 65536 := by
  have ha := byte_lt a
  have hb := byte_lt b
  refine sg_in [a, b] 65536 (.inr (.inl rfl)) fun x => ⟨(a.toNat : Int) * 256 + b.toNat, ?_, by omega, by omega, ?_⟩
  · show (x * 256 + (a.toNat : Int)) * 256 + b.toNat = _
    omega
  · show 128 ≤ a.toNat ↔ _
    omega
theorem sg4 (a b c d : UInt8) : -4294967296 ≤ 2 * signedQ [a, b, c, d] ∧ 2 * signedQ [a, b, c, d] < 4294967296 := by
  have ha := byte_lt a
  have hb := byte_lt b
  have hc := byte_lt c
  have hd := byte_lt d
  refine sg_in [a, b, c, d] 4294967296 (.inr (.inr rfl)) fun x => ⟨(((a.toNat : Int) * 256 + b.toNat) * 256 + c.toNat) * 256 + d.toNat, ?_, by omega, by omega, ?_⟩
  · show (((x * 256 + (a.toNat : Int)) * 256 + b.toNat) * 256 + c.toNat) * 256 + d.toNat = _
    omega
  · show 128 ≤ a.toNat ↔ _
    omega
/-- Half of a number's bytes are another number's. -/
theorem half_other (n : Int) (hn : I64 n) (h : 1 < widthQ n) : widthB (((bytesQ n (widthQ n)).drop (widthQ n / 2))).length = true ∧ signedQ ((bytesQ n (widthQ n)).drop (widthQ n / 2)) ≠ n := by
  unfold widthQ at h ⊢
  split at h
  · omega
  · rename_i c1
    rw [if_neg c1]
    split at h
    · rename_i c2
      rw [if_pos c2]
      refine ⟨rfl, fun e => ?_⟩
      have := sg1 (byteAt n 0)
      rw [show (bytesQ n 2).drop (2 / 2) = [byteAt n 0] from rfl] at e
      omega
    · rename_i c2
      rw [if_neg c2]
      split at h
      · rename_i c3
        rw [if_pos c3]
        refine ⟨rfl, fun e => ?_⟩
        have := sg2 (byteAt n 1) (byteAt n 0)
        rw [show (bytesQ n 4).drop (4 / 2) = [byteAt n 1, byteAt n 0] from rfl] at e
        omega
      · rename_i c3
        rw [if_neg c3]
        refine ⟨rfl, fun e => ?_⟩
        have := sg4 (byteAt n 3) (byteAt n 2) (byteAt n 1) (byteAt n 0)
        rw [show (bytesQ n 8).drop (8 / 2) = [byteAt n 3, byteAt n 2, byteAt n 1, byteAt n 0] from rfl] at e
        omega
end Go.Proofs.YtoelmkcgdoabeaaDoor
