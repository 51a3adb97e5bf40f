/-
  The document's count of signs is the one behind 'is it valid?' of the language's own reader.
-/
import Derived.Test.YthnbcilpallhjaaDoorPlRRunes
import Derived.Lib.RuneCount
namespace Go.Proofs.YthnbcilpallhjaaDoor
set_option maxRecDepth 100000
set_option linter.unusedVariables false
theorem signL_dec (l : List UInt8) : signL l = if Lib.decodeL l = (65533, 1) then (0, 0) else ((Lib.decodeL l).2, (Lib.decodeL l).1) := by
  have h := Lib.decode_at ⟨l.toArray⟩ 0
  have e : Lib.decodeL l = Lib.decodeN (ByteArray.size ⟨l.toArray⟩) (ByteArray.get! ⟨l.toArray⟩ 0).toNat (ByteArray.get! ⟨l.toArray⟩ 1).toNat (ByteArray.get! ⟨l.toArray⟩ 2).toNat (ByteArray.get! ⟨l.toArray⟩ 3).toNat := h
  unfold signL signS signN
  rw [e]
theorem decodeL_pos {l : List UInt8} (h : l ≠ []) : 1 ≤ (Lib.decodeL l).2 := Lib.decode_width_pos ⟨l.toArray⟩ 0 (by show 0 < l.toArray.size; rw [List.size_toArray]; exact List.length_pos_iff.2 h)
/-- What a range over a text that is valid counts. -/
def rgo : Nat → List UInt8 → Option Nat
  | 0, l => if l = [] then some 0 else none
  | f + 1, l => if l = [] then some 0 else if (Lib.decodeL l).1 < 32 ∨ (Lib.decodeL l).1 = 127 then none else (rgo f (l.drop (Lib.decodeL l).2)).map (· + 1)
theorem rgo_nil (f : Nat) : rgo f [] = some 0 := by cases f <;> rfl
theorem rgo_succ (f : Nat) {l : List UInt8} (h : l ≠ []) : rgo (f + 1) l = if (Lib.decodeL l).1 < 32 ∨ (Lib.decodeL l).1 = 127 then none else (rgo f (l.drop (Lib.decodeL l).2)).map (· + 1) := if_neg h
theorem rn_rgo : ∀ (f : Nat) (l : List UInt8), l.length ≤ f → rn f l = if Lib.validD l then rgo f l else none
  | 0, l, h => by
    obtain rfl : l = [] := List.eq_nil_of_length_eq_zero (by omega)
    rw [rn_nil, rgo_nil, Lib.validD_nil]; rfl
  | f + 1, l, h => by
    by_cases hn : l = []
    · subst hn; rw [rn_nil, rgo_nil, Lib.validD_nil]; rfl
    · rw [rn_succ f hn, rgo_succ f hn, Lib.validD_step l hn, signL_dec l]
      have hp := decodeL_pos hn
      by_cases hb : (Lib.decodeL l).1 = 65533 ∧ (Lib.decodeL l).2 = 1
      · have e : Lib.decodeL l = (65533, 1) := Prod.ext hb.1 hb.2
        rw [if_pos hb, if_pos e]; rfl
      · have e : ¬ Lib.decodeL l = (65533, 1) := fun e => hb (by rw [e]; exact ⟨rfl, rfl⟩)
        rw [if_neg hb, if_neg e]
        by_cases hc : (Lib.decodeL l).1 < 32 ∨ (Lib.decodeL l).1 = 127
        · rw [if_pos (Or.inr hc : (Lib.decodeL l).2 = 0 ∨ (Lib.decodeL l).1 < 32 ∨ (Lib.decodeL l).1 = 127), if_pos hc]
          split <;> rfl
        · rw [if_neg (show ¬ ((Lib.decodeL l).2 = 0 ∨ (Lib.decodeL l).1 < 32 ∨ (Lib.decodeL l).1 = 127) by omega), if_neg hc, rn_rgo f (l.drop (Lib.decodeL l).2) (by rw [List.length_drop]; omega)]
          cases Lib.validD (l.drop (Lib.decodeL l).2) <;> rfl
theorem runes_valid (l : List UInt8) : runesQ l = if Lib.validD l then rgo l.length l else none := rn_rgo _ _ (Nat.le_refl _)
end Go.Proofs.YthnbcilpallhjaaDoor
