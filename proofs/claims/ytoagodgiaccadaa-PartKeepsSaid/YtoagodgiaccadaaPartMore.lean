/-
  Pieces of a part.
-/
import Derived.Test.YtoagodgiaccadaaPartAlive
namespace Go.Proofs.Ytoagodgiaccadaa
open Go.RowKit
theorem endOf_ones (l : List UInt8) (k : Nat) (h : ∀ i, i < k → l.getD i 0 = 255) : endOf l k = 0 := by
  induction k with
  | zero => rfl
  | succ k ih =>
    show (if l.getD k 0 = 255 then endOf l k else k + 1) = 0
    rw [if_pos (h k (Nat.lt_succ_self k))]
    exact ih fun i hi => h i (by omega)
theorem piece_is (K : Fl) (l : List UInt8) (p n : Nat) (hl : l.length = n) (h : ∀ i : Nat, i < n → K.dat[p + i]? = l[i]?) : piece K p n = l := by
  refine List.ext_getElem? fun i => ?_
  unfold piece
  rw [List.getElem?_take]
  split
  · rename_i hi
    rw [List.getElem?_drop, h i hi]
  · rw [List.getElem?_eq_none (by omega)]
theorem blank_is (K : Fl) (p n : Nat) (h : ∀ i : Nat, i < n → K.dat[p + i]? = some 255) : (((endOf (piece K p n) n : Nat) : Int) == 0) = true := by
  rw [endOf_ones (piece K p n) n fun i hi => by
    unfold piece
    rw [List.getD_eq_getElem?_getD, List.getElem?_take, if_pos hi, List.getElem?_drop, h i hi]
    rfl]
  rfl
theorem pck_ok (K : Fl) (s n : Nat) (hd : K.down = false) (h : n ≤ s) : pck K s ((0 : Nat) : Int) (n : Int) = 0 := by
  unfold pck; rw [hd, if_neg (by decide), if_neg (by omega)]
end Go.Proofs.Ytoagodgiaccadaa
