/-
  What is due, as plain lists; the values that are handed in; a watch turned in its row.
-/
import Derived.Test.YtmaeofhgbelciaaWaAdd
import Derived.Test.YtmaeofhgbelciaaWaIsDue
namespace Go.Proofs.Ytmaeofhgbelciaa
open Go.RowKit
set_option maxRecDepth 100000
set_option maxRecDepth 100000
set_option linter.unusedVariables false
/-- A watch that has been told. -/
def newQ (q : Wq) (u : Vq) (now : Int) : Wq := { q with v := u, t := now, sq := (q.sq + 1) % 16777216 }
def passQ (us : List Vq) (now : Int) : Nat → List Wq → List Wq × List Wq
  | _, [] => ([], [])
  | i, q :: r =>
    if dueQ q.c q.v q.t ((us[i]?).getD q.v) now then (newQ q ((us[i]?).getD q.v) now :: (passQ us now (i + 1) r).1, newQ q ((us[i]?).getD q.v) now :: (passQ us now (i + 1) r).2)
    else (q :: (passQ us now (i + 1) r).1, (passQ us now (i + 1) r).2)
theorem passQ_append (us : List Vq) (now : Int) : ∀ (a b : List Wq) (i : Nat), passQ us now i (a ++ b) = ((passQ us now i a).1 ++ (passQ us now (i + a.length) b).1, (passQ us now i a).2 ++ (passQ us now (i + a.length) b).2)
  | [], b, i => by simp [passQ]
  | q :: a, b, i => by
    rw [List.cons_append, passQ, passQ_append us now a b (i + 1), passQ, List.length_cons, show i + 1 + a.length = i + (a.length + 1) by omega]
    split <;> rfl
theorem passQ_len (us : List Vq) (now : Int) : ∀ (a : List Wq) (i : Nat), (passQ us now i a).1.length = a.length
  | [], i => rfl
  | q :: a, i => by
    rw [passQ]
    split <;> simp [passQ_len us now a (i + 1)]
/-- A value as it lies. -/
structure Vr where
  q : Vq
  A : Option Addr
  n : Nat
  c : Nat
def vK : RowK Vr 6 where
  vals s := vvals s.q s.A s.n s.c
  len _ := rfl
  one s := vv_one s.q s.A s.n s.c
  pos := by decide
def Vgo (w : World) (B : Nat) (s : Vr) : Prop := Bs w B s.A s.n s.q.b ∧ (s.n : Int) ≤ 1048576 ∧ s.q.s.size ≤ 1048576 ∧ In64 s.q.n
theorem Vgo.below {w w' : World} {B : Nat} {s : Vr} (h : Vgo w B s) (hb : Below B w w') : Vgo w' B s := ⟨h.1.below hb, h.2⟩
theorem range_sub {w : World} {b o : Nat} {xs ys zs : List Value} (h : w.rangeAt b o (xs ++ ys ++ zs)) : w.rangeAt b (o + xs.length) ys := fun j u hj => by
  have hl := (List.getElem?_eq_some_iff.1 hj).1
  have := h (xs.length + j) u (by rw [List.append_assoc, List.getElem?_append_right (by omega), Nat.add_sub_cancel_left, List.getElem?_append_left hl]; exact hj)
  rwa [Nat.add_assoc]
theorem Wr.val_range {w : World} {b o : Nat} {s : Wr} (h : w.rangeAt b o s.vals) : w.rangeAt b (o + 13) (vvals s.q.v s.bA s.bn s.bc) := by
  have e : s.vals = s.vals.take 13 ++ vvals s.q.v s.bA s.bn s.bc ++ s.vals.drop 19 := rfl
  rw [e] at h
  exact range_sub h
/-- Some cells of an element written over. -/
theorem RowK.all_puts {α : Type} {z : Nat} (K : RowK α z) (vs : List α) (i : Nat) (s s' : α) (o : Nat) (ys : List Value) (h : vs[i]? = some s) (ho : o + ys.length ≤ z) (hv : K.vals s' = (K.vals s).take o ++ ys ++ (K.vals s).drop (o + ys.length)) : (K.all vs).take (i * z + o) ++ ys ++ (K.all vs).drop (i * z + o + ys.length) = K.all (vs.set i s') := by
  have hi := (List.getElem?_eq_some_iff.1 h).1
  have e0 : vs = vs.take i ++ s :: vs.drop (i + 1) := by
    obtain ⟨_, e⟩ := List.getElem?_eq_some_iff.1 h
    rw [← e, List.getElem_cons_drop, List.take_append_drop]
  have e1 : K.all vs = K.all (vs.take i) ++ (K.vals s ++ K.all (vs.drop (i + 1))) := by
    conv => lhs; rw [e0]
    rw [K.all_append, K.all_cons]
  have hl : (K.all (vs.take i)).length = i * z := by rw [K.all_length, List.length_take, Nat.min_eq_left (by omega)]
  have hs := K.len s
  rw [List.set_eq_take_append_cons_drop, if_pos hi, K.all_append, K.all_cons, hv, e1]
  rw [List.take_append, List.take_of_length_le (by omega), hl, Nat.add_sub_cancel_left, List.take_append_of_le_length (by omega)]
  rw [List.drop_append, List.drop_of_length_le (by omega), hl, show i * z + o + ys.length - i * z = o + ys.length by omega, List.drop_append_of_le_length (by omega)]
  simp [List.append_assoc]
/-- Some cells of a watch in the table written over. -/
theorem WtAt.puts {w : World} {tb g n c kk o : Nat} {vs : List Wr} {s s' : Wr} {ys : List Value} (h : WtAt w tb (.slice (some ⟨g, 0, none⟩) n c) vs) (hk : vs[kk]? = some s) (ho : o + ys.length ≤ 21) (hv : s'.vals = s.vals.take o ++ ys ++ s.vals.drop (o + ys.length)) (hs : Wok w tb s' ∧ Wsm s' ∧ Wtm s') : WtAt (w.setCells g (kk * 21 + o) ys) tb (.slice (some ⟨g, 0, none⟩) n c) (vs.set kk s') ∧ w.grownBy (w.setCells g (kk * 21 + o) ys) (some g) ∧ w.there g (kk * 21 + o) ys.length := by
  obtain ⟨A, c', e, _, _, _, hbas⟩ := h.open_
  injection e with e1 e2 e3
  subst e1 e2 e3
  have hkl := (List.getElem?_eq_some_iff.1 hk).1
  have hm : (kk + 1) * 21 ≤ vs.length * 21 := Nat.mul_le_mul_right _ (by omega)
  have hr := rk_puts ys w (wK.all vs) (kk * 21 + o) h.row (by rw [wK.all_length]; omega)
  rw [wK.all_puts vs kk s s' o ys hk ho hv] at hr
  have hth := RowK.own_there (K := wK) h.row (kk * 21 + o) ys.length (by omega)
  have hne : g ≠ tb := fun e => h.row_ne (by rw [← e]; rfl)
  refine ⟨⟨(hr.2.block tb h.lt (fun e => hne (by injection e with e; exact e.symm))).trans h.blk, by rw [List.length_set]; exact hr.1, fun x hx => ?_, by rw [List.length_set]; exact h.few⟩, hr.2, hth⟩
  rcases List.mem_or_eq_of_mem_set hx with hx | rfl
  · exact ⟨(h.each x hx).1.grown h.row hr.2, (h.each x hx).2⟩
  · exact ⟨hs.1.grown h.row hr.2, hs.2⟩
end Go.Proofs.Ytmaeofhgbelciaa
