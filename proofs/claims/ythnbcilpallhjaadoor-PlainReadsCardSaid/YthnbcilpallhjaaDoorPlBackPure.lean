/-
  Bytes of signs are read as they are.
-/
import Derived.Test.YthnbcilpallhjaaDoorPlUn
namespace Go.Proofs.YthnbcilpallhjaaDoor
open Go.RowKit
set_option maxRecDepth 100000
set_option maxRecDepth 100000
set_option linter.unusedVariables false
theorem letU_six (n : Nat) (h : n < 64) : sixI (letU n).toNat = n ∧ letU n ≠ 61 := by
  have hl := letQ_lt h
  have e : (letU n).toNat = letQ n := by unfold letU; rw [UInt8.toNat_ofNat']; omega
  have h6 := six_of h e.symm
  refine ⟨h6, fun e2 => ?_⟩
  rw [e2] at h6
  have : sixI (61 : UInt8).toNat = -1 := by decide
  rw [this] at h6
  omega
theorem quad_six (x i : Nat) : sixI (quad x i).toNat = (x / 2 ^ (6 * (3 - i)) % 64 : Nat) ∧ quad x i ≠ 61 :=
  letU_six _ (Nat.mod_lt _ (by omega))
theorem unF_cons (u : UInt8) (r : List UInt8) (st : Nat × Nat × List UInt8) (n : Nat) (h : sixI u.toNat = n) : unF (u :: r) st = unF r (unS st n) := by
  show (if sixI u.toNat < 0 then none else unF r (unS st (sixI u.toNat).toNat)) = _
  rw [h, if_neg (by omega), Int.toNat_natCast]
theorem unS_0 (out : List UInt8) (x : Nat) : unS (0, 0, out) x = (x, 6, out) := by
  unfold unS; dsimp only; rw [if_pos (by omega)]; simp
theorem unS_6 (out : List UInt8) (r x : Nat) (h : out.length ≤ 200) : unS (r, 6, out) x = ((r * 64 + x) % 16, 4, out ++ [UInt8.ofNat ((r * 64 + x) / 16)]) := by
  unfold unS; dsimp only; rw [if_neg (by omega), if_pos h]
theorem unS_4 (out : List UInt8) (r x : Nat) (h : out.length ≤ 200) : unS (r, 4, out) x = ((r * 64 + x) % 4, 2, out ++ [UInt8.ofNat ((r * 64 + x) / 4)]) := by
  unfold unS; dsimp only; rw [if_neg (by omega), if_pos h]
theorem unS_2 (out : List UInt8) (r x : Nat) (h : out.length ≤ 200) : unS (r, 2, out) x = (0, 0, out ++ [UInt8.ofNat (r * 64 + x)]) := by
  unfold unS; dsimp only; rw [if_neg (by omega), if_pos h]; simp [Nat.mod_one]
/-- The signs without the fill. -/
def core : List UInt8 → List UInt8
  | [] => []
  | [a] => [quad (a.toNat * 65536 + 0 * 256 + 0) 0, quad (a.toNat * 65536 + 0 * 256 + 0) 1]
  | [a, b] => [quad (a.toNat * 65536 + b.toNat * 256 + 0) 0, quad (a.toNat * 65536 + b.toNat * 256 + 0) 1, quad (a.toNat * 65536 + b.toNat * 256 + 0) 2]
  | a :: b :: c :: r => [quad (a.toNat * 65536 + b.toNat * 256 + c.toNat) 0, quad (a.toNat * 65536 + b.toNat * 256 + c.toNat) 1, quad (a.toNat * 65536 + b.toNat * 256 + c.toNat) 2, quad (a.toNat * 65536 + b.toNat * 256 + c.toNat) 3] ++ core r
theorem core_three (a b c : UInt8) (r : List UInt8) : core (a :: b :: c :: r) = quad (a.toNat * 65536 + b.toNat * 256 + c.toNat) 0 :: quad (a.toNat * 65536 + b.toNat * 256 + c.toNat) 1 :: quad (a.toNat * 65536 + b.toNat * 256 + c.toNat) 2 :: quad (a.toNat * 65536 + b.toNat * 256 + c.toNat) 3 :: core r := by
  rw [core]; rfl
def padN (n : Nat) : Nat := (3 - n % 3) % 3
theorem core_pad : ∀ l : List UInt8, b64Q l = core l ++ List.replicate (padN l.length) 61
  | [] => by decide +kernel
  | [a] => by rw [b64Q_one]; rfl
  | [a, b] => by rw [b64Q_two]; rfl
  | a :: b :: c :: r => by
    rw [b64Q_three, core_pad r]
    have : padN (a :: b :: c :: r).length = padN r.length := by unfold padN; simp only [List.length_cons]; omega
    rw [this, core_three]
    rfl
theorem core_ne : ∀ l : List UInt8, ∀ u ∈ core l, u ≠ 61
  | [] => fun u h => by cases h
  | [a] => fun u h => by
    simp only [core, List.mem_cons, List.not_mem_nil, or_false] at h
    rcases h with rfl | rfl <;> exact (quad_six _ _).2
  | [a, b] => fun u h => by
    simp only [core, List.mem_cons, List.not_mem_nil, or_false] at h
    rcases h with rfl | rfl | rfl <;> exact (quad_six _ _).2
  | a :: b :: c :: r => fun u h => by
    rw [core_three] at h
    simp only [List.mem_cons] at h
    rcases h with rfl | rfl | rfl | rfl | h
    · exact (quad_six _ _).2
    · exact (quad_six _ _).2
    · exact (quad_six _ _).2
    · exact (quad_six _ _).2
    · exact core_ne r u h
theorem core_len : ∀ l : List UInt8, (core l).length = l.length + (l.length + 2) / 3
  | [] => by simp [core]
  | [a] => by simp [core]
  | [a, b] => by simp [core]
  | a :: b :: c :: r => by
    rw [core_three]
    simp only [List.length_cons]
    rw [core_len r]
    omega
theorem trim_pad (x : List UInt8) (n : Nat) (c : UInt8) (h : ∀ u ∈ x, u ≠ c) : Lib.trimRightB (x ++ List.replicate n c) c = x := by
  unfold Lib.trimRightB
  rw [List.reverse_append, List.reverse_replicate]
  have h1 : ∀ (m : Nat) (y : List UInt8), (∀ u ∈ y, u ≠ c) → (List.replicate m c ++ y).dropWhile (· == c) = y := by
    intro m y hy
    induction m with
    | zero =>
      rw [List.replicate_zero, List.nil_append]
      cases y with
      | nil => rfl
      | cons d y =>
        rw [List.dropWhile_cons, if_neg]
        exact fun e => hy d List.mem_cons_self (beq_iff_eq.1 e)
    | succ m ih => rw [List.replicate_succ, List.cons_append, List.dropWhile_cons, if_pos (beq_self_eq_true _), ih]
  rw [h1 n x.reverse (fun u hu => h u (List.mem_reverse.1 hu)), List.reverse_reverse]
theorem un_core : ∀ (l out : List UInt8), out.length + l.length ≤ 200 → ∃ b, unF (core l) (0, 0, out) = some (0, b, out ++ l)
  | [], out, h => ⟨0, by rw [List.append_nil]; rfl⟩
  | [a], out, h => by
    have ha := a.toNat_lt
    simp only [List.length_cons, List.length_nil] at h
    refine ⟨4, ?_⟩
    unfold core
    rw [unF_cons _ _ _ _ (quad_six _ _).1, unF_cons _ _ _ _ (quad_six _ _).1, unS_0, unS_6 _ _ _ (by omega)]
    show some _ = _
    have e0 : (a.toNat * 65536 + 0 * 256 + 0) / 2 ^ (6 * (3 - 0)) % 64 = a.toNat / 4 := by show _ / 262144 % 64 = _; omega
    have e1 : (a.toNat * 65536 + 0 * 256 + 0) / 2 ^ (6 * (3 - 1)) % 64 = a.toNat % 4 * 16 := by show _ / 4096 % 64 = _; omega
    rw [e0, e1, show (a.toNat / 4 * 64 + a.toNat % 4 * 16) % 16 = 0 by omega, show (a.toNat / 4 * 64 + a.toNat % 4 * 16) / 16 = a.toNat by omega, UInt8.ofNat_toNat]
  | [a, b], out, h => by
    have ha := a.toNat_lt
    have hb := b.toNat_lt
    simp only [List.length_cons, List.length_nil] at h
    refine ⟨2, ?_⟩
    unfold core
    rw [unF_cons _ _ _ _ (quad_six _ _).1, unF_cons _ _ _ _ (quad_six _ _).1, unF_cons _ _ _ _ (quad_six _ _).1, unS_0, unS_6 _ _ _ (by omega), unS_4 _ _ _ (by rw [List.length_append]; simp only [List.length_cons, List.length_nil]; omega)]
    show some _ = _
    have e0 : (a.toNat * 65536 + b.toNat * 256 + 0) / 2 ^ (6 * (3 - 0)) % 64 = a.toNat / 4 := by show _ / 262144 % 64 = _; omega
    have e1 : (a.toNat * 65536 + b.toNat * 256 + 0) / 2 ^ (6 * (3 - 1)) % 64 = a.toNat % 4 * 16 + b.toNat / 16 := by show _ / 4096 % 64 = _; omega
    have e2 : (a.toNat * 65536 + b.toNat * 256 + 0) / 2 ^ (6 * (3 - 2)) % 64 = b.toNat % 16 * 4 := by show _ / 64 % 64 = _; omega
    rw [e0, e1, e2, show (a.toNat / 4 * 64 + (a.toNat % 4 * 16 + b.toNat / 16)) % 16 = b.toNat / 16 by omega, show (a.toNat / 4 * 64 + (a.toNat % 4 * 16 + b.toNat / 16)) / 16 = a.toNat by omega, show (b.toNat / 16 * 64 + b.toNat % 16 * 4) % 4 = 0 by omega, show (b.toNat / 16 * 64 + b.toNat % 16 * 4) / 4 = b.toNat by omega, UInt8.ofNat_toNat, UInt8.ofNat_toNat, List.append_assoc]
    rfl
  | a :: b :: c :: r, out, h => by
    have ha := a.toNat_lt
    have hb := b.toNat_lt
    have hc := c.toNat_lt
    simp only [List.length_cons] at h
    obtain ⟨n, hn⟩ := un_core r (out ++ [a] ++ [b] ++ [c]) (by simp only [List.length_append, List.length_cons, List.length_nil]; omega)
    refine ⟨n, ?_⟩
    rw [core_three, unF_cons _ _ _ _ (quad_six _ _).1, unF_cons _ _ _ _ (quad_six _ _).1, unF_cons _ _ _ _ (quad_six _ _).1, unF_cons _ _ _ _ (quad_six _ _).1, unS_0, unS_6 _ _ _ (by omega), unS_4 _ _ _ (by rw [List.length_append]; simp only [List.length_cons, List.length_nil]; omega), unS_2 _ _ _ (by simp only [List.length_append, List.length_cons, List.length_nil]; omega)]
    have e0 : (a.toNat * 65536 + b.toNat * 256 + c.toNat) / 2 ^ (6 * (3 - 0)) % 64 = a.toNat / 4 := by show _ / 262144 % 64 = _; omega
    have e1 : (a.toNat * 65536 + b.toNat * 256 + c.toNat) / 2 ^ (6 * (3 - 1)) % 64 = a.toNat % 4 * 16 + b.toNat / 16 := by show _ / 4096 % 64 = _; omega
    have e2 : (a.toNat * 65536 + b.toNat * 256 + c.toNat) / 2 ^ (6 * (3 - 2)) % 64 = b.toNat % 16 * 4 + c.toNat / 64 := by show _ / 64 % 64 = _; omega
    have e3 : (a.toNat * 65536 + b.toNat * 256 + c.toNat) / 2 ^ (6 * (3 - 3)) % 64 = c.toNat % 64 := by show _ / 1 % 64 = _; omega
    rw [e0, e1, e2, e3, show (a.toNat / 4 * 64 + (a.toNat % 4 * 16 + b.toNat / 16)) % 16 = b.toNat / 16 by omega, show (a.toNat / 4 * 64 + (a.toNat % 4 * 16 + b.toNat / 16)) / 16 = a.toNat by omega, show (b.toNat / 16 * 64 + (b.toNat % 16 * 4 + c.toNat / 64)) % 4 = c.toNat / 64 by omega, show (b.toNat / 16 * 64 + (b.toNat % 16 * 4 + c.toNat / 64)) / 4 = b.toNat by omega, show c.toNat / 64 * 64 + c.toNat % 64 = c.toNat by omega, UInt8.ofNat_toNat, UInt8.ofNat_toNat, UInt8.ofNat_toNat, hn]
    simp
/-- What is told of up to 200 bytes is read as them. -/
theorem un_back (l : List UInt8) (h : l.length ≤ 200) : unQ (b64Q l) = (l, 0) := by
  obtain ⟨b, hb⟩ := un_core l [] (by simpa using h)
  have ht : Lib.trimRightB (b64Q l) 61 = core l := by rw [core_pad, trim_pad _ _ _ (core_ne l)]
  have hlen : (b64Q l).length = (core l).length + padN l.length := by rw [core_pad, List.length_append, List.length_replicate]
  have hc := core_len l
  unfold unQ
  rw [ht, hb, if_neg (by rw [hlen, hc]; unfold padN; omega)]
  unfold unE
  dsimp only
  rw [if_neg (by simp), List.nil_append, if_neg (by omega)]
theorem b64_len (l : List UInt8) : (b64Q l).length = (l.length + 2) / 3 * 4 := by
  rw [core_pad, List.length_append, List.length_replicate, core_len]
  unfold padN
  omega
theorem inv_all : ∀ c : Fin 256, sixI c.val < 0 ∨ (letU (sixI c.val).toNat = UInt8.ofNat c.val ∧ (sixI c.val).toNat < 64) := by decide +kernel
theorem letU_inv (u : UInt8) (n : Nat) (h : sixI u.toNat = n) : u = letU n ∧ n < 64 := by
  have := inv_all ⟨u.toNat, u.toNat_lt⟩
  dsimp only at this
  rw [h, UInt8.ofNat_toNat, Int.toNat_natCast] at this
  rcases this with h1 | ⟨h1, h2⟩
  · omega
  · exact ⟨h1.symm, h2⟩
theorem unF_some {u : UInt8} {r : List UInt8} {st st' : Nat × Nat × List UInt8} (h : unF (u :: r) st = some st') : ∃ n : Nat, u = letU n ∧ n < 64 ∧ unF r (unS st n) = some st' := by
  have h1 : (if sixI u.toNat < 0 then none else unF r (unS st (sixI u.toNat).toNat)) = some st' := h
  by_cases h0 : sixI u.toNat < 0
  · rw [if_pos h0] at h1; cases h1
  · rw [if_neg h0] at h1
    obtain ⟨n, hn⟩ := Int.eq_ofNat_of_zero_le (Int.not_lt.1 h0)
    obtain ⟨h2, h3⟩ := letU_inv u n hn
    rw [hn, Int.toNat_natCast] at h1
    exact ⟨n, h2, h3, h1⟩
theorem unS_mono (st : Nat × Nat × List UInt8) (n : Nat) : st.2.2.length ≤ (unS st n).2.2.length := by
  unfold unS
  split
  · exact Nat.le_refl _
  · dsimp only
    split
    · rw [List.length_append]; exact Nat.le_add_right _ _
    · exact Nat.le_refl _
theorem unF_mono : ∀ (x : List UInt8) (st st' : Nat × Nat × List UInt8), unF x st = some st' → st.2.2.length ≤ st'.2.2.length
  | [], st, st', h => by
    have e : some st = some st' := h
    injection e with e
    rw [e]
    exact Nat.le_refl _
  | u :: r, st, st', h => by
    obtain ⟨n, _, _, h1⟩ := unF_some h
    exact Nat.le_trans (unS_mono st n) (unF_mono r _ _ h1)
theorem byte_of {n : Nat} (h : n < 256) : (UInt8.ofNat n).toNat = n := by rw [UInt8.toNat_ofNat']; omega
theorem conv_core : ∀ (x out l' : List UInt8) (b : Nat), unF x (0, 0, out) = some (0, b, l') → l'.length ≤ 200 → x.length % 4 ≠ 1 → ∃ l, l' = out ++ l ∧ x = core l
  | [], out, l', b, h, hl, h4 => by
    have e : some (0, 0, out) = some (0, b, l') := h
    injection e with e
    injection e with _ e
    injection e with _ e
    exact ⟨[], by rw [List.append_nil, e], rfl⟩
  | [u], out, l', b, h, hl, h4 => absurd rfl h4
  | [u, v], out, l', b, h, hl, h4 => by
    have hm := unF_mono _ _ _ h
    dsimp only at hm
    obtain ⟨x0, rfl, hx0, h⟩ := unF_some h
    rw [unS_0] at h
    obtain ⟨x1, rfl, hx1, h⟩ := unF_some h
    rw [unS_6 _ _ _ (by omega)] at h
    have e : some ((x0 * 64 + x1) % 16, 4, out ++ [UInt8.ofNat ((x0 * 64 + x1) / 16)]) = some (0, b, l') := h
    injection e with e
    injection e with e0 e
    injection e with _ e
    refine ⟨[UInt8.ofNat ((x0 * 64 + x1) / 16)], e.symm, ?_⟩
    have hb := byte_of (n := (x0 * 64 + x1) / 16) (by omega)
    unfold core
    rw [hb]
    unfold quad
    rw [show ((x0 * 64 + x1) / 16 * 65536 + 0 * 256 + 0) / 2 ^ (6 * (3 - 0)) % 64 = x0 by show _ / 262144 % 64 = _; omega, show ((x0 * 64 + x1) / 16 * 65536 + 0 * 256 + 0) / 2 ^ (6 * (3 - 1)) % 64 = x1 by show _ / 4096 % 64 = _; omega]
  | [u, v, y], out, l', b, h, hl, h4 => by
    have hm := unF_mono _ _ _ h
    dsimp only at hm
    obtain ⟨x0, rfl, hx0, h⟩ := unF_some h
    rw [unS_0] at h
    obtain ⟨x1, rfl, hx1, h⟩ := unF_some h
    rw [unS_6 _ _ _ (by omega)] at h
    have hm2 := unF_mono _ _ _ h
    dsimp only at hm2
    obtain ⟨x2, rfl, hx2, h⟩ := unF_some h
    rw [unS_4 _ _ _ (by omega)] at h
    have e : some (((x0 * 64 + x1) % 16 * 64 + x2) % 4, 2, out ++ [UInt8.ofNat ((x0 * 64 + x1) / 16)] ++ [UInt8.ofNat (((x0 * 64 + x1) % 16 * 64 + x2) / 4)]) = some (0, b, l') := h
    injection e with e
    injection e with e0 e
    injection e with _ e
    refine ⟨[UInt8.ofNat ((x0 * 64 + x1) / 16), UInt8.ofNat (((x0 * 64 + x1) % 16 * 64 + x2) / 4)], by rw [← e, List.append_assoc]; rfl, ?_⟩
    have hb := byte_of (n := (x0 * 64 + x1) / 16) (by omega)
    have hc := byte_of (n := ((x0 * 64 + x1) % 16 * 64 + x2) / 4) (by omega)
    unfold core
    rw [hb, hc]
    unfold quad
    generalize hA : (x0 * 64 + x1) / 16 = A
    generalize hB : ((x0 * 64 + x1) % 16 * 64 + x2) / 4 = B
    rw [show (A * 65536 + B * 256 + 0) / 2 ^ (6 * (3 - 0)) % 64 = x0 by show _ / 262144 % 64 = _; omega, show (A * 65536 + B * 256 + 0) / 2 ^ (6 * (3 - 1)) % 64 = x1 by show _ / 4096 % 64 = _; omega, show (A * 65536 + B * 256 + 0) / 2 ^ (6 * (3 - 2)) % 64 = x2 by show _ / 64 % 64 = _; omega]
  | u :: v :: y :: z :: r, out, l', b, h, hl, h4 => by
    have hm := unF_mono _ _ _ h
    dsimp only at hm
    obtain ⟨x0, rfl, hx0, h⟩ := unF_some h
    rw [unS_0] at h
    obtain ⟨x1, rfl, hx1, h⟩ := unF_some h
    rw [unS_6 _ _ _ (by omega)] at h
    have hm2 := unF_mono _ _ _ h
    dsimp only at hm2
    obtain ⟨x2, rfl, hx2, h⟩ := unF_some h
    rw [unS_4 _ _ _ (by omega)] at h
    have hm3 := unF_mono _ _ _ h
    dsimp only at hm3
    obtain ⟨x3, rfl, hx3, h⟩ := unF_some h
    rw [unS_2 _ _ _ (by omega)] at h
    obtain ⟨l, h1, h2⟩ := conv_core r _ l' b h hl (by simp only [List.length_cons] at h4; omega)
    refine ⟨UInt8.ofNat ((x0 * 64 + x1) / 16) :: UInt8.ofNat (((x0 * 64 + x1) % 16 * 64 + x2) / 4) :: UInt8.ofNat (((x0 * 64 + x1) % 16 * 64 + x2) % 4 * 64 + x3) :: l, by rw [h1]; simp, ?_⟩
    have hb := byte_of (n := (x0 * 64 + x1) / 16) (by omega)
    have hc := byte_of (n := ((x0 * 64 + x1) % 16 * 64 + x2) / 4) (by omega)
    have hd := byte_of (n := ((x0 * 64 + x1) % 16 * 64 + x2) % 4 * 64 + x3) (by omega)
    rw [core_three, hb, hc, hd, ← h2]
    unfold quad
    generalize hA : (x0 * 64 + x1) / 16 = A
    generalize hB : ((x0 * 64 + x1) % 16 * 64 + x2) / 4 = B
    generalize hC : ((x0 * 64 + x1) % 16 * 64 + x2) % 4 * 64 + x3 = C
    rw [show (A * 65536 + B * 256 + C) / 2 ^ (6 * (3 - 0)) % 64 = x0 by show _ / 262144 % 64 = _; omega, show (A * 65536 + B * 256 + C) / 2 ^ (6 * (3 - 1)) % 64 = x1 by show _ / 4096 % 64 = _; omega, show (A * 65536 + B * 256 + C) / 2 ^ (6 * (3 - 2)) % 64 = x2 by show _ / 64 % 64 = _; omega, show (A * 65536 + B * 256 + C) / 2 ^ (6 * (3 - 3)) % 64 = x3 by show _ / 1 % 64 = _; omega]
theorem trim_split (c : UInt8) (t : List UInt8) : t = Lib.trimRightB t c ++ List.replicate (t.length - (Lib.trimRightB t c).length) c := by
  have key : ∀ x : List UInt8, x = List.replicate (x.length - (x.dropWhile (· == c)).length) c ++ x.dropWhile (· == c) := by
    intro x
    induction x with
    | nil => rfl
    | cons d x ih =>
      rw [List.dropWhile_cons]
      by_cases h : (d == c) = true
      · rw [if_pos h]
        obtain rfl := beq_iff_eq.1 h
        have hl := (List.dropWhile_sublist (l := x) (· == d)).length_le
        rw [List.length_cons, show x.length + 1 - (x.dropWhile (· == d)).length = (x.length - (x.dropWhile (· == d)).length) + 1 by omega, List.replicate_succ, List.cons_append, ← ih]
      · rw [if_neg h]; simp
  have h := congrArg List.reverse (key t.reverse)
  rw [List.reverse_reverse, List.reverse_append, List.reverse_replicate, List.length_reverse] at h
  unfold Lib.trimRightB
  rw [List.length_reverse]
  exact h
/-- What is read as bytes is the text of them. -/
theorem un_conv (t l : List UInt8) (h : unQ t = (l, 0)) : t = b64Q l ∧ l.length ≤ 200 := by
  unfold unQ at h
  split at h
  · injection h with _ h; cases h
  · rename_i hn
    obtain ⟨hn4, hn2⟩ := not_or.1 hn
    have hs := trim_split 61 t
    have hll := congrArg List.length hs
    rw [List.length_append, List.length_replicate] at hll
    obtain ⟨x, hx⟩ : ∃ x, Lib.trimRightB t 61 = x := ⟨_, rfl⟩
    rw [hx] at h hs hn2 hll
    rcases hF : unF x (0, 0, []) with _ | ⟨rest, b, out⟩
    · rw [hF] at h; injection h with _ h; cases h
    · rw [hF] at h
      unfold unE at h
      dsimp only at h
      split at h
      · injection h with _ h; cases h
      · rename_i hr
        obtain rfl : rest = 0 := by omega
        split at h
        · injection h with _ h; cases h
        · rename_i h2
          injection h with h _
          subst h
          obtain ⟨l, he, hc⟩ := conv_core x [] out b hF (by omega) (by omega)
          rw [List.nil_append] at he
          subst he
          refine ⟨?_, by omega⟩
          have hcl := core_len out
          rw [← hc] at hcl
          rw [core_pad, ← hc]
          have hp : padN out.length = t.length - x.length := by unfold padN; omega
          rw [hp]
          exact hs
end Go.Proofs.YthnbcilpallhjaaDoor
