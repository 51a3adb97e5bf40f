/-
  The document's bytes of signs, without a bound: pure.
-/
import Derived.Test.YthnbcilpallhjaaDoorPlBackPure
namespace Go.Proofs.YthnbcilpallhjaaDoor
open Go.RowKit
set_option maxRecDepth 100000
set_option maxRecDepth 100000
set_option linter.unusedVariables false
/-- A sign more, as in unS, with no bound on what is read. -/
def unT (st : Nat × Nat × List UInt8) (six : Nat) : Nat × Nat × List UInt8 :=
  if st.2.1 + 6 < 8 then (st.1 * 64 + six, st.2.1 + 6, st.2.2)
  else ((st.1 * 64 + six) % 2 ^ (st.2.1 - 2), st.2.1 - 2, st.2.2 ++ [UInt8.ofNat ((st.1 * 64 + six) / 2 ^ (st.2.1 - 2))])
def unG : List UInt8 → Nat × Nat × List UInt8 → Option (Nat × Nat × List UInt8)
  | [], st => some st
  | u :: r, st => if sixI u.toNat < 0 then none else unG r (unT st (sixI u.toNat).toNat)
def ruQ (l : List UInt8) : Option (List UInt8) :=
  match unG (l.takeWhile (· != 61)) (0, 0, []) with
  | none => none
  | some st => if b64Q st.2.2 = l then some st.2.2 else none
theorem take_cap (out : List UInt8) (u : UInt8) : (if (out.take 201).length ≤ 200 then out.take 201 ++ [u] else out.take 201) = (out ++ [u]).take 201 := by
  rw [List.length_take]
  by_cases h : out.length ≤ 200
  · rw [if_pos (by omega), List.take_of_length_le (by omega), List.take_of_length_le (by rw [List.length_append]; simp only [List.length_cons, List.length_nil]; omega)]
  · rw [if_neg (by omega), List.take_append_of_le_length (by omega)]
theorem unS_cap (r b k : Nat) (out : List UInt8) : unS (r, b, out.take 201) k = ((unT (r, b, out) k).1, (unT (r, b, out) k).2.1, (unT (r, b, out) k).2.2.take 201) := by
  unfold unS unT
  dsimp only
  by_cases h : b + 6 < 8
  · rw [if_pos h, if_pos h]
  · rw [if_neg h, if_neg h, take_cap]
theorem unF_cap : ∀ (x : List UInt8) (r b : Nat) (out : List UInt8), unF x (r, b, out.take 201) = (unG x (r, b, out)).map fun st => (st.1, st.2.1, st.2.2.take 201)
  | [], r, b, out => rfl
  | u :: x, r, b, out => by
    show (if sixI u.toNat < 0 then none else unF x (unS (r, b, out.take 201) (sixI u.toNat).toNat)) = Option.map _ (if sixI u.toNat < 0 then none else unG x (unT (r, b, out) (sixI u.toNat).toNat))
    by_cases h : sixI u.toNat < 0
    · rw [if_pos h, if_pos h]; rfl
    · rw [if_neg h, if_neg h, unS_cap]
      exact unF_cap x _ _ _
theorem unG_cons (u : UInt8) (r : List UInt8) (st : Nat × Nat × List UInt8) (n : Nat) (h : sixI u.toNat = n) : unG (u :: r) st = unG r (unT st n) := by
  show (if sixI u.toNat < 0 then none else unG r (unT st (sixI u.toNat).toNat)) = _
  rw [h, if_neg (by omega), Int.toNat_natCast]
theorem unT_0 (out : List UInt8) (x : Nat) : unT (0, 0, out) x = (x, 6, out) := by
  unfold unT; dsimp only; rw [if_pos (by omega)]; simp
theorem unT_6 (out : List UInt8) (r x : Nat) : unT (r, 6, out) x = ((r * 64 + x) % 16, 4, out ++ [UInt8.ofNat ((r * 64 + x) / 16)]) := by
  unfold unT; dsimp only; rw [if_neg (by omega)]
theorem unT_4 (out : List UInt8) (r x : Nat) : unT (r, 4, out) x = ((r * 64 + x) % 4, 2, out ++ [UInt8.ofNat ((r * 64 + x) / 4)]) := by
  unfold unT; dsimp only; rw [if_neg (by omega)]
theorem unT_2 (out : List UInt8) (r x : Nat) : unT (r, 2, out) x = (0, 0, out ++ [UInt8.ofNat (r * 64 + x)]) := by
  unfold unT; dsimp only; rw [if_neg (by omega)]; simp [Nat.mod_one]
theorem un_coreG : ∀ (l out : List UInt8), ∃ b, unG (core l) (0, 0, out) = some (0, b, out ++ l)
  | [], out => ⟨0, by rw [List.append_nil]; rfl⟩
  | [a], out => by
    have ha := a.toNat_lt
    refine ⟨4, ?_⟩
    unfold core
    rw [unG_cons _ _ _ _ (quad_six _ _).1, unG_cons _ _ _ _ (quad_six _ _).1, unT_0, unT_6]
    show some _ = _
    have e0 : (a.toNat * 65536 + 0 * 256 + 0) / 2 ^ (6 * (3 - 0)) % 64 = a.toNat / 4 := by show _ / 262144 % 64 = _; omega
    have e1 : (a.toNat * 65536 + 0 * 256 + 0) / 2 ^ (6 * (3 - 1)) % 64 = a.toNat % 4 * 16 := by show _ / 4096 % 64 = _; omega
    rw [e0, e1, show (a.toNat / 4 * 64 + a.toNat % 4 * 16) % 16 = 0 by omega, show (a.toNat / 4 * 64 + a.toNat % 4 * 16) / 16 = a.toNat by omega, UInt8.ofNat_toNat]
  | [a, b], out => by
    have ha := a.toNat_lt
    have hb := b.toNat_lt
    refine ⟨2, ?_⟩
    unfold core
    rw [unG_cons _ _ _ _ (quad_six _ _).1, unG_cons _ _ _ _ (quad_six _ _).1, unG_cons _ _ _ _ (quad_six _ _).1, unT_0, unT_6, unT_4]
    show some _ = _
    have e0 : (a.toNat * 65536 + b.toNat * 256 + 0) / 2 ^ (6 * (3 - 0)) % 64 = a.toNat / 4 := by show _ / 262144 % 64 = _; omega
    have e1 : (a.toNat * 65536 + b.toNat * 256 + 0) / 2 ^ (6 * (3 - 1)) % 64 = a.toNat % 4 * 16 + b.toNat / 16 := by show _ / 4096 % 64 = _; omega
    have e2 : (a.toNat * 65536 + b.toNat * 256 + 0) / 2 ^ (6 * (3 - 2)) % 64 = b.toNat % 16 * 4 := by show _ / 64 % 64 = _; omega
    rw [e0, e1, e2, show (a.toNat / 4 * 64 + (a.toNat % 4 * 16 + b.toNat / 16)) % 16 = b.toNat / 16 by omega, show (a.toNat / 4 * 64 + (a.toNat % 4 * 16 + b.toNat / 16)) / 16 = a.toNat by omega, show (b.toNat / 16 * 64 + b.toNat % 16 * 4) % 4 = 0 by omega, show (b.toNat / 16 * 64 + b.toNat % 16 * 4) / 4 = b.toNat by omega, UInt8.ofNat_toNat, UInt8.ofNat_toNat, List.append_assoc]
    rfl
  | a :: b :: c :: r, out => by
    have ha := a.toNat_lt
    have hb := b.toNat_lt
    have hc := c.toNat_lt
    obtain ⟨n, hn⟩ := un_coreG r (out ++ [a] ++ [b] ++ [c])
    refine ⟨n, ?_⟩
    rw [core_three, unG_cons _ _ _ _ (quad_six _ _).1, unG_cons _ _ _ _ (quad_six _ _).1, unG_cons _ _ _ _ (quad_six _ _).1, unG_cons _ _ _ _ (quad_six _ _).1, unT_0, unT_6, unT_4, unT_2]
    have e0 : (a.toNat * 65536 + b.toNat * 256 + c.toNat) / 2 ^ (6 * (3 - 0)) % 64 = a.toNat / 4 := by show _ / 262144 % 64 = _; omega
    have e1 : (a.toNat * 65536 + b.toNat * 256 + c.toNat) / 2 ^ (6 * (3 - 1)) % 64 = a.toNat % 4 * 16 + b.toNat / 16 := by show _ / 4096 % 64 = _; omega
    have e2 : (a.toNat * 65536 + b.toNat * 256 + c.toNat) / 2 ^ (6 * (3 - 2)) % 64 = b.toNat % 16 * 4 + c.toNat / 64 := by show _ / 64 % 64 = _; omega
    have e3 : (a.toNat * 65536 + b.toNat * 256 + c.toNat) / 2 ^ (6 * (3 - 3)) % 64 = c.toNat % 64 := by show _ / 1 % 64 = _; omega
    rw [e0, e1, e2, e3, show (a.toNat / 4 * 64 + (a.toNat % 4 * 16 + b.toNat / 16)) % 16 = b.toNat / 16 by omega, show (a.toNat / 4 * 64 + (a.toNat % 4 * 16 + b.toNat / 16)) / 16 = a.toNat by omega, show (b.toNat / 16 * 64 + (b.toNat % 16 * 4 + c.toNat / 64)) % 4 = c.toNat / 64 by omega, show (b.toNat / 16 * 64 + (b.toNat % 16 * 4 + c.toNat / 64)) / 4 = b.toNat by omega, show c.toNat / 64 * 64 + c.toNat % 64 = c.toNat by omega, UInt8.ofNat_toNat, UInt8.ofNat_toNat, UInt8.ofNat_toNat, hn]
    simp
theorem unG_some {u : UInt8} {r : List UInt8} {st st' : Nat × Nat × List UInt8} (h : unG (u :: r) st = some st') : ∃ n : Nat, u = letU n ∧ n < 64 ∧ unG r (unT st n) = some st' := by
  have h1 : (if sixI u.toNat < 0 then none else unG r (unT st (sixI u.toNat).toNat)) = some st' := h
  by_cases h0 : sixI u.toNat < 0
  · rw [if_pos h0] at h1; cases h1
  · rw [if_neg h0] at h1
    obtain ⟨n, hn⟩ := Int.eq_ofNat_of_zero_le (Int.not_lt.1 h0)
    obtain ⟨h2, h3⟩ := letU_inv u n hn
    rw [hn, Int.toNat_natCast] at h1
    exact ⟨n, h2, h3, h1⟩
theorem conv_coreG : ∀ (x out l' : List UInt8) (b : Nat), unG x (0, 0, out) = some (0, b, l') → x.length % 4 ≠ 1 → ∃ l, l' = out ++ l ∧ x = core l
  | [], out, l', b, h, h4 => by
    have e : some (0, 0, out) = some (0, b, l') := h
    injection e with e
    injection e with _ e
    injection e with _ e
    exact ⟨[], by rw [List.append_nil, e], rfl⟩
  | [u], out, l', b, h, h4 => absurd rfl h4
  | [u, v], out, l', b, h, h4 => by
    obtain ⟨x0, rfl, hx0, h⟩ := unG_some h
    rw [unT_0] at h
    obtain ⟨x1, rfl, hx1, h⟩ := unG_some h
    rw [unT_6] at h
    have e : some ((x0 * 64 + x1) % 16, 4, out ++ [UInt8.ofNat ((x0 * 64 + x1) / 16)]) = some (0, b, l') := h
    injection e with e
    injection e with e0 e
    injection e with _ e
    refine ⟨[UInt8.ofNat ((x0 * 64 + x1) / 16)], e.symm, ?_⟩
    have hb := byte_of (n := (x0 * 64 + x1) / 16) (by omega)
    unfold core
    rw [hb]
    unfold quad
    rw [show ((x0 * 64 + x1) / 16 * 65536 + 0 * 256 + 0) / 2 ^ (6 * (3 - 0)) % 64 = x0 by show _ / 262144 % 64 = _; omega, show ((x0 * 64 + x1) / 16 * 65536 + 0 * 256 + 0) / 2 ^ (6 * (3 - 1)) % 64 = x1 by show _ / 4096 % 64 = _; omega]
  | [u, v, y], out, l', b, h, h4 => by
    obtain ⟨x0, rfl, hx0, h⟩ := unG_some h
    rw [unT_0] at h
    obtain ⟨x1, rfl, hx1, h⟩ := unG_some h
    rw [unT_6] at h
    obtain ⟨x2, rfl, hx2, h⟩ := unG_some h
    rw [unT_4] at h
    have e : some (((x0 * 64 + x1) % 16 * 64 + x2) % 4, 2, out ++ [UInt8.ofNat ((x0 * 64 + x1) / 16)] ++ [UInt8.ofNat (((x0 * 64 + x1) % 16 * 64 + x2) / 4)]) = some (0, b, l') := h
    injection e with e
    injection e with e0 e
    injection e with _ e
    refine ⟨[UInt8.ofNat ((x0 * 64 + x1) / 16), UInt8.ofNat (((x0 * 64 + x1) % 16 * 64 + x2) / 4)], by rw [← e, List.append_assoc]; rfl, ?_⟩
    have hb := byte_of (n := (x0 * 64 + x1) / 16) (by omega)
    have hc := byte_of (n := ((x0 * 64 + x1) % 16 * 64 + x2) / 4) (by omega)
    unfold core
    rw [hb, hc]
    unfold quad
    generalize hA : (x0 * 64 + x1) / 16 = A
    generalize hB : ((x0 * 64 + x1) % 16 * 64 + x2) / 4 = B
    rw [show (A * 65536 + B * 256 + 0) / 2 ^ (6 * (3 - 0)) % 64 = x0 by show _ / 262144 % 64 = _; omega, show (A * 65536 + B * 256 + 0) / 2 ^ (6 * (3 - 1)) % 64 = x1 by show _ / 4096 % 64 = _; omega, show (A * 65536 + B * 256 + 0) / 2 ^ (6 * (3 - 2)) % 64 = x2 by show _ / 64 % 64 = _; omega]
  | u :: v :: y :: z :: r, out, l', b, h, h4 => by
    obtain ⟨x0, rfl, hx0, h⟩ := unG_some h
    rw [unT_0] at h
    obtain ⟨x1, rfl, hx1, h⟩ := unG_some h
    rw [unT_6] at h
    obtain ⟨x2, rfl, hx2, h⟩ := unG_some h
    rw [unT_4] at h
    obtain ⟨x3, rfl, hx3, h⟩ := unG_some h
    rw [unT_2] at h
    obtain ⟨l, h1, h2⟩ := conv_coreG r _ l' b h (by simp only [List.length_cons] at h4; omega)
    refine ⟨UInt8.ofNat ((x0 * 64 + x1) / 16) :: UInt8.ofNat (((x0 * 64 + x1) % 16 * 64 + x2) / 4) :: UInt8.ofNat (((x0 * 64 + x1) % 16 * 64 + x2) % 4 * 64 + x3) :: l, by rw [h1]; simp, ?_⟩
    have hb := byte_of (n := (x0 * 64 + x1) / 16) (by omega)
    have hc := byte_of (n := ((x0 * 64 + x1) % 16 * 64 + x2) / 4) (by omega)
    have hd := byte_of (n := ((x0 * 64 + x1) % 16 * 64 + x2) % 4 * 64 + x3) (by omega)
    rw [core_three, hb, hc, hd, ← h2]
    unfold quad
    generalize hA : (x0 * 64 + x1) / 16 = A
    generalize hB : ((x0 * 64 + x1) % 16 * 64 + x2) / 4 = B
    generalize hC : ((x0 * 64 + x1) % 16 * 64 + x2) % 4 * 64 + x3 = C
    rw [show (A * 65536 + B * 256 + C) / 2 ^ (6 * (3 - 0)) % 64 = x0 by show _ / 262144 % 64 = _; omega, show (A * 65536 + B * 256 + C) / 2 ^ (6 * (3 - 1)) % 64 = x1 by show _ / 4096 % 64 = _; omega, show (A * 65536 + B * 256 + C) / 2 ^ (6 * (3 - 2)) % 64 = x2 by show _ / 64 % 64 = _; omega, show (A * 65536 + B * 256 + C) / 2 ^ (6 * (3 - 3)) % 64 = x3 by show _ / 1 % 64 = _; omega]
/-- What a text of signs is read as, without a bound. -/
theorem ru_back (l : List UInt8) : ruQ (b64Q l) = some l := by
  obtain ⟨b, hb⟩ := un_coreG l []
  have ht : (b64Q l).takeWhile (· != 61) = core l := by
    rw [core_pad]
    have h1 : ∀ (y : List UInt8) (m : Nat), (∀ u ∈ y, u ≠ 61) → (y ++ List.replicate m 61).takeWhile (· != 61) = y := by
      intro y m hy
      induction y with
      | nil => cases m with
        | zero => rfl
        | succ m => rw [List.replicate_succ]; rfl
      | cons c y ih =>
        rw [List.cons_append, List.takeWhile_cons, if_pos (bne_iff_ne.2 (hy c List.mem_cons_self)), ih (fun u hu => hy u (List.mem_cons_of_mem _ hu))]
    exact h1 _ _ (core_ne l)
  unfold ruQ
  rw [ht, hb]
  dsimp only
  rw [List.nil_append, if_pos rfl]
theorem ru_conv {l o : List UInt8} (h : ruQ l = some o) : l = b64Q o := by
  unfold ruQ at h
  split at h
  · cases h
  · split at h
    · rename_i e
      injection h with h
      rw [← h, e]
    · cases h
/-- The program's reading of signs, by the document's. -/
theorem un_ru (l : List UInt8) : unQ l = match ruQ l with | none => ([], 20) | some o => if 200 < o.length then ([], 2) else (o, 0) := by
  rcases hr : ruQ l with _ | o
  · dsimp only
    unfold unQ
    split
    · rfl
    · rename_i hn
      obtain ⟨hn4, hn2⟩ := not_or.1 hn
      have hs := trim_split 61 l
      have hll := congrArg List.length hs
      rw [List.length_append, List.length_replicate] at hll
      obtain ⟨x, hx⟩ : ∃ x, Lib.trimRightB l 61 = x := ⟨_, rfl⟩
      rw [hx] at hs hn2 hll ⊢
      have hc := unF_cap x 0 0 []
      rw [List.take_nil] at hc
      rw [hc]
      rcases hF : unG x (0, 0, []) with _ | ⟨rest, b, out⟩
      · rfl
      · show unE (some (rest, b, out.take 201)) = _
        unfold unE
        dsimp only
        by_cases h0 : rest ≠ 0
        · rw [if_pos h0]
        · obtain rfl : rest = 0 := by omega
          exfalso
          obtain ⟨o, he, hcx⟩ := conv_coreG x [] out b hF (by omega)
          have hcl := core_len o
          rw [← hcx] at hcl
          have hp : padN o.length = l.length - x.length := by unfold padN; omega
          have : l = b64Q o := by rw [core_pad, ← hcx, hp]; exact hs
          rw [this, ru_back] at hr
          cases hr
  · obtain rfl := ru_conv hr
    dsimp only
    obtain ⟨b, hb⟩ := un_coreG o []
    have ht : Lib.trimRightB (b64Q o) 61 = core o := by rw [core_pad, trim_pad _ _ _ (core_ne o)]
    have hlen : (b64Q o).length = (core o).length + padN o.length := by rw [core_pad, List.length_append, List.length_replicate]
    have hcl := core_len o
    have hc := unF_cap (core o) 0 0 []
    rw [List.take_nil, hb] at hc
    unfold unQ
    rw [ht, hc, if_neg (by rw [hlen, hcl]; unfold padN; omega)]
    show unE (some (0, b, ([] ++ o).take 201)) = _
    unfold unE
    dsimp only
    rw [if_neg (by simp), List.nil_append]
    by_cases h2 : 200 < o.length
    · rw [if_pos h2, if_pos (by rw [List.length_take]; omega)]
    · rw [if_neg h2, if_neg (by rw [List.length_take]; omega), List.take_of_length_le (by omega)]
/-- The bits of the document, held beside the program's. -/
theorem bits_step {B R n k : Nat} (hn : n = 0 ∨ n = 2 ∨ n = 4 ∨ n = 6) (hR : R = B % 2 ^ n) (hk : k < 64) (out : List UInt8) :
    (n = 0 → unT (R, n, out) k = ((B * 64 + k) % 4096 % 2 ^ 6, 6, out)) ∧
    (n ≠ 0 → unT (R, n, out) k = ((B * 64 + k) % 4096 % 2 ^ (n - 2), n - 2, out ++ [UInt8.ofNat ((B * 64 + k) % 4096 / 2 ^ (n - 2))])) := by
  subst hR
  rcases hn with rfl | rfl | rfl | rfl
  · refine ⟨fun _ => ?_, fun h => absurd rfl h⟩
    rw [show B % 2 ^ 0 = 0 by omega, unT_0, show (2 : Nat) ^ 6 = 64 from rfl, show (B * 64 + k) % 4096 % 64 = k by omega]
  · refine ⟨fun h => absurd h (by decide), fun _ => ?_⟩
    rw [unT_2, show (2 : Nat) ^ 2 = 4 from rfl, show 2 - 2 = 0 from rfl, show (2 : Nat) ^ 0 = 1 from rfl, Nat.mod_one, Nat.div_one]
    congr 3
    apply congrArg (fun x => [x])
    apply UInt8.toNat_inj.1
    rw [UInt8.toNat_ofNat', UInt8.toNat_ofNat']
    omega
  · refine ⟨fun h => absurd h (by decide), fun _ => ?_⟩
    rw [unT_4, show (2 : Nat) ^ 4 = 16 from rfl, show 4 - 2 = 2 from rfl, show (2 : Nat) ^ 2 = 4 from rfl]
    have e1 : (B % 16 * 64 + k) % 4 = (B * 64 + k) % 4096 % 4 := by omega
    have e2 : UInt8.ofNat ((B % 16 * 64 + k) / 4) = UInt8.ofNat ((B * 64 + k) % 4096 / 4) := by
      apply UInt8.toNat_inj.1
      rw [UInt8.toNat_ofNat', UInt8.toNat_ofNat']
      omega
    rw [e1, e2]
  · refine ⟨fun h => absurd h (by decide), fun _ => ?_⟩
    rw [unT_6, show (2 : Nat) ^ 6 = 64 from rfl, show 6 - 2 = 4 from rfl, show (2 : Nat) ^ 4 = 16 from rfl]
    have e1 : (B % 64 * 64 + k) % 16 = (B * 64 + k) % 4096 % 16 := by omega
    have e2 : (B % 64 * 64 + k) / 16 = (B * 64 + k) % 4096 / 16 := by omega
    rw [e1, e2]
end Go.Proofs.YthnbcilpallhjaaDoor
