/-
  Plain mathematics of the check sum: one bit's step, bytes, linearity, runs of turned bits. No program is named here.
-/
import Derived.Test.YtmaeofhgbelciaaBits
namespace Go.Proofs.Ytmaeofhgbelciaa
set_option maxRecDepth 100000

def POLY : BitVec 32 := 3988292384#32
/-- One bit's step of the register. -/
def st (r : BitVec 32) : BitVec 32 := (r >>> 1) ^^^ (if r.getLsbD 0 then POLY else 0#32)
def stN : Nat → BitVec 32 → BitVec 32
  | 0, r => r
  | n + 1, r => st (stN n r)
/-- One byte's step. -/
def byte1 (r : BitVec 32) (u : UInt8) : BitVec 32 := stN 8 (r ^^^ w8 u)
def crcOf (r : BitVec 32) (l : List UInt8) : BitVec 32 := l.foldl byte1 r
def ext (s : BitVec 32) (l : List UInt8) : BitVec 32 := ~~~ crcOf (~~~ s) l
/-- One bit's step, the bit told apart from the register. -/
def rb (r : BitVec 32) (b : Bool) : BitVec 32 := if b != r.getLsbD 0 then (r >>> 1) ^^^ POLY else r >>> 1
/-- The first k bits of a byte. -/
def rbN : Nat → BitVec 32 → UInt8 → BitVec 32
  | 0, r, _ => r
  | k + 1, r, u => rb (rbN k r u) (u.toNat.testBit k)

theorem xor_lc (a b c : BitVec 32) : a ^^^ (b ^^^ c) = b ^^^ (a ^^^ c) := by rw [← BitVec.xor_assoc, BitVec.xor_comm a b, BitVec.xor_assoc]
theorem xor_ss (a b : BitVec 32) : a ^^^ (a ^^^ b) = b := by rw [← BitVec.xor_assoc, BitVec.xor_self, BitVec.zero_xor]
theorem snoc_ind {α : Type} {P : List α → Prop} (h0 : P []) (hs : ∀ l x, P l → P (l ++ [x])) (l : List α) : P l := by
  have : ∀ r : List α, P r.reverse := by
    intro r
    induction r with
    | nil => exact h0
    | cons x r ih => rw [List.reverse_cons]; exact hs _ _ ih
  have h := this l.reverse
  rwa [List.reverse_reverse] at h
theorem ushr_xor (a b : BitVec 32) (k : Nat) : (a ^^^ b) >>> k = (a >>> k) ^^^ (b >>> k) := by ext i; simp [BitVec.getElem_xor]
theorem st_xor (a b : BitVec 32) : st (a ^^^ b) = st a ^^^ st b := by
  unfold st
  rw [ushr_xor, BitVec.getLsbD_xor]
  cases a.getLsbD 0 <;> cases b.getLsbD 0 <;> simp [BitVec.xor_assoc, BitVec.xor_comm, xor_lc, xor_ss]
theorem st_zero : st 0#32 = 0#32 := by simp [st]
theorem stN_zero (n : Nat) : stN n 0#32 = 0#32 := by induction n with | zero => rfl | succ n ih => rw [stN, ih, st_zero]
theorem stN_xor (n : Nat) (a b : BitVec 32) : stN n (a ^^^ b) = stN n a ^^^ stN n b := by
  induction n with | zero => rfl | succ n ih => rw [stN, ih, st_xor]; rfl
theorem rb_false (r : BitVec 32) : rb r false = st r := by unfold rb st; cases r.getLsbD 0 <;> simp
theorem rb_eq (r x : BitVec 32) : st (r ^^^ x) = rb r (x.getLsbD 0) ^^^ (x >>> 1) := by
  rw [st_xor]; unfold st rb
  cases r.getLsbD 0 <;> cases x.getLsbD 0 <;> simp [BitVec.xor_assoc, BitVec.xor_comm, xor_lc, xor_ss]
theorem rb_xor (a b : BitVec 32) (x y : Bool) : rb (a ^^^ b) (x ^^ y) = rb a x ^^^ rb b y := by
  unfold rb
  rw [ushr_xor, BitVec.getLsbD_xor]
  cases a.getLsbD 0 <;> cases b.getLsbD 0 <;> cases x <;> cases y <;> simp [BitVec.xor_assoc, BitVec.xor_comm, xor_lc, xor_ss]
/-- Bits taken one by one out of a word are the word taken at once. -/
theorem stN_bits (k : Nat) (r W : BitVec 32) : stN k (r ^^^ W) = ((List.range k).map W.getLsbD).foldl rb r ^^^ (W >>> k) := by
  induction k with
  | zero => simp [stN]
  | succ k ih =>
    rw [stN, ih, rb_eq, List.range_succ, List.map_append, List.foldl_append]
    have e : (W >>> k).getLsbD 0 = W.getLsbD k := by simp
    rw [e, BitVec.shiftRight_add]; rfl
theorem rbN_bits (k : Nat) (r : BitVec 32) (u : UInt8) : rbN k r u = ((List.range k).map u.toNat.testBit).foldl rb r := by
  induction k with
  | zero => rfl
  | succ k ih => rw [rbN, ih, List.range_succ, List.map_append, List.foldl_append]; rfl
theorem w8_bit (u : UInt8) (k : Nat) : (w8 u).getLsbD k = u.toNat.testBit k := by
  rw [← BitVec.testBit_toNat, w8_toNat]
theorem w8_shr (u : UInt8) : w8 u >>> 8 = 0#32 := by
  apply BitVec.eq_of_toNat_eq
  have := u.toNat_lt
  rw [BitVec.toNat_ushiftRight, w8_toNat, Nat.shiftRight_eq_div_pow]
  simp; omega
theorem byte1_bits (r : BitVec 32) (u : UInt8) : byte1 r u = rbN 8 r u := by
  rw [byte1, stN_bits, w8_shr, rbN_bits]
  have e : (w8 u).getLsbD = u.toNat.testBit := funext (w8_bit u)
  rw [e]; simp

/-- The bit j of bytes: the lowest bit of the first byte comes first. -/
def tbit (l : List UInt8) (j : Nat) : Bool := (l.getD (j / 8) 0).toNat.testBit (j % 8)
def bitsOf (l : List UInt8) : List Bool := (List.range (8 * l.length)).map (tbit l)
theorem tbit_append (a b : List UInt8) (j : Nat) (h : j < 8 * a.length) : tbit (a ++ b) j = tbit a j := by
  unfold tbit
  rw [List.getD_eq_getElem?_getD, List.getD_eq_getElem?_getD, List.getElem?_append_left (by omega)]
theorem bitsOf_snoc (l : List UInt8) (u : UInt8) : bitsOf (l ++ [u]) = bitsOf l ++ (List.range 8).map u.toNat.testBit := by
  unfold bitsOf
  rw [show 8 * (l ++ [u]).length = 8 * l.length + 8 by simp; omega, List.range_add, List.map_append, List.map_map]
  congr 1
  · exact List.map_congr_left fun j hj => tbit_append _ _ _ (List.mem_range.1 hj)
  · refine List.map_congr_left fun j hj => ?_
    have hj := List.mem_range.1 hj
    simp only [Function.comp, tbit]
    rw [show (8 * l.length + j) / 8 = l.length by omega, show (8 * l.length + j) % 8 = j by omega]
    simp [List.getD_eq_getElem?_getD]
theorem crcOf_nil (r : BitVec 32) : crcOf r [] = r := rfl
theorem crcOf_append (r : BitVec 32) (a b : List UInt8) : crcOf r (a ++ b) = crcOf (crcOf r a) b := List.foldl_append
theorem crcOf_snoc (r : BitVec 32) (l : List UInt8) (u : UInt8) : crcOf r (l ++ [u]) = byte1 (crcOf r l) u := by rw [crcOf_append]; rfl
theorem crcOf_bits (r : BitVec 32) (l : List UInt8) : crcOf r l = (bitsOf l).foldl rb r := by
  induction l using snoc_ind with
  | h0 => rfl
  | hs l u ih => rw [crcOf_snoc, ih, byte1_bits, rbN_bits, bitsOf_snoc, List.foldl_append]

theorem w8_xor (u v : UInt8) : w8 (u ^^^ v) = w8 u ^^^ w8 v := by
  apply BitVec.eq_of_toNat_eq
  rw [BitVec.toNat_xor, w8_toNat, w8_toNat, w8_toNat, UInt8.toNat_xor]
theorem byte1_xor (a b : BitVec 32) (u v : UInt8) : byte1 (a ^^^ b) (u ^^^ v) = byte1 a u ^^^ byte1 b v := by
  unfold byte1
  rw [w8_xor, ← stN_xor]
  congr 1
  simp only [BitVec.xor_assoc, xor_lc b]
theorem crcOf_xor (xs ys : List UInt8) (h : xs.length = ys.length) (a b : BitVec 32) : crcOf (a ^^^ b) (List.zipWith (· ^^^ ·) xs ys) = crcOf a xs ^^^ crcOf b ys := by
  induction xs generalizing ys a b with
  | nil => cases ys <;> simp_all [crcOf]
  | cons x xs ih =>
    cases ys with
    | nil => simp at h
    | cons y ys =>
      show crcOf (byte1 (a ^^^ b) (x ^^^ y)) (List.zipWith (· ^^^ ·) xs ys) = _
      rw [byte1_xor, ih ys (by simpa using h)]; rfl
/-- Of bytes held against each other the sums are, too. -/
theorem ext_linear (xs ys zs : List UInt8) (h : xs.length = ys.length) (hz : zs = List.replicate xs.length 0) :
    ext 0#32 (List.zipWith (· ^^^ ·) xs ys) = ext 0#32 xs ^^^ ext 0#32 ys ^^^ ext 0#32 zs := by
  subst hz
  have e : List.zipWith (· ^^^ ·) (List.zipWith (· ^^^ ·) xs ys) (List.replicate xs.length 0) = List.zipWith (· ^^^ ·) xs ys := by
    clear h
    induction xs generalizing ys with
    | nil => rfl
    | cons x xs ih => cases ys with
      | nil => rfl
      | cons y ys => simp [List.replicate_succ, ih]
  have h3 := crcOf_xor (List.zipWith (· ^^^ ·) xs ys) (List.replicate xs.length 0) (by simp [h]) ((~~~ 0#32) ^^^ (~~~ 0#32)) (~~~ 0#32)
  unfold ext
  have k : (~~~ 0#32 : BitVec 32) ^^^ (~~~ 0#32) ^^^ (~~~ 0#32) = ~~~ 0#32 := by rw [BitVec.xor_self, BitVec.zero_xor]
  rw [e, k] at h3
  rw [h3, crcOf_xor xs ys h]
  generalize crcOf (~~~ 0#32) xs = p
  generalize crcOf (~~~ 0#32) ys = q
  generalize crcOf (~~~ 0#32) (List.replicate xs.length 0) = r
  ext i
  simp [BitVec.getElem_xor]

/-! ### Bits turned within a run of 32 -/
def bitOf (i : Nat) : UInt8 := UInt8.ofNat (2 ^ (i % 8))
def turnN (at_ : Nat) (mask : BitVec 32) (l : List UInt8) : Nat → List UInt8
  | 0 => l
  | k + 1 => if mask.getLsbD k = true ∧ at_ + k < 8 * l.length then (turnN at_ mask l k).set ((at_ + k) / 8) ((turnN at_ mask l k).getD ((at_ + k) / 8) 0 ^^^ bitOf (at_ + k)) else turnN at_ mask l k
theorem turnN_length (at_ : Nat) (mask : BitVec 32) (l : List UInt8) (k : Nat) : (turnN at_ mask l k).length = l.length := by
  induction k with
  | zero => rfl
  | succ k ih => rw [turnN]; split <;> simp [ih]
theorem bitOf_toNat (i : Nat) : (bitOf i).toNat = 2 ^ (i % 8) := by
  unfold bitOf
  have h : i % 8 < 8 := Nat.mod_lt _ (by decide)
  have : 2 ^ (i % 8) ≤ 2 ^ 7 := Nat.pow_le_pow_right (by decide) (by omega)
  simp only [UInt8.toNat_ofNat']
  exact Nat.mod_eq_of_lt (by omega)
theorem tbit_set (l : List UInt8) (i j : Nat) (hi : i < 8 * l.length) : tbit (l.set (i / 8) (l.getD (i / 8) 0 ^^^ bitOf i)) j = (tbit l j ^^ decide (j = i)) := by
  unfold tbit
  simp only [List.getD_eq_getElem?_getD, List.getElem?_set]
  by_cases h : i / 8 = j / 8
  · rw [if_pos h, if_pos (by omega), h]
    simp only [Option.getD_some, UInt8.toNat_xor, Nat.testBit_xor, bitOf_toNat, Nat.testBit_two_pow]
    congr 1
    rw [decide_eq_decide]
    omega
  · rw [if_neg h]
    have : ¬ j = i := by intro e; subst e; exact h rfl
    simp [this]
theorem tbit_turn (at_ : Nat) (mask : BitVec 32) (l : List UInt8) (k j : Nat) (hj : j < 8 * l.length) :
    tbit (turnN at_ mask l k) j = (tbit l j ^^ (decide (at_ ≤ j ∧ j < at_ + k) && mask.getLsbD (j - at_))) := by
  induction k with
  | zero =>
    rw [show decide (at_ ≤ j ∧ j < at_ + 0) = false from decide_eq_false (by omega)]
    simp [turnN]
  | succ k ih =>
    rw [turnN]
    by_cases hjk : j = at_ + k
    · subst hjk
      have h2 : (at_ ≤ at_ + k ∧ at_ + k < at_ + (k + 1)) := by omega
      split
      · rename_i hc
        rw [tbit_set _ _ _ (by rw [turnN_length]; omega), ih]
        simp [h2, hc.1]
      · rename_i hc
        rw [ih]
        have : mask.getLsbD k = false := by simpa [hj] using hc
        simp [this]
    · have h2 : (at_ ≤ j ∧ j < at_ + (k + 1)) ↔ (at_ ≤ j ∧ j < at_ + k) := by omega
      split
      · rename_i hc
        rw [tbit_set _ _ _ (by rw [turnN_length]; omega), ih]
        simp [hjk, h2]
      · rw [ih]; simp [h2]
theorem fold_xor {α : Type} (R : List α) (f g : α → Bool) (a b : BitVec 32) : (R.map fun j => f j ^^ g j).foldl rb (a ^^^ b) = (R.map f).foldl rb a ^^^ (R.map g).foldl rb b := by
  induction R generalizing a b with
  | nil => rfl
  | cons x R ih => simp only [List.map_cons, List.foldl_cons]; rw [rb_xor, ih]
theorem fold_false {α : Type} (R : List α) (f : α → Bool) (h : ∀ j ∈ R, f j = false) (a : BitVec 32) : (R.map f).foldl rb a = stN R.length a := by
  induction R using snoc_ind with
  | h0 => rfl
  | hs R x ih =>
    rw [List.map_append, List.foldl_append, ih (fun j hj => h j (by simp [hj]))]
    simp [h x (by simp), rb_false, stN]
theorem st_inj (x : BitVec 32) (h : st x = 0#32) : x = 0#32 := by
  unfold st at h
  cases hx : x.getLsbD 0
  · rw [hx] at h
    simp only [Bool.false_eq_true, if_false, BitVec.xor_zero] at h
    have h1 := congrArg BitVec.toNat h
    rw [BitVec.toNat_ushiftRight, Nat.shiftRight_eq_div_pow] at h1
    have h2 : x.toNat % 2 = 0 := by
      rw [← BitVec.testBit_toNat] at hx
      simpa [Nat.testBit_zero] using hx
    apply BitVec.eq_of_toNat_eq
    simp at h1 ⊢
    omega
  · rw [hx] at h
    have h1 := congrArg (fun y => BitVec.getLsbD y 31) h
    simp [POLY] at h1
theorem stN_inj (n : Nat) (x : BitVec 32) (h : stN n x = 0#32) : x = 0#32 := by
  induction n with
  | zero => exact h
  | succ n ih => exact ih (st_inj _ h)
theorem low_bit (mask : BitVec 32) (n j : Nat) (hj : j < 32) : (BitVec.ofNat 32 (mask.toNat % 2 ^ n)).getLsbD j = (decide (j < n) && mask.getLsbD j) := by
  rw [BitVec.getLsbD_ofNat, Nat.testBit_mod_two_pow, BitVec.testBit_toNat, decide_eq_true hj, Bool.true_and]
/-- The error's bits. -/
def ebit (at_ : Nat) (mask : BitVec 32) (j : Nat) : Bool := decide (at_ ≤ j ∧ j < at_ + 32) && mask.getLsbD (j - at_)
theorem ebits_fold (at_ N n : Nat) (mask : BitVec 32) (hn : n ≤ 32) (h1 : at_ + n ≤ N) (h2 : n = 32 ∨ at_ + n = N) :
    ((List.range N).map (ebit at_ mask)).foldl rb 0#32 = stN (N - (at_ + n)) (stN n (BitVec.ofNat 32 (mask.toNat % 2 ^ n))) := by
  obtain ⟨r, rfl⟩ : ∃ r, N = at_ + n + r := ⟨N - (at_ + n), by omega⟩
  rw [List.range_add, List.range_add, List.map_append, List.map_append, List.foldl_append, List.foldl_append]
  rw [fold_false (List.range at_) _ (fun j hj => by have := List.mem_range.1 hj; simp [ebit]; omega), stN_zero]
  have e1 : ((List.range n).map (at_ + ·)).map (ebit at_ mask) = (List.range n).map (BitVec.ofNat 32 (mask.toNat % 2 ^ n)).getLsbD := by
    rw [List.map_map]
    refine List.map_congr_left fun j hj => ?_
    have hj := List.mem_range.1 hj
    have h32 : j < 32 := by omega
    rw [low_bit _ _ _ h32, decide_eq_true hj]
    simp [ebit, h32]
  have hw := stN_bits n 0#32 (BitVec.ofNat 32 (mask.toNat % 2 ^ n))
  have hz : BitVec.ofNat 32 (mask.toNat % 2 ^ n) >>> n = 0#32 := by
    apply BitVec.eq_of_toNat_eq
    rw [BitVec.toNat_ushiftRight, BitVec.toNat_ofNat, Nat.shiftRight_eq_div_pow]
    have h0 : mask.toNat % 2 ^ n < 2 ^ n := Nat.mod_lt _ (Nat.two_pow_pos n)
    have h3 : mask.toNat % 2 ^ n % 2 ^ 32 ≤ mask.toNat % 2 ^ n := Nat.mod_le _ _
    rw [Nat.div_eq_of_lt (by omega)]; rfl
  rw [hz, BitVec.xor_zero, BitVec.zero_xor] at hw
  rw [e1, ← hw, fold_false, List.length_map, List.length_range]
  · congr 1; omega
  · intro j hj
    obtain ⟨i, hi, rfl⟩ := List.mem_map.1 hj
    have hi := List.mem_range.1 hi
    simp [ebit]; omega
/-- Bytes in which bits are turned within a run of 32 have another sum. -/
theorem turn_iff (at_ : Nat) (mask r : BitVec 32) (l : List UInt8) (h : at_ < 8 * l.length) : crcOf r (turnN at_ mask l 32) = crcOf r l ↔ turnN at_ mask l 32 = l := by
  refine ⟨fun he => ?_, fun he => by rw [he]⟩
  have e0 : (r ^^^ 0#32) = r := BitVec.xor_zero
  have hf := fold_xor (List.range (8 * l.length)) (tbit l) (ebit at_ mask) r 0#32
  have hm : (List.range (8 * l.length)).map (fun j => tbit l j ^^ ebit at_ mask j) = bitsOf (turnN at_ mask l 32) := by
    unfold bitsOf
    rw [turnN_length]
    exact List.map_congr_left fun j hj => (tbit_turn _ _ _ _ _ (List.mem_range.1 hj)).symm
  rw [hm, e0, ← crcOf_bits, he] at hf
  rw [show (List.range (8 * l.length)).map (tbit l) = bitsOf l from rfl, ← crcOf_bits] at hf
  have hz : ((List.range (8 * l.length)).map (ebit at_ mask)).foldl rb 0#32 = 0#32 := by
    have := congrArg (crcOf r l ^^^ ·) hf
    simp only [BitVec.xor_self, xor_ss] at this
    exact this.symm
  rw [ebits_fold at_ (8 * l.length) (min 32 (8 * l.length - at_)) mask (by omega) (by omega) (by omega)] at hz
  have hW := stN_inj _ _ (stN_inj _ _ hz)
  have hbit : ∀ i, i < min 32 (8 * l.length - at_) → mask.getLsbD i = false := by
    intro i hi
    have := congrArg (fun y => BitVec.getLsbD y i) hW
    have h32 : i < 32 := by omega
    rw [low_bit _ _ _ h32, decide_eq_true hi, Bool.true_and] at this
    simpa using this
  have : ∀ k, k ≤ 32 → turnN at_ mask l k = l := by
    intro k hk
    induction k with
    | zero => rfl
    | succ k ih =>
      rw [turnN, if_neg, ih (by omega)]
      rintro ⟨h1, h2⟩
      rw [hbit k (by omega)] at h1
      cases h1
  exact this 32 (Nat.le_refl _)
end Go.Proofs.Ytmaeofhgbelciaa
