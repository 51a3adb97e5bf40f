/-
  What the program's functions of package crc do: one contract each (for seats without layer 2's statements).
-/
import Derived.Test.YtpdlipkmojhnnaaMem
import Derived.Test.YtpdlipkmojhnnaaCrcMath
namespace Go.Proofs.Ytpdlipkmojhnnaa
open Go.RowKit
set_option maxRecDepth 100000
theorem int32 {a : Int} {x : BitVec 32} (h : a = (x.toNat : Int)) : Value.int .u32 a = Value.int .u32 (x.toNat : Int) := by rw [h]
theorem ret32 {a : Int} {x : BitVec 32} (h : a = (x.toNat : Int)) : Ending.returned (.int .u32 a) = .returned (.int .u32 (x.toNat : Int)) := by rw [h]
theorem neg32 (r : BitVec 32) : POLY &&& -(r &&& 1#32) = if r.getLsbD 0 then POLY else 0#32 := by
  have h : r &&& 1#32 = if r.getLsbD 0 then 1#32 else 0#32 := by
    apply BitVec.eq_of_toNat_eq
    rw [BitVec.toNat_and]
    have e : r.getLsbD 0 = decide (r.toNat % 2 = 1) := by rw [← BitVec.testBit_toNat, Nat.testBit_zero]
    rw [e]
    by_cases hx : r.toNat % 2 = 1 <;> simp [hx] <;> omega
  rw [h]
  cases r.getLsbD 0 <;> simp [POLY]
/-- The round of Extend's inner loop, as the walk spells it. -/
theorem st_walk (x : BitVec 32) : bits .xor .u32 ((x.toNat : Int) / 2) (bits .and .u32 3988292384 (-bits .and .u32 (x.toNat : Int) 1 % 4294967296)) = ((st x).toNat : Int) := by
  rw [half32, and32, and32, xor32, of32, of32, of32, ofMod32]
  congr 1
  have e : BitVec.ofInt 32 (-((x &&& BitVec.ofInt 32 1).toNat : Int)) = -(x &&& 1#32) := by
    rw [BitVec.ofInt_neg, of32]; rfl
  rw [e, show BitVec.ofInt 32 3988292384 = POLY from rfl, neg32]
  rfl
theorem not32 (x : BitVec 32) : bits .xor .u32 IntKind.u32.max (x.toNat : Int) = ((~~~ x).toNat : Int) := by
  rw [xor32, of32, show BitVec.ofInt 32 IntKind.u32.max = BitVec.allOnes 32 from rfl, BitVec.allOnes_xor]
theorem byte_in (x : BitVec 32) (u : UInt8) : bits .xor .u32 (x.toNat : Int) ((u.toNat : Int) % 4294967296) = ((x ^^^ w8 u).toNat : Int) := by
  rw [xor32, of32, ofMod32, ofByte32]
theorem take_crc {l : List UInt8} {k : Nat} {u : UInt8} (r : BitVec 32) (h : l[k]? = some u) : crcOf r (l.take (k + 1)) = stN 8 (crcOf r (l.take k) ^^^ w8 u) := by
  rw [List.take_add_one, h]
  exact crcOf_snoc _ _ _
set_option maxHeartbeats 400000 in
theorem extend_any (s : BitVec 32) (A : Option Addr) (n c : Nat) (l : List UInt8) (w : World) (B : Nat) (hbs : Bs w B A n l) (hn : (n : Int) ≤ 9223372036854775807) :
    Calls Try.prog 69 #[.int .u32 (s.toNat : Int), .slice A n c] w fun e w' => e = .returned (.int .u32 ((ext s l).toNat : Int)) ∧ w = w' := by
  have hlen := Lib.hid hbs.len
  go_enter Try.func69, Try.ntmps69
  go_wp2
  go_loop [5, 13] (fun r i => ∃ k : Nat, k ≤ n ∧ i = .int .i64 k ∧ r = .int .u32 ((crcOf (~~~ s) (l.take k)).toNat : Int)) (fun _ i => n - (intOf i).toNat)
  case atStart => exact ⟨0, by omega, rfl, int32 (by rw [not32, List.take_zero]; rfl)⟩
  case round =>
    obtain ⟨k, hk, rfl, rfl⟩ := hrel
    by_cases hlt : k < n
    · obtain ⟨b, off, rfl, hb, hc⟩ := hbs.place (by omega)
      obtain ⟨u, hu⟩ := byte_get (l := l) (k := k) (by rw [hlen.out]; omega)
      have hck := hc k u hu
      clear hc
      have Hs := Lib.hid (take_crc (~~~ s) hu); clear hu
      go_wp2
      go_loop [5, 21] (fun r i => ∃ j : Nat, j ≤ 8 ∧ i = .int .i64 j ∧ r = .int .u32 ((stN j (crcOf (~~~ s) (l.take k) ^^^ w8 u)).toNat : Int)) (fun _ i => 8 - (intOf i).toNat)
      case atStart => exact ⟨0, by omega, rfl, int32 (by rw [byte_in]; rfl)⟩
      case round =>
        obtain ⟨j, hj, rfl, rfl⟩ := hrel
        by_cases hlt : j < 8
        · go_wp2
          go_round
          case rel => exact ⟨j + 1, by omega, by go_num, int32 (st_walk _)⟩
          case measure => simp [intOf]; omega
        · go_wp2
          go_round
          case rel => exact ⟨k + 1, by omega, by go_num, int32 (by rw [Hs.out, show j = 8 by omega])⟩
          case measure => simp [intOf]; omega
    · go_wp2
      go_ret
      exact ⟨ret32 (by rw [not32, List.take_of_length_le (by rw [hlen.out]; omega)]; rfl), rfl⟩
theorem intEq {k : IntKind} {a b : Int} (h : a = b) : Value.int k a = Value.int k b := by rw [h]
theorem ret2 {a b a' b' : Value} (h : a = a') (h' : b = b') : Ending.returned (.tuple #[a, b]) = .returned (.tuple #[a', b']) := by rw [h, h']
/-- The number of the first four bytes; is there one? -/
def g32 : List UInt8 → Int × Bool
  | a :: b :: c :: d :: _ => ((a.toNat : Int) + b.toNat * 256 + c.toNat * 65536 + d.toNat * 16777216, true)
  | _ => (0, false)
def g16 : List UInt8 → Int × Bool
  | a :: b :: _ => ((a.toNat : Int) + b.toNat * 256, true)
  | _ => (0, false)
theorem or_add (k : Nat) (a b : Int) (a0 : 0 ≤ a) (b0 : 0 ≤ b) (ha : a < ((2 ^ k : Nat) : Int)) (h : a + b * ((2 ^ k : Nat) : Int) < 4294967296) : bits .or .u32 a (b * ((2 ^ k : Nat) : Int)) = a + b * ((2 ^ k : Nat) : Int) := by
  obtain ⟨x, rfl⟩ := Int.eq_ofNat_of_zero_le a0
  obtain ⟨y, rfl⟩ := Int.eq_ofNat_of_zero_le b0
  rw [show (y : Int) * ((2 ^ k : Nat) : Int) = ((2 ^ k * y : Nat) : Int) by rw [Int.natCast_mul, Int.mul_comm]] at h ⊢
  have hx : x < 2 ^ k := by exact_mod_cast ha
  have hs : 2 ^ k * y + x < 4294967296 := by omega
  rw [or32, BitVec.ofInt_natCast, BitVec.ofInt_natCast, BitVec.toNat_or, BitVec.toNat_ofNat, BitVec.toNat_ofNat, Nat.mod_eq_of_lt (by omega), Nat.mod_eq_of_lt (by omega), Nat.or_comm, ← Nat.two_pow_add_eq_or_of_lt hx]
  omega
theorem or_add64 (a b : Int) (a0 : 0 ≤ a) (b0 : 0 ≤ b) (ha : a < 256) (h : b < 256) : bits .or .i64 a (b * 256) = a + b * 256 := by
  obtain ⟨x, rfl⟩ := Int.eq_ofNat_of_zero_le a0
  obtain ⟨y, rfl⟩ := Int.eq_ofNat_of_zero_le b0
  show IntKind.i64.wrap ((BitVec.ofInt 64 (x : Int) ||| BitVec.ofInt 64 ((y : Int) * 256)).toNat : Int) = _
  rw [show (y : Int) * 256 = ((2 ^ 8 * y : Nat) : Int) by omega, BitVec.ofInt_natCast, BitVec.ofInt_natCast, BitVec.toNat_or, BitVec.toNat_ofNat, BitVec.toNat_ofNat, Nat.mod_eq_of_lt (by omega), Nat.mod_eq_of_lt (by omega), Nat.or_comm, ← Nat.two_pow_add_eq_or_of_lt (by omega)]
  rw [IntWalk.i64_in _ (by omega)]; omega
theorem or32_4 (a b c d : Int) (a0 : 0 ≤ a) (b0 : 0 ≤ b) (c0 : 0 ≤ c) (d0 : 0 ≤ d) (a1 : a < 256) (b1 : b < 256) (c1 : c < 256) (d1 : d < 256) :
    bits .or .u32 (bits .or .u32 (bits .or .u32 a (b * 256)) (c * 65536)) (d * 16777216) = a + b * 256 + c * 65536 + d * 16777216 := by
  have h1 := or_add 8 a b a0 b0 (by omega) (by omega)
  have h2 := or_add 16 (a + b * 256) c (by omega) c0 (by omega) (by omega)
  have h3 := or_add 24 (a + b * 256 + c * 65536) d (by omega) d0 (by omega) (by omega)
  simp only [show ((2 ^ 8 : Nat) : Int) = 256 from rfl, show ((2 ^ 16 : Nat) : Int) = 65536 from rfl, show ((2 ^ 24 : Nat) : Int) = 16777216 from rfl] at h1 h2 h3
  rw [h1, h2, h3]
set_option maxHeartbeats 400000 in
theorem get32_core (b off n c : Nat) (x0 x1 x2 x3 : Int) (w : World) 
   (h0 : w.cell? ⟨b, off, none⟩ = some (.int .u8 x0)) (h1 : w.cell? ⟨b, off + 1, none⟩ = some (.int .u8 x1)) (h2 : w.cell? ⟨b, off + 2, none⟩ = some (.int .u8 x2)) (h3 : w.cell? ⟨b, off + 3, none⟩ = some (.int .u8 x3))
   (a0 : 0 ≤ x0) (a1 : 0 ≤ x1) (a2 : 0 ≤ x2) (a3 : 0 ≤ x3) (b0 : x0 < 256) (b1 : x1 < 256) (b2 : x2 < 256) (b3 : x3 < 256) (g : 4 ≤ (n : Int)) :
    Calls Try.prog 40 #[.slice (some ⟨b, off, none⟩) n c] w fun e w' => e = .returned (.tuple #[.int .u32 (x0 + x1 * 256 + x2 * 65536 + x3 * 16777216), .bool true]) ∧ ∃ m, w' = w.drewN m := by
  go_enter Try.func40, Try.ntmps40
  go_wp2
  go_quiet (fail)
  go_wp2
  go_ret2
  exact ⟨ret2 (intEq (or32_4 _ _ _ _ a0 a1 a2 a3 b0 b1 b2 b3)) rfl, _, rfl⟩
theorem bs4 {w : World} {B : Nat} {A : Option Addr} {n : Nat} {u0 u1 u2 u3 : UInt8} {l : List UInt8} (hbs : Bs w B A n (u0 :: u1 :: u2 :: u3 :: l)) :
    4 ≤ (n : Int) ∧ ∃ b off, A = some ⟨b, off, none⟩ ∧ w.cell? ⟨b, off, none⟩ = some (.int .u8 u0.toNat) ∧ w.cell? ⟨b, off + 1, none⟩ = some (.int .u8 u1.toNat) ∧ w.cell? ⟨b, off + 2, none⟩ = some (.int .u8 u2.toNat) ∧ w.cell? ⟨b, off + 3, none⟩ = some (.int .u8 u3.toNat) := by
  have hlen := hbs.len
  simp only [List.length_cons] at hlen
  obtain ⟨b, off, rfl, _, hc⟩ := hbs.place (by omega)
  exact ⟨by omega, b, off, rfl, hc 0 u0 rfl, hc 1 u1 rfl, hc 2 u2 rfl, hc 3 u3 rfl⟩
theorem bs2 {w : World} {B : Nat} {A : Option Addr} {n : Nat} {u0 u1 : UInt8} {l : List UInt8} (hbs : Bs w B A n (u0 :: u1 :: l)) :
    2 ≤ (n : Int) ∧ ∃ b off, A = some ⟨b, off, none⟩ ∧ w.cell? ⟨b, off, none⟩ = some (.int .u8 u0.toNat) ∧ w.cell? ⟨b, off + 1, none⟩ = some (.int .u8 u1.toNat) := by
  have hlen := hbs.len
  simp only [List.length_cons] at hlen
  obtain ⟨b, off, rfl, _, hc⟩ := hbs.place (by omega)
  exact ⟨by omega, b, off, rfl, hc 0 u0 rfl, hc 1 u1 rfl⟩
set_option maxHeartbeats 400000 in
theorem get32_no (A : Option Addr) (n c : Nat) (w : World) (h : (n : Int) < 4) :
    Calls Try.prog 40 #[.slice A n c] w fun e w' => e = .returned (.tuple #[.int .u32 0, .bool false]) ∧ ∃ m, w' = w.drewN m := by
  go_enter Try.func40, Try.ntmps40
  go_wp2
  go_ret2
  exact ⟨rfl, 0, rfl⟩
theorem g32_any (f : Nat) (yes : ∀ (b off n c : Nat) (x0 x1 x2 x3 : Int) (w : World), w.cell? ⟨b, off, none⟩ = some (.int .u8 x0) → w.cell? ⟨b, off + 1, none⟩ = some (.int .u8 x1) → w.cell? ⟨b, off + 2, none⟩ = some (.int .u8 x2) → w.cell? ⟨b, off + 3, none⟩ = some (.int .u8 x3) →
      0 ≤ x0 → 0 ≤ x1 → 0 ≤ x2 → 0 ≤ x3 → x0 < 256 → x1 < 256 → x2 < 256 → x3 < 256 → 4 ≤ (n : Int) → Calls Try.prog f #[.slice (some ⟨b, off, none⟩) n c] w fun e w' => e = .returned (.tuple #[.int .u32 (x0 + x1 * 256 + x2 * 65536 + x3 * 16777216), .bool true]) ∧ ∃ m, w' = w.drewN m)
    (no : ∀ (A : Option Addr) (n c : Nat) (w : World), (n : Int) < 4 → Calls Try.prog f #[.slice A n c] w fun e w' => e = .returned (.tuple #[.int .u32 0, .bool false]) ∧ ∃ m, w' = w.drewN m)
    (A : Option Addr) (n c : Nat) (l : List UInt8) (w : World) (B : Nat) (hbs : Bs w B A n l) :
    Calls Try.prog f #[.slice A n c] w fun e w' => e = .returned (.tuple #[.int .u32 (g32 l).1, .bool (g32 l).2]) ∧ ∃ m, w' = w.drewN m := by
  have hl := hbs.len
  match l, hbs, hl with
  | [], _, hl => exact no A n c w (by simp at hl; omega)
  | [_], _, hl => exact no A n c w (by simp at hl; omega)
  | [_, _], _, hl => exact no A n c w (by simp at hl; omega)
  | [_, _, _], _, hl => exact no A n c w (by simp at hl; omega)
  | u0 :: u1 :: u2 :: u3 :: l, hbs, _ =>
    obtain ⟨hn, b, off, rfl, h0, h1, h2, h3⟩ := bs4 hbs
    exact yes b off n c _ _ _ _ w h0 h1 h2 h3 (by omega) (by omega) (by omega) (by omega) (byte_lt u0) (byte_lt u1) (byte_lt u2) (byte_lt u3) hn
theorem get32_any (A : Option Addr) (n c : Nat) (l : List UInt8) (w : World) (B : Nat) (hbs : Bs w B A n l) :
    Calls Try.prog 40 #[.slice A n c] w fun e w' => e = .returned (.tuple #[.int .u32 (g32 l).1, .bool (g32 l).2]) ∧ ∃ m, w' = w.drewN m := g32_any 40 get32_core get32_no A n c l w B hbs
theorem g16_any (f : Nat) (yes : ∀ (b off n c : Nat) (x0 x1 : Int) (w : World), w.cell? ⟨b, off, none⟩ = some (.int .u8 x0) → w.cell? ⟨b, off + 1, none⟩ = some (.int .u8 x1) →
      0 ≤ x0 → 0 ≤ x1 → x0 < 256 → x1 < 256 → 2 ≤ (n : Int) → Calls Try.prog f #[.slice (some ⟨b, off, none⟩) n c] w fun e w' => e = .returned (.tuple #[.int .i64 (x0 + x1 * 256), .bool true]) ∧ ∃ m, w' = w.drewN m)
    (no : ∀ (A : Option Addr) (n c : Nat) (w : World), (n : Int) < 2 → Calls Try.prog f #[.slice A n c] w fun e w' => e = .returned (.tuple #[.int .i64 0, .bool false]) ∧ ∃ m, w' = w.drewN m)
    (A : Option Addr) (n c : Nat) (l : List UInt8) (w : World) (B : Nat) (hbs : Bs w B A n l) :
    Calls Try.prog f #[.slice A n c] w fun e w' => e = .returned (.tuple #[.int .i64 (g16 l).1, .bool (g16 l).2]) ∧ ∃ m, w' = w.drewN m := by
  have hl := hbs.len
  match l, hbs, hl with
  | [], _, hl => exact no A n c w (by simp at hl; omega)
  | [_], _, hl => exact no A n c w (by simp at hl; omega)
  | u0 :: u1 :: l, hbs, _ =>
    obtain ⟨hn, b, off, rfl, h0, h1⟩ := bs2 hbs
    exact yes b off n c _ _ w h0 h1 (by omega) (by omega) (byte_lt u0) (byte_lt u1) hn
/-- The lowest byte of a number. -/
def ob (x : Int) : UInt8 := UInt8.ofNat (x % 256).toNat
theorem ob_val (x : Int) : ((ob x).toNat : Int) = x % 256 := by
  unfold ob
  simp only [UInt8.toNat_ofNat']
  omega
theorem Bs.lit (w : World) (e : TypeId) (cs : Array Value) (l : List UInt8) (h : cs.toList = U8 l) : Bs (w.alloc (.cells cs e)) (w.heap.size + 1) (some ⟨w.heap.size, 0, none⟩) l.length l := by
  have : cs = (U8 l).toArray := by rw [← h]
  rw [this]
  exact Bs.new_ w e l (0, 0)
def p32 (x : Int) : List UInt8 := [ob x, ob (x / 256), ob (x / 65536), ob (x / 16777216)]
def p16 (x : Int) : List UInt8 := [ob x, ob (x / 256)]
theorem p32_cells (x : Int) : (#[Value.int .u8 (x % 256), Value.int .u8 (x / 256 % 256), Value.int .u8 (x / 65536 % 256), Value.int .u8 (x / 16777216 % 256)] : Array Value).toList = U8 (p32 x) := by simp [U8, p32, ob_val]
theorem p16_cells (x : Int) : (#[Value.int .u8 (x % 256), Value.int .u8 (x / 256 % 256)] : Array Value).toList = U8 (p16 x) := by simp [U8, p16, ob_val]
theorem p32_cells' (x : Int) (h0 : 0 ≤ x) (h1 : x < 4294967296) : (#[Value.int .u8 (x % 256), Value.int .u8 (x / 256 % 256), Value.int .u8 (x / 65536 % 256), Value.int .u8 (x / 16777216)] : Array Value).toList = U8 (p32 x) := by
  have : x / 16777216 % 256 = x / 16777216 := by omega
  simp [U8, p32, ob_val, this]
theorem and255 (x : Int) : bits .and .i64 x 255 % 256 = x % 256 := by
  show IntKind.i64.wrap ((BitVec.ofInt 64 x &&& BitVec.ofInt 64 255).toNat : Int) % 256 = x % 256
  rw [BitVec.toNat_and, show (BitVec.ofInt 64 255).toNat = 2 ^ 8 - 1 from rfl, Nat.and_two_pow_sub_one_eq_mod, BitVec.toNat_ofInt, IntWalk.i64_in _ (by omega)]
  omega
theorem rp16_cells (x : Int) : (#[Value.int .u8 (bits .and .i64 x 255 % 256), Value.int .u8 (bits .and .i64 (x / 256) 255 % 256)] : Array Value).toList = U8 (p16 x) := by simp [U8, p16, ob_val, and255]
/-- What is left of a number when its k lowest bytes are gone. -/
def dv (x : Int) (k : Nat) : Int := x / 256 ^ k
theorem dv_succ (x : Int) (k : Nat) : dv x k / 256 = dv x (k + 1) := by
  unfold dv; rw [Int.pow_succ, Int.ediv_ediv_of_nonneg (Int.pow_nonneg (by decide))]
theorem dv_zero (x : Int) : dv x 0 = x := by simp [dv]
theorem dv_bd (x : Int) (k : Nat) (h0 : 0 ≤ x) (h1 : x < 4294967296) : 0 ≤ dv x k ∧ dv x k < 4294967296 := by
  induction k with
  | zero => rw [dv_zero]; exact ⟨h0, h1⟩
  | succ k ih => rw [← dv_succ]; omega
theorem dv_cells (x : Int) (k : Nat) : (#[Value.int .u8 (dv x k % 256)] : Array Value).toList = U8 [ob (dv x k)] := by simp [U8, ob_val]
theorem p32_take (x : Int) (k : Nat) (h : k < 4) : (p32 x).take (k + 1) = (p32 x).take k ++ [ob (dv x k)] := by
  have : k = 0 ∨ k = 1 ∨ k = 2 ∨ k = 3 := by omega
  rcases this with rfl | rfl | rfl | rfl <;> simp [p32, dv]
set_option maxHeartbeats 400000 in
theorem withRoom_any (A : Option Addr) (n c m : Nat) (l : List UInt8) (w : World) (B : Nat) (hbs : Bs w B A n l) (hB : B ≤ w.heap.size) (hn : (n : Int) ≤ 65536) (hm : (m : Int) ≤ 65536) :
    Calls Try.prog 68 #[.slice A n c, .int .i64 (m : Int)] w (RetOwn 5 l w) := by
  obtain ⟨i0, hi0, hz0, hz1, hz2⟩ := info_parts info_u8
  have hlen := Lib.hid hbs.len
  go_enter Try.func68, Try.ntmps68
  go_wp2_with (first
    | (at_make; refine wpList_make_own _ rfl _ _ 35 rfl w.heap.size 5 i0 _ 1 Try.underlying35 hi0 hz0 hz1 _ _ _ (n + m) rfl rfl (by omega) (by rw [hz2]; omega) (by simp only [maxLen]; omega) (Nat.le_refl _) ?_; intro w1 hown1 hg1)
    | (at_builtin; refine wpList_append_bs _ rfl (.tmp 9) (.tmp 10) 35 rfl w.heap.size 5 i0 Try.underlying35 hi0 hz0 hz1 hz2 _ 0 _ rfl hown1 B A n _ l rfl (hbs.grown hg1 hB (fun _ h => by cases h)) (by omega) hg1.size ?_; intro v2 w2 hown2 hg2))
  go_ret
  refine ⟨_, rfl, by simpa [hlen.out] using hown2, ((Below.refl _ _).grown hg1 (Nat.le_refl _) (fun _ h => by cases h)).grown hg2 hg1.size (own_ge hown1)⟩
set_option maxHeartbeats 400000 in
theorem put32_any (A : Option Addr) (n c : Nat) (x : Int) (l : List UInt8) (w : World) (B : Nat) (hbs : Bs w B A n l) (hB : B ≤ w.heap.size) (hn : (n : Int) ≤ 65536) (h0 : 0 ≤ x) (h1 : x < 4294967296) :
    Calls Try.prog 56 #[.slice A n c, .int .u32 x] w (RetOwn 5 (l ++ p32 x) w) := by
  obtain ⟨i0, hi0, hz0, hz1, hz2⟩ := info_parts info_u8
  have hlen := Lib.hid hbs.len
  go_enter Try.func56, Try.ntmps56
  go_wp2_with fail
  refine (withRoom_any A n c 4 l w B hbs hB hn (by omega)).mono ?_
  rintro e w1 ⟨v, rfl, hown1, hb1⟩
  rw [hlen.out] at hown1
  have hs1 := hb1.size
  go_wp2_with (at_builtin; refine wpList_append_bs _ rfl (.tmp 6) (.tmp 18) 35 rfl w.heap.size 5 i0 Try.underlying35 hi0 hz0 hz1 hz2 _ n _ rfl (hown1.alloc _) (w1.heap.size + 1) _ 4 _ (p32 x) rfl (Bs.lit w1 5 _ (p32 x) (p32_cells' x h0 h1)) (by omega) (by simp; omega) ?_; intro v2 w2 hown2 hg2)
  go_ret
  exact ⟨_, rfl, by rw [U8_append]; simpa [hlen.out, p32] using hown2, (hb1.alloc hs1 _).grown hg2 (by simp; omega) (own_ge hown1)⟩
/-- The sum of bytes. -/
def sum (l : List UInt8) : BitVec 32 := ext 0#32 l
def ones : BitVec 32 := BitVec.allOnes 32
theorem sum_eq (l : List UInt8) : sum l = ~~~ crcOf ones l := by unfold sum ext; rfl
set_option maxHeartbeats 400000 in
theorem sum_any (A : Option Addr) (n c : Nat) (l : List UInt8) (w : World) (B : Nat) (hbs : Bs w B A n l) (hn : (n : Int) ≤ 9223372036854775807) :
    Calls Try.prog 60 #[.slice A n c] w fun e w' => e = .returned (.int .u32 ((sum l).toNat : Int)) ∧ w = w' := by
  go_enter Try.func60, Try.ntmps60
  go_wp2_with fail
  refine (extend_any 0#32 A n c l w B hbs hn).mono ?_
  rintro e w1 ⟨rfl, rfl⟩
  go_wp2
  go_ret
  exact ⟨rfl, rfl⟩
/-- The reference's round. -/
theorem rb_walk_ne (x : BitVec 32) (b : Bool) (h : b ≠ x.getLsbD 0) : bits .xor .u32 ((x.toNat : Int) / 2) 3988292384 = ((rb x b).toNat : Int) := by
  unfold rb
  rw [if_pos (by simpa using h), half32, xor32, of32]; rfl
theorem rb_walk_eq (x : BitVec 32) (b : Bool) (h : b = x.getLsbD 0) : ((x.toNat : Int) / 2) = ((rb x b).toNat : Int) := by
  unfold rb
  rw [if_neg (by simpa using h), half32]
theorem low_walk (x : BitVec 32) : bits .and .u32 (x.toNat : Int) 1 = if x.getLsbD 0 then 1 else 0 := by
  rw [and32, of32, BitVec.toNat_and, show (BitVec.ofInt 32 1).toNat = 2 ^ 1 - 1 from rfl, Nat.and_two_pow_sub_one_eq_mod, ← BitVec.testBit_toNat, Nat.testBit_zero]
  by_cases h : x.toNat % 2 = 1 <;> simp [h] <;> omega
theorem bit_walk (u : UInt8) (k : Nat) : bits .and .u32 ((u.toNat : Int) / (2 : Int) ^ k % 4294967296) 1 = if u.toNat.testBit k then 1 else 0 := by
  have hu := u.toNat_lt
  have h0 : u.toNat / 2 ^ k ≤ u.toNat := Nat.div_le_self _ _
  rw [show ((u.toNat : Int) / (2 : Int) ^ k) = ((u.toNat / 2 ^ k : Nat) : Int) by simp, and32, ofMod32, BitVec.toNat_and, show (BitVec.ofInt 32 1).toNat = 2 ^ 1 - 1 from rfl, Nat.and_two_pow_sub_one_eq_mod, BitVec.ofInt_natCast, BitVec.toNat_ofNat, Nat.testBit_eq_decide_div_mod_eq]
  generalize u.toNat / 2 ^ k = q at *
  rw [Nat.mod_eq_of_lt (show q < 2 ^ 32 by omega)]
  by_cases h : q % 2 = 1
  · simp [h]
  · simp [h]; omega
theorem test_walk (u : UInt8) (k : Nat) (x : BitVec 32) : (bits .and .u32 ((u.toNat : Int) / (2 : Int) ^ k % 4294967296) 1 != bits .and .u32 (x.toNat : Int) 1) = (u.toNat.testBit k != x.getLsbD 0) := by
  rw [bit_walk, low_walk]
  cases u.toNat.testBit k <;> cases x.getLsbD 0 <;> rfl
theorem take_crc' {l : List UInt8} {k : Nat} {u : UInt8} (r : BitVec 32) (h : l[k]? = some u) : crcOf r (l.take (k + 1)) = rbN 8 (crcOf r (l.take k)) u := by
  rw [take_crc r h, ← byte1_bits]; rfl
/-- Bytes with their sum behind. -/
def seals (l : List UInt8) : List UInt8 := l ++ p32 ((sum l).toNat : Int)
set_option maxHeartbeats 400000 in
theorem seal_any (A : Option Addr) (n c : Nat) (l : List UInt8) (w : World) (B : Nat) (hbs : Bs w B A n l) (hB : B ≤ w.heap.size) (hn : (n : Int) ≤ 65536) :
    Calls Try.prog 48 #[.slice A n c] w (RetOwn 5 (seals l) w) := by
  go_enter Try.func48, Try.ntmps48
  go_wp2_with fail
  refine (sum_any A n c l w B hbs (by omega)).mono ?_
  rintro e w1 ⟨rfl, rfl⟩
  go_wp2_with fail
  refine (put32_any A n c _ l w B hbs hB hn (by omega) (word_lt _)).mono ?_
  rintro e w1 ⟨v, rfl, h1, h2⟩
  go_wp2
  go_ret
  exact ⟨v, rfl, h1, h2⟩
/-- What stands ahead of its sum. -/
def opens (l : List UInt8) : Option (List UInt8) :=
  if l.length < 4 then none else if (g32 (l.drop (l.length - 4))).1 = ((sum (l.take (l.length - 4))).toNat : Int) then some (l.take (l.length - 4)) else none
def RetOpen (l : List UInt8) (w : World) (e : Ending) (w' : World) : Prop :=
  ∃ A n c, e = .returned (.tuple #[.slice A n c, .bool (opens l).isSome]) ∧ n ≤ c ∧ Bs w' w'.heap.size A n ((opens l).getD []) ∧ Below w.heap.size w w'
set_option maxHeartbeats 400000 in
theorem open_any (A : Option Addr) (n c : Nat) (l : List UInt8) (w : World) (B : Nat) (hbs : Bs w B A n l) (hB : B ≤ w.heap.size) (hn : (n : Int) ≤ 65536) (hc : n ≤ c) :
    Calls Try.prog 58 #[.slice A n c] w (RetOpen l w) := by
  have hlen := Lib.hid hbs.len
  by_cases h4 : n < 4
  · go_enter Try.func58, Try.ntmps58
    go_wp2
    go_ret2
    refine ⟨none, 0, 0, ret2 rfl ?_, Nat.le_refl _, ?_, Below.refl _ _⟩
    all_goals unfold opens; rw [if_pos (by rw [hlen.out]; exact h4)]
    · rfl
    · exact Bs.empty _ _ _
  · obtain ⟨b, off, rfl, hb, _⟩ := hbs.place (by omega)
    by_cases he : (g32 (l.drop (n - 4))).1 = ((sum (l.take (n - 4))).toNat : Int)
    · have ht : ((g32 (l.drop (n - 4))).1 != ((sum (l.take (n - 4))).toNat : Int)) = false := bne_eq_false_iff_eq.2 he
      have ho : Hid (opens l = some (l.take (n - 4))) := by unfold opens; rw [hlen.out, if_neg h4, if_pos he]; rfl
      clear he
      go_enter Try.func58, Try.ntmps58
      go_wp2_with fail
      refine (get32_any _ _ _ (l.drop (n - 4)) w B (hbs.drop_ (n - 4))).mono ?_
      rintro e w1 ⟨rfl, m, rfl⟩
      go_wp2_with fail
      refine (sum_any _ _ _ (l.take (n - 4)) _ B ((hbs.take_ (n - 4) (by omega)).drewN m) (by omega)).mono ?_
      rintro e w1 ⟨rfl, rfl⟩
      go_wp2_with fail
      refine (withRoom_any _ _ _ 0 (l.take (n - 4)) _ B ((hbs.take_ (n - 4) (by omega)).drewN m) hB (by omega) (by omega)).mono ?_
      intro e w1 hret
      obtain ⟨A', N, c', rfl, hc', hN, hbs', h2⟩ := hret.slice_
      clear hret
      go_wp2
      go_ret2
      rw [RetOpen, ho.out]
      exact ⟨_, _, _, ret2 rfl rfl, hc', hbs', (drewN_below w _ m).trans h2⟩
    · have ht : ((g32 (l.drop (n - 4))).1 != ((sum (l.take (n - 4))).toNat : Int)) = true := bne_iff_ne.2 he
      have ho : Hid (opens l = none) := by unfold opens; rw [hlen.out, if_neg h4, if_neg he]; rfl
      clear he
      go_enter Try.func58, Try.ntmps58
      go_wp2_with fail
      refine (get32_any _ _ _ (l.drop (n - 4)) w B (hbs.drop_ (n - 4))).mono ?_
      rintro e w1 ⟨rfl, m, rfl⟩
      go_wp2_with fail
      refine (sum_any _ _ _ (l.take (n - 4)) _ B ((hbs.take_ (n - 4) (by omega)).drewN m) (by omega)).mono ?_
      rintro e w1 ⟨rfl, rfl⟩
      go_wp2
      go_ret2
      rw [RetOpen, ho.out]
      exact ⟨_, _, _, ret2 rfl rfl, Nat.le_refl _, Bs.empty _ _ _, drewN_below w _ m⟩
end Go.Proofs.Ytpdlipkmojhnnaa
