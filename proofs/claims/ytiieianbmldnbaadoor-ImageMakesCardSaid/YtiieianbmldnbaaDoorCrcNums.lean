/-
  Numbers laid behind bytes and read from their beginning: a contract for each of package crc's functions and of those that they are held against.
-/
import Derived.Test.YtiieianbmldnbaaDoorCrcWalks
import Derived.Test.YtiieianbmldnbaaDoorShaTurn
namespace Go.Proofs.YtiieianbmldnbaaDoor
open Go.RowKit
set_option maxRecDepth 100000
theorem ret2 {a b a' b' : Value} (h : a = a') (h' : b = b') : Ending.returned (.tuple #[a, b]) = .returned (.tuple #[a', b']) := by rw [h, h']
/-- The number of the first four bytes; is there one? -/
def g32 : List UInt8 → Int × Bool
  | a :: b :: c :: d :: _ => ((a.toNat : Int) + b.toNat * 256 + c.toNat * 65536 + d.toNat * 16777216, true)
  | _ => (0, false)
def g16 : List UInt8 → Int × Bool
  | a :: b :: _ => ((a.toNat : Int) + b.toNat * 256, true)
  | _ => (0, false)
theorem or_add (k : Nat) (a b : Int) (a0 : 0 ≤ a) (b0 : 0 ≤ b) (ha : a < ((2 ^ k : Nat) : Int)) (h : a + b * ((2 ^ k : Nat) : Int) < 4294967296) : bits .or .u32 a (b * ((2 ^ k : Nat) : Int)) = a + b * ((2 ^ k : Nat) : Int) := by
  obtain ⟨x, rfl⟩ := Int.eq_ofNat_of_zero_le a0
  obtain ⟨y, rfl⟩ := Int.eq_ofNat_of_zero_le b0
  rw [show (y : Int) * ((2 ^ k : Nat) : Int) = ((2 ^ k * y : Nat) : Int) by rw [Int.natCast_mul, Int.mul_comm]] at h ⊢
  have hx : x < 2 ^ k := by exact_mod_cast ha
  have hs : 2 ^ k * y + x < 4294967296 := by omega
  rw [or32, BitVec.ofInt_natCast, BitVec.ofInt_natCast, BitVec.toNat_or, BitVec.toNat_ofNat, BitVec.toNat_ofNat, Nat.mod_eq_of_lt (by omega), Nat.mod_eq_of_lt (by omega), Nat.or_comm, ← Nat.two_pow_add_eq_or_of_lt hx]
  omega
theorem or_add64 (a b : Int) (a0 : 0 ≤ a) (b0 : 0 ≤ b) (ha : a < 256) (h : b < 256) : bits .or .i64 a (b * 256) = a + b * 256 := by
  obtain ⟨x, rfl⟩ := Int.eq_ofNat_of_zero_le a0
  obtain ⟨y, rfl⟩ := Int.eq_ofNat_of_zero_le b0
  show IntKind.i64.wrap ((BitVec.ofInt 64 (x : Int) ||| BitVec.ofInt 64 ((y : Int) * 256)).toNat : Int) = _
  rw [show (y : Int) * 256 = ((2 ^ 8 * y : Nat) : Int) by omega, BitVec.ofInt_natCast, BitVec.ofInt_natCast, BitVec.toNat_or, BitVec.toNat_ofNat, BitVec.toNat_ofNat, Nat.mod_eq_of_lt (by omega), Nat.mod_eq_of_lt (by omega), Nat.or_comm, ← Nat.two_pow_add_eq_or_of_lt (by omega)]
  rw [IntWalk.i64_in _ (by omega)]; omega
theorem or32_4 (a b c d : Int) (a0 : 0 ≤ a) (b0 : 0 ≤ b) (c0 : 0 ≤ c) (d0 : 0 ≤ d) (a1 : a < 256) (b1 : b < 256) (c1 : c < 256) (d1 : d < 256) :
    bits .or .u32 (bits .or .u32 (bits .or .u32 a (b * 256)) (c * 65536)) (d * 16777216) = a + b * 256 + c * 65536 + d * 16777216 := by
  have h1 := or_add 8 a b a0 b0 (by omega) (by omega)
  have h2 := or_add 16 (a + b * 256) c (by omega) c0 (by omega) (by omega)
  have h3 := or_add 24 (a + b * 256 + c * 65536) d (by omega) d0 (by omega) (by omega)
  simp only [show ((2 ^ 8 : Nat) : Int) = 256 from rfl, show ((2 ^ 16 : Nat) : Int) = 65536 from rfl, show ((2 ^ 24 : Nat) : Int) = 16777216 from rfl] at h1 h2 h3
  rw [h1, h2, h3]
set_option maxHeartbeats 400000 in
theorem get32_core (b off n c : Nat) (x0 x1 x2 x3 : Int) (w : World) 
   (h0 : w.cell? ⟨b, off, none⟩ = some (.int .u8 x0)) (h1 : w.cell? ⟨b, off + 1, none⟩ = some (.int .u8 x1)) (h2 : w.cell? ⟨b, off + 2, none⟩ = some (.int .u8 x2)) (h3 : w.cell? ⟨b, off + 3, none⟩ = some (.int .u8 x3))
   (a0 : 0 ≤ x0) (a1 : 0 ≤ x1) (a2 : 0 ≤ x2) (a3 : 0 ≤ x3) (b0 : x0 < 256) (b1 : x1 < 256) (b2 : x2 < 256) (b3 : x3 < 256) (g : 4 ≤ (n : Int)) :
    Calls Tryd.prog 31 #[.slice (some ⟨b, off, none⟩) n c] w fun e w' => e = .returned (.tuple #[.int .u32 (x0 + x1 * 256 + x2 * 65536 + x3 * 16777216), .bool true]) ∧ ∃ m, w' = w.drewN m := by
  go_enter Tryd.func31, Tryd.ntmps31
  go_wp2
  go_quiet (fail)
  go_wp2
  go_ret2
  exact ⟨ret2 (intEq (or32_4 _ _ _ _ a0 a1 a2 a3 b0 b1 b2 b3)) rfl, _, rfl⟩
set_option maxHeartbeats 400000 in
theorem rget32_core (b off n c : Nat) (x0 x1 x2 x3 : Int) (w : World) 
   (h0 : w.cell? ⟨b, off, none⟩ = some (.int .u8 x0)) (h1 : w.cell? ⟨b, off + 1, none⟩ = some (.int .u8 x1)) (h2 : w.cell? ⟨b, off + 2, none⟩ = some (.int .u8 x2)) (h3 : w.cell? ⟨b, off + 3, none⟩ = some (.int .u8 x3))
   (a0 : 0 ≤ x0) (a1 : 0 ≤ x1) (a2 : 0 ≤ x2) (a3 : 0 ≤ x3) (b0 : x0 < 256) (b1 : x1 < 256) (b2 : x2 < 256) (b3 : x3 < 256) (g : 4 ≤ (n : Int)) :
    Calls Tryd.prog 34 #[.slice (some ⟨b, off, none⟩) n c] w fun e w' => e = .returned (.tuple #[.int .u32 (x0 + x1 * 256 + x2 * 65536 + x3 * 16777216), .bool true]) ∧ ∃ m, w' = w.drewN m := by
  go_enter Tryd.func34, Tryd.ntmps34
  go_wp2
  go_quiet (fail)
  go_wp2
  go_ret2
  exact ⟨ret2 rfl rfl, _, rfl⟩
theorem bs4 {w : World} {B : Nat} {A : Option Addr} {n : Nat} {u0 u1 u2 u3 : UInt8} {l : List UInt8} (hbs : Bs w B A n (u0 :: u1 :: u2 :: u3 :: l)) :
    4 ≤ (n : Int) ∧ ∃ b off, A = some ⟨b, off, none⟩ ∧ w.cell? ⟨b, off, none⟩ = some (.int .u8 u0.toNat) ∧ w.cell? ⟨b, off + 1, none⟩ = some (.int .u8 u1.toNat) ∧ w.cell? ⟨b, off + 2, none⟩ = some (.int .u8 u2.toNat) ∧ w.cell? ⟨b, off + 3, none⟩ = some (.int .u8 u3.toNat) := by
  have hlen := hbs.len
  simp only [List.length_cons] at hlen
  obtain ⟨b, off, rfl, _, hc⟩ := hbs.place (by omega)
  exact ⟨by omega, b, off, rfl, hc 0 u0 rfl, hc 1 u1 rfl, hc 2 u2 rfl, hc 3 u3 rfl⟩
theorem bs2 {w : World} {B : Nat} {A : Option Addr} {n : Nat} {u0 u1 : UInt8} {l : List UInt8} (hbs : Bs w B A n (u0 :: u1 :: l)) :
    2 ≤ (n : Int) ∧ ∃ b off, A = some ⟨b, off, none⟩ ∧ w.cell? ⟨b, off, none⟩ = some (.int .u8 u0.toNat) ∧ w.cell? ⟨b, off + 1, none⟩ = some (.int .u8 u1.toNat) := by
  have hlen := hbs.len
  simp only [List.length_cons] at hlen
  obtain ⟨b, off, rfl, _, hc⟩ := hbs.place (by omega)
  exact ⟨by omega, b, off, rfl, hc 0 u0 rfl, hc 1 u1 rfl⟩
set_option maxHeartbeats 400000 in
theorem get32_no (A : Option Addr) (n c : Nat) (w : World) (h : (n : Int) < 4) :
    Calls Tryd.prog 31 #[.slice A n c] w fun e w' => e = .returned (.tuple #[.int .u32 0, .bool false]) ∧ ∃ m, w' = w.drewN m := by
  go_enter Tryd.func31, Tryd.ntmps31
  go_wp2
  go_ret2
  exact ⟨rfl, 0, rfl⟩
set_option maxHeartbeats 400000 in
theorem rget32_no (A : Option Addr) (n c : Nat) (w : World) (h : (n : Int) < 4) :
    Calls Tryd.prog 34 #[.slice A n c] w fun e w' => e = .returned (.tuple #[.int .u32 0, .bool false]) ∧ ∃ m, w' = w.drewN m := by
  go_enter Tryd.func34, Tryd.ntmps34
  go_wp2
  go_ret2
  exact ⟨rfl, 0, rfl⟩
theorem g32_any (f : Nat) (yes : ∀ (b off n c : Nat) (x0 x1 x2 x3 : Int) (w : World), w.cell? ⟨b, off, none⟩ = some (.int .u8 x0) → w.cell? ⟨b, off + 1, none⟩ = some (.int .u8 x1) → w.cell? ⟨b, off + 2, none⟩ = some (.int .u8 x2) → w.cell? ⟨b, off + 3, none⟩ = some (.int .u8 x3) →
      0 ≤ x0 → 0 ≤ x1 → 0 ≤ x2 → 0 ≤ x3 → x0 < 256 → x1 < 256 → x2 < 256 → x3 < 256 → 4 ≤ (n : Int) → Calls Tryd.prog f #[.slice (some ⟨b, off, none⟩) n c] w fun e w' => e = .returned (.tuple #[.int .u32 (x0 + x1 * 256 + x2 * 65536 + x3 * 16777216), .bool true]) ∧ ∃ m, w' = w.drewN m)
    (no : ∀ (A : Option Addr) (n c : Nat) (w : World), (n : Int) < 4 → Calls Tryd.prog f #[.slice A n c] w fun e w' => e = .returned (.tuple #[.int .u32 0, .bool false]) ∧ ∃ m, w' = w.drewN m)
    (A : Option Addr) (n c : Nat) (l : List UInt8) (w : World) (B : Nat) (hbs : Bs w B A n l) :
    Calls Tryd.prog f #[.slice A n c] w fun e w' => e = .returned (.tuple #[.int .u32 (g32 l).1, .bool (g32 l).2]) ∧ ∃ m, w' = w.drewN m := by
  have hl := hbs.len
  match l, hbs, hl with
  | [], _, hl => exact no A n c w (by simp at hl; omega)
  | [_], _, hl => exact no A n c w (by simp at hl; omega)
  | [_, _], _, hl => exact no A n c w (by simp at hl; omega)
  | [_, _, _], _, hl => exact no A n c w (by simp at hl; omega)
  | u0 :: u1 :: u2 :: u3 :: l, hbs, _ =>
    obtain ⟨hn, b, off, rfl, h0, h1, h2, h3⟩ := bs4 hbs
    exact yes b off n c _ _ _ _ w h0 h1 h2 h3 (by omega) (by omega) (by omega) (by omega) (byte_lt u0) (byte_lt u1) (byte_lt u2) (byte_lt u3) hn
theorem get32_any (A : Option Addr) (n c : Nat) (l : List UInt8) (w : World) (B : Nat) (hbs : Bs w B A n l) :
    Calls Tryd.prog 31 #[.slice A n c] w fun e w' => e = .returned (.tuple #[.int .u32 (g32 l).1, .bool (g32 l).2]) ∧ ∃ m, w' = w.drewN m := g32_any 31 get32_core get32_no A n c l w B hbs
theorem rget32_any (A : Option Addr) (n c : Nat) (l : List UInt8) (w : World) (B : Nat) (hbs : Bs w B A n l) :
    Calls Tryd.prog 34 #[.slice A n c] w fun e w' => e = .returned (.tuple #[.int .u32 (g32 l).1, .bool (g32 l).2]) ∧ ∃ m, w' = w.drewN m := g32_any 34 rget32_core rget32_no A n c l w B hbs
theorem g16_any (f : Nat) (yes : ∀ (b off n c : Nat) (x0 x1 : Int) (w : World), w.cell? ⟨b, off, none⟩ = some (.int .u8 x0) → w.cell? ⟨b, off + 1, none⟩ = some (.int .u8 x1) →
      0 ≤ x0 → 0 ≤ x1 → x0 < 256 → x1 < 256 → 2 ≤ (n : Int) → Calls Tryd.prog f #[.slice (some ⟨b, off, none⟩) n c] w fun e w' => e = .returned (.tuple #[.int .i64 (x0 + x1 * 256), .bool true]) ∧ ∃ m, w' = w.drewN m)
    (no : ∀ (A : Option Addr) (n c : Nat) (w : World), (n : Int) < 2 → Calls Tryd.prog f #[.slice A n c] w fun e w' => e = .returned (.tuple #[.int .i64 0, .bool false]) ∧ ∃ m, w' = w.drewN m)
    (A : Option Addr) (n c : Nat) (l : List UInt8) (w : World) (B : Nat) (hbs : Bs w B A n l) :
    Calls Tryd.prog f #[.slice A n c] w fun e w' => e = .returned (.tuple #[.int .i64 (g16 l).1, .bool (g16 l).2]) ∧ ∃ m, w' = w.drewN m := by
  have hl := hbs.len
  match l, hbs, hl with
  | [], _, hl => exact no A n c w (by simp at hl; omega)
  | [_], _, hl => exact no A n c w (by simp at hl; omega)
  | u0 :: u1 :: l, hbs, _ =>
    obtain ⟨hn, b, off, rfl, h0, h1⟩ := bs2 hbs
    exact yes b off n c _ _ w h0 h1 (by omega) (by omega) (byte_lt u0) (byte_lt u1) hn
/-- The lowest byte of a number. -/
def ob (x : Int) : UInt8 := UInt8.ofNat (x % 256).toNat
theorem ob_val (x : Int) : ((ob x).toNat : Int) = x % 256 := by
  unfold ob
  simp only [UInt8.toNat_ofNat']
  omega
theorem Bs.lit (w : World) (e : TypeId) (cs : Array Value) (l : List UInt8) (h : cs.toList = U8 l) : Bs (w.alloc (.cells cs e)) (w.heap.size + 1) (some ⟨w.heap.size, 0, none⟩) l.length l := by
  have : cs = (U8 l).toArray := by rw [← h]
  rw [this]
  exact Bs.new_ w e l (0, 0)
def p32 (x : Int) : List UInt8 := [ob x, ob (x / 256), ob (x / 65536), ob (x / 16777216)]
def p16 (x : Int) : List UInt8 := [ob x, ob (x / 256)]
theorem p32_cells (x : Int) : (#[Value.int .u8 (x % 256), Value.int .u8 (x / 256 % 256), Value.int .u8 (x / 65536 % 256), Value.int .u8 (x / 16777216 % 256)] : Array Value).toList = U8 (p32 x) := by simp [U8, p32, ob_val]
theorem p16_cells (x : Int) : (#[Value.int .u8 (x % 256), Value.int .u8 (x / 256 % 256)] : Array Value).toList = U8 (p16 x) := by simp [U8, p16, ob_val]
theorem p32_cells' (x : Int) (h0 : 0 ≤ x) (h1 : x < 4294967296) : (#[Value.int .u8 (x % 256), Value.int .u8 (x / 256 % 256), Value.int .u8 (x / 65536 % 256), Value.int .u8 (x / 16777216)] : Array Value).toList = U8 (p32 x) := by
  have : x / 16777216 % 256 = x / 16777216 := by omega
  simp [U8, p32, ob_val, this]
theorem and255 (x : Int) : bits .and .i64 x 255 % 256 = x % 256 := by
  show IntKind.i64.wrap ((BitVec.ofInt 64 x &&& BitVec.ofInt 64 255).toNat : Int) % 256 = x % 256
  rw [BitVec.toNat_and, show (BitVec.ofInt 64 255).toNat = 2 ^ 8 - 1 from rfl, Nat.and_two_pow_sub_one_eq_mod, BitVec.toNat_ofInt, IntWalk.i64_in _ (by omega)]
  omega
theorem rp16_cells (x : Int) : (#[Value.int .u8 (bits .and .i64 x 255 % 256), Value.int .u8 (bits .and .i64 (x / 256) 255 % 256)] : Array Value).toList = U8 (p16 x) := by simp [U8, p16, ob_val, and255]
/-- What is left of a number when its k lowest bytes are gone. -/
def dv (x : Int) (k : Nat) : Int := x / 256 ^ k
theorem dv_succ (x : Int) (k : Nat) : dv x k / 256 = dv x (k + 1) := by
  unfold dv; rw [Int.pow_succ, Int.ediv_ediv_of_nonneg (Int.pow_nonneg (by decide))]
theorem dv_zero (x : Int) : dv x 0 = x := by simp [dv]
theorem dv_bd (x : Int) (k : Nat) (h0 : 0 ≤ x) (h1 : x < 4294967296) : 0 ≤ dv x k ∧ dv x k < 4294967296 := by
  induction k with
  | zero => rw [dv_zero]; exact ⟨h0, h1⟩
  | succ k ih => rw [← dv_succ]; omega
theorem dv_cells (x : Int) (k : Nat) : (#[Value.int .u8 (dv x k % 256)] : Array Value).toList = U8 [ob (dv x k)] := by simp [U8, ob_val]
theorem p32_take (x : Int) (k : Nat) (h : k < 4) : (p32 x).take (k + 1) = (p32 x).take k ++ [ob (dv x k)] := by
  have : k = 0 ∨ k = 1 ∨ k = 2 ∨ k = 3 := by omega
  rcases this with rfl | rfl | rfl | rfl <;> simp [p32, dv]
set_option maxHeartbeats 400000 in
theorem withRoom_any (A : Option Addr) (n c m : Nat) (l : List UInt8) (w : World) (B : Nat) (hbs : Bs w B A n l) (hB : B ≤ w.heap.size) (hn : (n : Int) ≤ 65536) (hm : (m : Int) ≤ 65536) :
    Calls Tryd.prog 40 #[.slice A n c, .int .i64 (m : Int)] w (RetOwn 5 l w) := by
  obtain ⟨i0, hi0, hz0, hz1, hz2⟩ := info_parts info_u8
  have hlen := Lib.hid hbs.len
  go_enter Tryd.func40, Tryd.ntmps40
  go_wp2_with (first
    | (at_make; refine wpList_make_own _ rfl _ _ 26 rfl w.heap.size 5 i0 _ 1 Tryd.underlying26 hi0 hz0 hz1 _ _ _ (n + m) rfl rfl (by omega) (by rw [hz2]; omega) (by simp only [maxLen]; omega) (Nat.le_refl _) ?_; intro w1 hown1 hg1)
    | (at_builtin; refine wpList_append_bs _ rfl (.tmp 9) (.tmp 10) 26 rfl w.heap.size 5 i0 Tryd.underlying26 hi0 hz0 hz1 hz2 _ 0 _ rfl hown1 B A n _ l rfl (hbs.grown hg1 hB (fun _ h => by cases h)) (by omega) hg1.size ?_; intro v2 w2 hown2 hg2))
  go_ret
  refine ⟨_, rfl, by simpa [hlen.out] using hown2, ((Below.refl _ _).grown hg1 (Nat.le_refl _) (fun _ h => by cases h)).grown hg2 hg1.size (own_ge hown1)⟩
set_option maxHeartbeats 400000 in
theorem put32_any (A : Option Addr) (n c : Nat) (x : Int) (l : List UInt8) (w : World) (B : Nat) (hbs : Bs w B A n l) (hB : B ≤ w.heap.size) (hn : (n : Int) ≤ 65536) (h0 : 0 ≤ x) (h1 : x < 4294967296) :
    Calls Tryd.prog 25 #[.slice A n c, .int .u32 x] w (RetOwn 5 (l ++ p32 x) w) := by
  obtain ⟨i0, hi0, hz0, hz1, hz2⟩ := info_parts info_u8
  have hlen := Lib.hid hbs.len
  go_enter Tryd.func25, Tryd.ntmps25
  go_wp2_with fail
  refine (withRoom_any A n c 4 l w B hbs hB hn (by omega)).mono ?_
  rintro e w1 ⟨v, rfl, hown1, hb1⟩
  rw [hlen.out] at hown1
  have hs1 := hb1.size
  go_wp2_with (at_builtin; refine wpList_append_bs _ rfl (.tmp 6) (.tmp 18) 26 rfl w.heap.size 5 i0 Tryd.underlying26 hi0 hz0 hz1 hz2 _ n _ rfl (hown1.alloc _) (w1.heap.size + 1) _ 4 _ (p32 x) rfl (Bs.lit w1 5 _ (p32 x) (p32_cells' x h0 h1)) (by omega) (by simp; omega) ?_; intro v2 w2 hown2 hg2)
  go_ret
  exact ⟨_, rfl, by rw [U8_append]; simpa [hlen.out, p32] using hown2, (hb1.alloc hs1 _).grown hg2 (by simp; omega) (own_ge hown1)⟩
set_option maxHeartbeats 400000 in
theorem rput32_any (A : Option Addr) (n c : Nat) (x : Int) (l : List UInt8) (w : World) (B : Nat) (hbs : Bs w B A n l) (hB : B ≤ w.heap.size) (hn : (n : Int) ≤ 65536) (h0 : 0 ≤ x) (h1 : x < 4294967296) :
    Calls Tryd.prog 27 #[.slice A n c, .int .u32 x] w (RetOwn 5 (l ++ p32 x) w) := by
  obtain ⟨i0, hi0, hz0, hz1, hz2⟩ := info_parts info_u8
  have hlen := Lib.hid hbs.len
  go_enter Tryd.func27, Tryd.ntmps27
  go_wp2_with fail
  refine (rcopy_any A n c l w B hbs hB hn).mono ?_
  rintro e w1 ⟨v, rfl, hown1, hb1⟩
  rw [hlen.out] at hown1
  go_wp2_with fail
  go_loopw [1, 5, 6] (fun q v i wr => ∃ k : Nat, k ≤ 4 ∧ i = .int .i64 k ∧ q = .int .u32 (dv x k) ∧ wr.ownsRow w.heap.size 5 1 v (n + k) (U8 (l ++ (p32 x).take k)) ∧ Below w.heap.size w wr) (fun _ _ i _ => 4 - (intOf i).toNat)
  case atStart => exact ⟨0, by omega, rfl, by rw [dv_zero], by simpa using hown1, hb1⟩
  case round =>
    obtain ⟨k, hk, rfl, rfl, hown, hbel⟩ := hrel
    have hsz := hbel.size
    obtain ⟨d0, d1⟩ := dv_bd x k h0 h1
    by_cases hlt : k < 4
    · go_wp2_with (at_builtin; refine wpList_append_bs _ rfl (.tmp 13) (.tmp 17) 26 rfl w.heap.size 5 i0 Tryd.underlying26 hi0 hz0 hz1 hz2 _ (n + k) _ rfl (hown.alloc _) (wr.heap.size + 1) _ 1 _ [ob (dv x k)] rfl (Bs.lit wr 5 _ [ob (dv x k)] (dv_cells x k)) (by omega) (by simp; omega) ?_; intro v2 w2 hown2 hg2)
      go_roundw
      case rel => exact ⟨k + 1, by omega, by go_num, intEq (dv_succ x k), by rw [p32_take x k hlt, ← List.append_assoc, U8_append]; exact hown2, (hbel.alloc hsz _).grown hg2 (by simp; omega) (own_ge hown)⟩
      case measure => simp [intOf]; omega
    · go_wp2
      go_ret
      obtain rfl : k = 4 := by omega
      exact ⟨_, rfl, by simpa [hlen.out, p32] using hown, hbel⟩
end Go.Proofs.YtiieianbmldnbaaDoor
