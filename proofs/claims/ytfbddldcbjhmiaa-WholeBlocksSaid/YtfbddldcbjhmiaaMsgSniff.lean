/-
  The head of bytes: their kind, their ID.
-/
import Derived.Test.YtfbddldcbjhmiaaMsgWrite
import Derived.Test.YtfbddldcbjhmiaaOptRRead
namespace Go.Proofs.Ytfbddldcbjhmiaa
open Go.RowKit
set_option maxRecDepth 100000
set_option linter.unusedVariables false
theorem or_addL (a b : Int) (a0 : 0 ≤ a) (b0 : 0 ≤ b) (ha : a < 256) (h : b < 256) : bits .or .i64 (b * 256) a = b * 256 + a := by
  obtain ⟨x, rfl⟩ := Int.eq_ofNat_of_zero_le a0
  obtain ⟨y, rfl⟩ := Int.eq_ofNat_of_zero_le b0
  show IntKind.i64.wrap ((BitVec.ofInt 64 ((y : Int) * 256) ||| BitVec.ofInt 64 (x : Int)).toNat : Int) = _
  rw [show (y : Int) * 256 = ((2 ^ 8 * y : Nat) : Int) by omega, BitVec.ofInt_natCast, BitVec.ofInt_natCast, BitVec.toNat_or, BitVec.toNat_ofNat, BitVec.toNat_ofNat, Nat.mod_eq_of_lt (by omega), Nat.mod_eq_of_lt (by omega), ← Nat.two_pow_add_eq_or_of_lt (by omega)]
  rw [IntWalk.i64_in _ (by omega)]; omega
theorem and3 : ∀ y : Nat, y < 16 → bits .and .u8 (y : Int) 3 = ((y % 4 : Nat) : Int) := by decide +kernel
theorem and192 : ∀ y : Nat, y < 256 → (bits .and .u8 (y : Int) 192 == 64) = decide (y / 64 = 1) := by decide +kernel
theorem and48 : ∀ y : Nat, y < 256 → bits .and .u8 (y : Int) 48 = ((y / 16 % 4 * 16 : Nat) : Int) := by decide +kernel
/-- The byte at a place. -/
def bn0 (l : List UInt8) (k : Nat) : Nat := (l.getD k 0).toNat
theorem bn0_lt (l : List UInt8) (k : Nat) : bn0 l k < 256 := (l.getD k 0).toNat_lt
theorem bn0_of {l : List UInt8} {k : Nat} {u : UInt8} (h : l[k]? = some u) : bn0 l k = u.toNat := by unfold bn0; rw [List.getD_eq_getElem?_getD, h]; rfl
def sniffP (l : List UInt8) : Int × Int × Bool := if 4 ≤ l.length ∧ bn0 l 0 / 64 = 1 then (((bn0 l 0 / 16 % 4 : Nat) : Int), ((bn0 l 2 * 256 + bn0 l 3 : Nat) : Int), true) else (0, 0, false)
theorem Bs.at_ {w : World} {B n : Nat} {A : Option Addr} {l : List UInt8} (h : Bs w B A n l) (hn : 0 < n) : ∃ b off, A = some ⟨b, off, none⟩ ∧ b < B ∧ ∀ k, k < n → w.cell? ⟨b, off + k, none⟩ = some (.int .u8 (bn0 l k : Int)) := by
  obtain ⟨b, off, rfl, hb, hc⟩ := h.place hn
  refine ⟨b, off, rfl, hb, fun k hk => ?_⟩
  obtain ⟨u, hu⟩ := byte_get (l := l) (k := k) (by rw [h.len]; exact hk)
  rw [hc k u hu, bn0_of hu]
set_option maxHeartbeats 1000000 in
theorem sniff_f (A : Option Addr) (n c : Nat) (l : List UInt8) (w : World) (B : Nat) (hbs : Bs w B A n l) (hc : n ≤ c) :
    Calls Try.prog 41 #[.slice A n c] w fun e w' => e = .returned (.tuple #[.int .i64 (sniffP l).1, .int .i64 (sniffP l).2.1, .bool (sniffP l).2.2]) ∧ ∃ m, w' = w.drewN m := by
  have hl := hbs.len
  by_cases h4 : 4 ≤ n
  · obtain ⟨b, off, rfl, hb, hcell⟩ := hbs.at_ (by omega)
    have c0 : w.cell? ⟨b, off, none⟩ = some (.int .u8 (bn0 l 0 : Int)) := hcell 0 (by omega)
    have c2 := hcell 2 (by omega)
    have c3 := hcell 3 (by omega)
    have l0 := bn0_lt l 0
    have l2 := bn0_lt l 2
    have l3 := bn0_lt l 3
    have hs : sniffP l = if bn0 l 0 / 64 = 1 then (((bn0 l 0 / 16 % 4 : Nat) : Int), ((bn0 l 2 * 256 + bn0 l 3 : Nat) : Int), true) else (0, 0, false) := by
      unfold sniffP
      by_cases e : bn0 l 0 / 64 = 1
      · rw [if_pos ⟨by omega, e⟩, if_pos e]
      · rw [if_neg (fun h => e h.2), if_neg e]
    rw [hs]
    generalize bn0 l 0 = x0 at *
    generalize bn0 l 2 = x2 at *
    generalize bn0 l 3 = x3 at *
    have h4I : ¬ (n : Int) < 4 := by omega
    have n0 : (0 : Int) < n := by omega
    have n2 : (2 : Int) < n := by omega
    have n3 : (3 : Int) < n := by omega
    have e1 := and3 (x0 / 16) (by omega)
    have e2 := or_addL (x3 : Int) (x2 : Int) (by omega) (by omega) (by omega) (by omega)
    have q0 : (0 : Int) ≤ (x0 : Int) := by omega
    have q1 : (x0 : Int) < 256 := by omega
    have q2 : (x2 : Int) < 256 := by omega
    have q3 : (x3 : Int) < 256 := by omega
    have e3 : ((x0 / 16 : Nat) : Int) = (x0 : Int) / 16 := by omega
    rw [e3] at e1
    have hid := Lib.hid (And.intro e1 e2)
    clear hbs hl hcell hs e3
    by_cases hx : x0 / 64 = 1
    · have hx1 : (((x0 : Int) / 64) != 1) = false := by simp; omega
      rw [if_pos hx]
      go_enter Try.func41, Try.ntmps41
      go_wp2
      go_quiet (fail)
      go_wp2
      go_ret3
      exact ⟨ret_31 rfl rfl, _, rfl⟩
    · have hx1 : (((x0 : Int) / 64) != 1) = true := bne_iff_ne.2 (by omega)
      rw [if_neg hx]
      go_enter Try.func41, Try.ntmps41
      go_wp2
      go_ret3
      exact ⟨rfl, 0, rfl⟩
  · have hs : sniffP l = (0, 0, false) := by unfold sniffP; rw [if_neg (by omega)]
    rw [hs]
    have h4I : (n : Int) < 4 := by omega
    clear hbs hl hs
    go_enter Try.func41, Try.ntmps41
    go_wp2
    go_ret3
    exact ⟨rfl, 0, rfl⟩
end Go.Proofs.Ytfbddldcbjhmiaa
