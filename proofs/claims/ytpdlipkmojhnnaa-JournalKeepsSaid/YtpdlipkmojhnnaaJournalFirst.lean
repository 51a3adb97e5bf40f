/-
  A record's beginning: how many bytes it has.
-/
import Derived.Test.YtpdlipkmojhnnaaMem
namespace Go.Proofs.Ytpdlipkmojhnnaa
open Go.RowKit
set_option maxRecDepth 100000
/-- How many bytes a record's value has, as its second byte says. -/
def valLen (u : UInt8) : Nat := if u.toNat = 254 then 0 else u.toNat
/-- How many bytes the record has with which bytes begin, 0 if they begin with none that is whole. -/
def recLen (b : List UInt8) : Nat :=
  if b.length < 7 then 0 else if 32 ≤ (b.getD 0 0).toNat then 0 else
    if 250 < valLen (b.getD 1 0) ∨ b.length < 7 + valLen (b.getD 1 0) ∨ b.getD (6 + valLen (b.getD 1 0)) 0 ≠ 0 then 0 else 7 + valLen (b.getD 1 0)
theorem recLen_le (b : List UInt8) : recLen b ≤ b.length := by
  unfold recLen
  split
  · omega
  · split
    · omega
    · split
      · omega
      · rename_i h; omega
theorem Bs.at1 {w : World} {B b o n : Nat} {l : List UInt8} (h : Bs w B (some ⟨b, o, none⟩) n l) (k : Nat) (u : UInt8) (hu : l[k]? = some u) : w.cell? ⟨b, o + k, none⟩ = some (.int .u8 (u.toNat : Int)) := by
  obtain ⟨b', o', e, _, hc⟩ := h.place (by have := (List.getElem?_eq_some_iff.1 hu).1; have := h.len; omega)
  injection e with e
  injection e with e1 e2 _
  subst e1 e2
  exact hc k u hu
set_option maxHeartbeats 800000 in
theorem first_f (w : World) (B : Nat) (A : Option Addr) (n c : Nat) (l : List UInt8) (hb : Bs w B A n l) (hn : (n : Int) ≤ 262144) :
    Calls Try.prog 57 #[.slice A n c] w fun e w' => e = .returned (.int .i64 (recLen l : Int)) ∧ w' = w := by
  have hl := hb.len
  obtain ⟨R, hR⟩ : ∃ R, recLen l = R := ⟨_, rfl⟩
  rw [hR]
  have HR := Lib.hid hR
  clear hR
  by_cases h7 : (n : Int) < 7
  · have hz : R = 0 := by rw [← HR.out]; unfold recLen; rw [if_pos (by omega)]
    subst hz
    clear HR hl
    go_enter Try.func57, Try.ntmps57
    go_wp2
    go_ret
    exact ⟨rfl, rfl⟩
  · obtain ⟨b, o, rfl, hbl, hcc⟩ := hb.place (by omega)
    clear hbl hcc
    obtain ⟨u0, hu0⟩ := byte_get (l := l) (k := 0) (by omega)
    obtain ⟨u1, hu1⟩ := byte_get (l := l) (k := 1) (by omega)
    have x0 := hb.at1 0 u0 hu0
    have x1 := hb.at1 1 u1 hu1
    rw [Nat.add_zero] at x0
    have g0 : l.getD 0 0 = u0 := by rw [List.getD_eq_getElem?_getD, hu0]; rfl
    have g1 : l.getD 1 0 = u1 := by rw [List.getD_eq_getElem?_getD, hu1]; rfl
    have b0 := byte_lt u0
    have b1 := byte_lt u1
    have n1 : (1 : Int) < n := by omega
    have n0 : (0 : Int) < n := by omega
    by_cases h32 : (32 : Int) ≤ (u0.toNat : Int)
    · have hz : R = 0 := by rw [← HR.out]; unfold recLen; rw [if_neg (by omega), if_pos (by rw [g0]; omega)]
      subst hz
      clear HR hl g0 g1 hu0 hu1 b0 b1
      go_enter Try.func57, Try.ntmps57
      go_wp2
      go_ret
      exact ⟨rfl, rfl⟩
    · obtain ⟨s, hs⟩ : ∃ s, valLen u1 = s := ⟨_, rfl⟩
      have hr : R = if 250 < s ∨ n < 7 + s ∨ l.getD (6 + s) 0 ≠ 0 then 0 else 7 + s := by
        rw [← HR.out]
        unfold recLen
        rw [if_neg (by omega), if_neg (by rw [g0]; omega), g1, hs, hl]
      have HRR := Lib.hid hr
      have hs8 : (s : Int) < 256 := by rw [← hs]; unfold valLen; split <;> omega
      have hsv : (u1.toNat : Int) = 254 ∧ s = 0 ∨ ¬ (u1.toNat : Int) = 254 ∧ (u1.toNat : Int) = (s : Int) := by
        rw [← hs]; unfold valLen
        by_cases h : u1.toNat = 254
        · rw [if_pos h]; left; omega
        · rw [if_neg h]; right; omega
      have e7 : IntKind.i64.wrap (7 + (s : Int)) = 7 + (s : Int) := by rw [IntKind.wrap_i64]; omega
      have e6 : IntKind.i64.wrap (7 + (s : Int) - 1) = 7 + (s : Int) - 1 := by rw [IntKind.wrap_i64]; omega
      have t6 : (7 + (s : Int) - 1).toNat = 6 + s := by omega
      have p6 : 0 ≤ 7 + (s : Int) - 1 := by omega
      have b1' : 0 ≤ (u1.toNat : Int) := by omega
      generalize (u1.toNat : Int) = z1 at *
      generalize (u0.toNat : Int) = z0 at *
      clear hl hs HR hr g0 g1 hu0 b0 hs8
      by_cases q1 : (250 : Int) < (s : Int)
      · have hz : R = 0 := by rw [HRR.out, if_pos (by omega)]
        subst hz
        clear HRR
        rcases hsv with hsv | hsv
        · omega
        · obtain ⟨v1, v2⟩ := hsv
          rw [← v2] at e7 e6 t6 p6 q1; clear v2
          go_enter Try.func57, Try.ntmps57
          go_wp2
          go_ret
          exact ⟨rfl, rfl⟩
      · by_cases q2 : (n : Int) < 7 + (s : Int)
        · have hz : R = 0 := by rw [HRR.out, if_pos (by omega)]
          subst hz
          clear HRR
          rcases hsv with hsv | hsv
          · obtain ⟨v1, v2⟩ := hsv
            exfalso
            omega
          · obtain ⟨v1, v2⟩ := hsv
            rw [← v2] at e7 e6 t6 p6 q1 q2; clear v2
            go_enter Try.func57, Try.ntmps57
            go_wp2
            go_ret
            exact ⟨rfl, rfl⟩
        · obtain ⟨u6, hu6⟩ := byte_get (l := l) (k := 6 + s) (by have := hb.len; omega)
          have x6 := hb.at1 (6 + s) u6 hu6
          have g6 : l.getD (6 + s) 0 = u6 := by rw [List.getD_eq_getElem?_getD, hu6]; rfl
          have p7 : 7 + (s : Int) - 1 < (n : Int) := by omega
          by_cases q3 : u6 = 0
          · subst q3
            have hz : R = 7 + s := by rw [HRR.out, if_neg (by rw [g6]; simp; omega)]
            subst hz
            have z6 : (((0 : UInt8).toNat : Int) != 0) = false := by decide
            have hR7 : ((7 + s : Nat) : Int) = 7 + (s : Int) := by omega
            rw [hR7]
            clear HRR hu6 g6 hu1 hR7
            rcases hsv with hsv | hsv
            · obtain ⟨v1, rfl⟩ := hsv
              go_enter Try.func57, Try.ntmps57
              go_wp2
              go_ret
              exact ⟨rfl, rfl⟩
            · obtain ⟨v1, v2⟩ := hsv
              rw [← v2] at e7 e6 t6 p6 q1 q2 p7 ⊢; clear v2
              go_enter Try.func57, Try.ntmps57
              go_wp2
              go_ret
              exact ⟨rfl, rfl⟩
          · have hz : R = 0 := by rw [HRR.out, if_pos (by rw [g6]; exact .inr (.inr q3))]
            subst hz
            have z6 : ((u6.toNat : Int) != 0) = true := by
              rw [bne_iff_ne]
              intro e
              exact q3 (UInt8.toNat_inj.1 (by have : (0 : UInt8).toNat = 0 := rfl; omega))
            clear HRR hu6 g6 hu1 q3
            rcases hsv with hsv | hsv
            · obtain ⟨v1, rfl⟩ := hsv
              go_enter Try.func57, Try.ntmps57
              go_wp2
              go_ret
              exact ⟨rfl, rfl⟩
            · obtain ⟨v1, v2⟩ := hsv
              rw [← v2] at e7 e6 t6 p6 q1 q2 p7; clear v2
              go_enter Try.func57, Try.ntmps57
              go_wp2
              go_ret
              exact ⟨rfl, rfl⟩
end Go.Proofs.Ytpdlipkmojhnnaa
