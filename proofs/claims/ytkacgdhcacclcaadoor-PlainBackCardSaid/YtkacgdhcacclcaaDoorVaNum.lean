/-
  A number out of bytes: get, signed.
-/
import Derived.Test.YtkacgdhcacclcaaDoorVaPut
import Derived.Laws.BitsAllLaws
namespace Go.Proofs.YtkacgdhcacclcaaDoor
open Go.RowKit
set_option maxRecDepth 100000
set_option maxRecDepth 100000
set_option linter.unusedVariables false
theorem or_low (m x : Int) (h0 : 0 ≤ x) (h1 : x < 256) : bits .or .i64 (wrap64 (m * 256)) x = wrap64 (m * 256 + x) := by
  show IntKind.i64.wrap ((BitVec.ofInt 64 (wrap64 (m * 256)) ||| BitVec.ofInt 64 x).toNat : Int) = _
  have eA : (BitVec.ofInt 64 (wrap64 (m * 256))).toNat = ((m * 256) % 18446744073709551616).toNat := by
    rw [BitVec.toNat_ofInt]
    unfold wrap64
    omega
  have eX : (BitVec.ofInt 64 x).toNat = x.toNat := by
    rw [BitVec.toNat_ofInt]
    omega
  rw [BitVec.toNat_or, eA, eX, Nat.or_comm, nat_join8' _ _ (by omega) (by omega), IntKind.wrap_i64]
  unfold wrap64
  omega
def getQ (n : Int) (l : List UInt8) : Int := l.foldl (fun a x => wrap64 (a * 256 + (x.toNat : Int))) n
theorem getQ_cons (n : Int) (x : UInt8) (l : List UInt8) : getQ n (x :: l) = getQ (wrap64 (n * 256 + (x.toNat : Int))) l := rfl
set_option maxHeartbeats 4000000 in
theorem get_f (n : Int) (A : Option Addr) (m c : Nat) (l : List UInt8) (w : World) (B : Nat) (hbs : Bs w B A m l) (hm : m ≤ 1000000) : Calls Tryd.prog 73 #[.int .i64 n, .slice A m c] w fun e w' => e = .returned (.int .i64 (getQ n l)) ∧ w = w' := by
  have hl := hbs.len
  obtain ⟨R, hR⟩ : ∃ R, getQ n l = R := ⟨_, rfl⟩
  rw [hR]
  by_cases h0 : m = 0
  · subst h0
    obtain rfl : l = [] := List.eq_nil_of_length_eq_zero hl
    obtain rfl : n = R := hR
    clear hbs hl
    go_enter Tryd.func73, Tryd.ntmps73
    go_wp2
    go_loop [0, 9] (fun a i => a = .int .i64 n ∧ i = .int .i64 0) (fun _ _ => 0)
    case atStart => exact ⟨rfl, rfl⟩
    case round =>
      obtain ⟨rfl, rfl⟩ := hrel
      go_wp2
      go_ret
      exact ⟨rfl, rfl⟩
  · obtain ⟨b, off, rfl, hb, hc⟩ := hbs.place (by omega)
    have HC := Lib.hid hc
    have HL := Lib.hid hl
    have HR := Lib.hid hR
    have hmI : (m : Int) ≤ 1000000 := by omega
    clear hbs hc hl hR hb
    go_enter Tryd.func73, Tryd.ntmps73
    go_wp2
    go_loop [0, 9] (fun a i => ∃ (k : Nat) (x : Int), a = .int .i64 x ∧ i = .int .i64 (k : Int) ∧ k ≤ m ∧ Aside (getQ x (l.drop k) = R)) (fun _ i => m - (intOf i).toNat)
    case atStart => exact ⟨0, n, rfl, rfl, Nat.zero_le _, HR.out⟩
    case round =>
      obtain ⟨k, x, rfl, rfl, hk, hrel⟩ := hrel
      by_cases hlt : k < m
      · obtain ⟨u, hu⟩ := byte_get (l := l) (k := k) (by rw [HL.out]; exact hlt)
        have hcell := HC.out k u hu
        have hdr := List.drop_eq_getElem_cons (l := l) (i := k) (by rw [HL.out]; exact hlt)
        have hg : l[k]'(by rw [HL.out]; exact hlt) = u := by rw [List.getElem?_eq_getElem (by rw [HL.out]; exact hlt)] at hu; exact Option.some.inj hu
        rw [hg] at hdr
        have hq := hrel.out
        rw [hdr, getQ_cons] at hq
        have HQ := Lib.hid hq
        have hub := byte_lt u
        have hor := or_low x (u.toNat : Int) (by omega) hub
        obtain ⟨y, hy⟩ : ∃ y, wrap64 (x * 256 + (u.toNat : Int)) = y := ⟨_, rfl⟩
        rw [hy] at hor HQ
        have hltI : (k : Int) < m := by omega
        clear hy hq hg hdr hrel hu
        go_wp2
        go_round
        case rel => exact ⟨k + 1, y, by first | rfl | assumption, by go_num, by omega, (show Aside _ from HQ.out)⟩
        case measure => simp [intOf]; omega
      · obtain rfl : k = m := by omega
        have hn : x = R := by rw [← hrel.out, List.drop_of_length_le (by rw [HL.out]; exact Nat.le_refl _)]; rfl
        subst hn
        clear hrel
        go_wp2
        go_ret
        exact ⟨rfl, rfl⟩
def signedQ (l : List UInt8) : Int := getQ (if 128 ≤ (l.getD 0 0).toNat then -1 else 0) l
set_option maxHeartbeats 4000000 in
theorem signed_f (A : Option Addr) (m c : Nat) (l : List UInt8) (w : World) (B : Nat) (hbs : Bs w B A m l) (hp : 0 < m) (hm : m ≤ 1000000) : Calls Tryd.prog 72 #[.slice A m c] w fun e w' => e = .returned (.int .i64 (signedQ l)) ∧ w = w' := by
  have cG := fun n => get_f n A m c l w B hbs hm
  obtain ⟨b, off, rfl, hb, hc⟩ := hbs.place hp
  obtain ⟨u, hu⟩ := byte_get (l := l) (k := 0) (by rw [hbs.len]; exact hp)
  have h0 := hc 0 u hu
  rw [Nat.add_zero] at h0
  have hD : l.getD 0 0 = u := by rw [List.getD_eq_getElem?_getD, hu]; rfl
  have hub := byte_lt u
  have hpI : (0 : Int) < m := by omega
  unfold signedQ
  rw [hD]
  by_cases hbig : 128 ≤ u.toNat
  · rw [if_pos hbig]
    have cG1 := cG (-1)
    obtain ⟨R, hR⟩ : ∃ R, getQ (-1) l = R := ⟨_, rfl⟩
    rw [hR] at cG1 ⊢
    have ht : ((u.toNat : Int) / 128 == 1) = true := beq_iff_eq.2 (by omega)
    clear hR cG hD hu hc hb hbs hbig
    go_enter Tryd.func72, Tryd.ntmps72
    go_wp2_with (go_at_call 73; refine cG1.mono ?_; rintro e w' ⟨rfl, rfl⟩)
    go_ret
    exact ⟨rfl, rfl⟩
  · rw [if_neg hbig]
    have cG1 := cG 0
    obtain ⟨R, hR⟩ : ∃ R, getQ 0 l = R := ⟨_, rfl⟩
    rw [hR] at cG1 ⊢
    have ht : ((u.toNat : Int) / 128 == 1) = false := beq_eq_false_iff_ne.2 (by omega)
    clear hR cG hD hu hc hb hbs hbig
    go_enter Tryd.func72, Tryd.ntmps72
    go_wp2_with (go_at_call 73; refine cG1.mono ?_; rintro e w' ⟨rfl, rfl⟩)
    go_ret
    exact ⟨rfl, rfl⟩
end Go.Proofs.YtkacgdhcacclcaaDoor
