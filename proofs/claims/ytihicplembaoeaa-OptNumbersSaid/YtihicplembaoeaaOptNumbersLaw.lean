/-
  OptNumbers: a number is read as it.
-/
import Derived.Test.YtihicplembaoeaaOptAlive
namespace Go.Proofs.Ytihicplembaoeaa
open Go.RowKit
set_option maxRecDepth 100000
set_option linter.unusedVariables false
theorem le_first (m : Nat) (h : 0 < m) : ∃ x r, (le m).reverse = x :: r ∧ x ≠ 0 := by
  induction m using Nat.strongRecOn with
  | ind m ih =>
    rw [le_pos h, List.reverse_cons]
    rcases Nat.eq_zero_or_pos (m / 256) with h0 | h0
    · rw [h0, le_zero]
      refine ⟨UInt8.ofNat (m % 256), [], rfl, fun e => ?_⟩
      have := congrArg UInt8.toNat e
      rw [nat_byte (by omega)] at this
      have h1 : m % 256 = 0 := this
      omega
    · obtain ⟨x, r, hx, hn⟩ := ih (m / 256) (by omega) h0
      rw [hx]
      exact ⟨x, r ++ [UInt8.ofNat (m % 256)], rfl, hn⟩
set_option maxHeartbeats 2000000 in
theorem numbers_law (n : Int) (w : World) (h0 : -9223372036854775808 ≤ n) (h1 : n ≤ 9223372036854775807) :
    Calls Try.prog 6 #[.int .i64 n] w fun e w' => e = .returned (.bool true) ∧ Below w.heap.size w w' := by
  obtain ⟨L, hL⟩ : ∃ L, (le n.toNat).reverse = L := ⟨_, rfl⟩
  have hui := fun W => uint_f n W h1
  rw [hL] at hui
  have hnum := fun (A : Option Addr) (N c : Nat) (W : World) (hb : Bs W W.heap.size A N L) => number_f A N c L W _ hb
  rcases Int.lt_or_le 0 n with hp | hp
  · obtain ⟨N, rfl⟩ := Int.eq_ofNat_of_zero_le (Int.le_of_lt hp)
    rw [Int.toNat_natCast] at hL
    have hNp : ¬ (N : Int) ≤ 0 := by omega
    have hval : numOf L = N := by rw [← hL]; exact numOf_le N
    by_cases hbig : 72057594037927936 ≤ N
    · have hlen : L.length = 8 := by
        have a := le_len_ge 7 N (by show 256 ^ 7 ≤ N; exact hbig)
        have b := le_len 8 N (by show N < 256 ^ 8; omega)
        rw [← hL, List.length_reverse]; omega
      have hnB : numB L = (0, false) := by unfold numB; rw [if_pos (by omega)]
      rw [hnB] at hnum
      have hbI : (72057594037927936 : Int) ≤ N := by omega
      have HA := Lib.hid (And.intro hui (And.intro hnum hlen))
      clear hui hnum hlen hL hval hnB
      go_enter Try.func6, Try.ntmps6
      go_wp2_with (first
        | (go_at_call 14; refine (oalive_any w).mono ?_; rintro e w1 ⟨rfl, b1⟩; have H1 := Lib.hid b1; clear b1)
        | (go_at_call 24; refine (HA.out.1 _).mono ?_; intro e w2 h2; obtain ⟨A2, n2, c2, rfl, hc2, hn2, hb2, b2⟩ := h2.slice_; obtain rfl : n2 = 8 := hn2.out.trans HA.out.2.2; have H2 := Lib.hid (And.intro hb2 (H1.out.trans (b2.mono H1.out.size))); clear h2 hn2 hb2 b2)
        | (go_at_call 25; refine (HA.out.2.1 A2 8 c2 w2 H2.out.1).mono ?_; rintro e w3 ⟨rfl, hw⟩; obtain rfl := hw.symm))
      go_ret
      exact ⟨rfl, H2.out.2⟩
    · have hlen : L.length ≤ 7 := by
        have b := le_len 7 N (by show N < 256 ^ 7; omega)
        rw [← hL, List.length_reverse]; omega
      have hnB : numB L = ((N : Int), true) := by unfold numB; rw [if_neg (by omega), hval]
      rw [hnB] at hnum
      obtain ⟨x, r, hxr, hx0⟩ := le_first N (by omega)
      rw [hL] at hxr
      have hx5 : ((x.toNat : Int) != 0) = true := bne_iff_ne.2 (fun e => hx0 (by apply UInt8.toNat_inj.1; show x.toNat = 0; omega))
      have hbI : decide ((72057594037927936 : Int) ≤ (N : Int)) = false := decide_eq_false (by omega)
      obtain ⟨q, hq⟩ : ∃ q, L.length = q := ⟨_, rfl⟩
      have hq1 : 1 ≤ q := by rw [← hq, hxr]; simp
      obtain ⟨xx, hxx⟩ : ∃ xx : Int, (x.toNat : Int) = xx := ⟨_, rfl⟩
      rw [hxx] at hx5
      have hqI : (1 : Int) ≤ q := by omega
      have HA := Lib.hid (And.intro hui (And.intro hnum (And.intro hq (And.intro hxr hxx))))
      clear hui hnum hlen hL hval hnB hxr hq hxx hx0 hbig h0 h1
      go_enter Try.func6, Try.ntmps6
      go_wp2_with (first
        | (go_at_call 14; refine (oalive_any w).mono ?_; rintro e w1 ⟨rfl, b1⟩; have H1 := Lib.hid b1; clear b1)
        | (go_at_call 24; refine (HA.out.1 _).mono ?_; intro e w2 h2; obtain ⟨A2, n2, c2, rfl, hc2, hn2, hb2, b2⟩ := h2.slice_; obtain rfl : n2 = q := hn2.out.trans HA.out.2.2.1; obtain ⟨b, off, rfl, _, hcell⟩ := hb2.place (by omega); have c0 : w2.cell? ⟨b, off, none⟩ = some (.int .u8 xx) := (hcell 0 x (by rw [HA.out.2.2.2.1]; rfl)).trans (by rw [HA.out.2.2.2.2]); have H2 := Lib.hid (And.intro hb2 (H1.out.trans (b2.mono H1.out.size))); clear h2 hn2 hb2 b2 hcell)
        | (go_at_call 25; refine (HA.out.2.1 _ n2 c2 w2 H2.out.1).mono ?_; rintro e w3 ⟨rfl, hw⟩; obtain rfl := hw.symm))
      go_ret
      exact ⟨rfl, H2.out.2⟩
  · have hz : n.toNat = 0 := by omega
    rw [hz, le_zero] at hL
    have hLn : L = [] := hL.symm
    subst hLn
    have hnB : numB [] = (0, true) := by decide +kernel
    rw [hnB] at hnum
    have HA := Lib.hid (And.intro hui hnum)
    clear hui hnum hL hz hnB
    go_enter Try.func6, Try.ntmps6
    go_wp2_with (first
      | (go_at_call 14; refine (oalive_any w).mono ?_; rintro e w1 ⟨rfl, b1⟩; have H1 := Lib.hid b1; clear b1)
      | (go_at_call 24; refine (HA.out.1 _).mono ?_; intro e w2 h2; obtain ⟨A2, n2, c2, rfl, hc2, hn2, hb2, b2⟩ := h2.slice_; obtain rfl : n2 = 0 := hn2.out; have H2 := Lib.hid (And.intro hb2 (H1.out.trans (b2.mono H1.out.size))); clear h2 hn2 hb2 b2)
      | (go_at_call 25; refine (HA.out.2 A2 0 c2 w2 H2.out.1).mono ?_; rintro e w3 ⟨rfl, hw⟩; obtain rfl := hw.symm))
    go_ret
    exact ⟨rfl, H2.out.2⟩
end Go.Proofs.Ytihicplembaoeaa
