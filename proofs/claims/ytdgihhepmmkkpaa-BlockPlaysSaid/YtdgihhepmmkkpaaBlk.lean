/-
  Blocks: which sizes there are; a number as few bytes, by the document.
-/
import Derived.Test.YtdgihhepmmkkpaaOptNum
namespace Go.Proofs.Ytdgihhepmmkkpaa
open Go.RowKit
set_option maxRecDepth 100000
set_option linter.unusedVariables false
def powZ (z : Int) : Int := if z = 16 then 0 else if z = 32 then 1 else if z = 64 then 2 else if z = 128 then 3 else if z = 256 then 4 else if z = 512 then 5 else if z = 1024 then 6 else -1
def powS (z : Int) : Int := if powZ z < 0 then 0 else powZ z
def powB (z : Int) : Bool := decide (0 ≤ powZ z)
theorem powZ_none {z : Int} (h : z ≠ 16 ∧ z ≠ 32 ∧ z ≠ 64 ∧ z ≠ 128 ∧ z ≠ 256 ∧ z ≠ 512 ∧ z ≠ 1024) : powZ z = -1 := by
  obtain ⟨h0, h1, h2, h3, h4, h5, h6⟩ := h
  unfold powZ
  rw [if_neg h0, if_neg h1, if_neg h2, if_neg h3, if_neg h4, if_neg h5, if_neg h6]
theorem powZ_cases (z : Int) : (∃ s : Nat, s < 7 ∧ z = 16 * 2 ^ s ∧ powZ z = s) ∨ (powZ z = -1 ∧ z ≠ 16 ∧ z ≠ 32 ∧ z ≠ 64 ∧ z ≠ 128 ∧ z ≠ 256 ∧ z ≠ 512 ∧ z ≠ 1024) := by
  by_cases h0 : z = 16
  · exact .inl ⟨0, by decide, h0, by rw [h0]; rfl⟩
  by_cases h1 : z = 32
  · exact .inl ⟨1, by decide, h1, by rw [h1]; rfl⟩
  by_cases h2 : z = 64
  · exact .inl ⟨2, by decide, h2, by rw [h2]; rfl⟩
  by_cases h3 : z = 128
  · exact .inl ⟨3, by decide, h3, by rw [h3]; rfl⟩
  by_cases h4 : z = 256
  · exact .inl ⟨4, by decide, h4, by rw [h4]; rfl⟩
  by_cases h5 : z = 512
  · exact .inl ⟨5, by decide, h5, by rw [h5]; rfl⟩
  by_cases h6 : z = 1024
  · exact .inl ⟨6, by decide, h6, by rw [h6]; rfl⟩
  exact .inr ⟨powZ_none ⟨h0, h1, h2, h3, h4, h5, h6⟩, h0, h1, h2, h3, h4, h5, h6⟩
theorem powZ_lo (z : Int) : -1 ≤ powZ z ∧ powZ z ≤ 6 := by
  rcases powZ_cases z with ⟨s, hs, _, e⟩ | ⟨e, _⟩ <;> omega
theorem powZ_le (z : Int) (h : 0 ≤ powZ z) : 16 ≤ z ∧ z ≤ 1024 := by
  rcases powZ_cases z with ⟨s, hs, rfl, e⟩ | ⟨e, _⟩
  · match s, hs with
    | 0, _ | 1, _ | 2, _ | 3, _ | 4, _ | 5, _ | 6, _ => decide
  · omega
/-- The first k sizes are others. -/
def Not2 (z : Int) (k : Nat) : Prop := ∀ j, j < k → z ≠ 16 * 2 ^ j
theorem Not2.next {z : Int} {k : Nat} (h : Not2 z k) (hz : z ≠ 16 * 2 ^ k) : Not2 z (k + 1) := fun j hj => by
  rcases Nat.lt_or_eq_of_le (Nat.lt_succ_iff.1 hj) with e | rfl
  · exact h j e
  · exact hz
theorem Not2.all {z : Int} (h : Not2 z 7) : powZ z = -1 := powZ_none ⟨h 0 (by decide), h 1 (by decide), h 2 (by decide), h 3 (by decide), h 4 (by decide), h 5 (by decide), h 6 (by decide)⟩
set_option maxHeartbeats 4000000 in
theorem power_f (z : Int) (w : World) : Calls Try.prog 43 #[.int .i64 z] w fun e w' => e = .returned (.tuple #[.int .i64 (powS z), .bool (powB z)]) ∧ w' = w := by
  go_enter Try.func43, Try.ntmps43
  go_wp2
  go_loop [4, 5] (fun _ i => ∃ k : Nat, k ≤ 7 ∧ i = .int .i64 k ∧ Aside (Not2 z k)) (fun _ i => 7 - (intOf i).toNat)
  case atStart => exact ⟨0, by omega, rfl, fun j hj => absurd hj (by omega)⟩
  case round =>
    obtain ⟨k, hk, rfl, hn⟩ := hrel
    rcases (by omega : k = 0 ∨ k = 1 ∨ k = 2 ∨ k = 3 ∨ k = 4 ∨ k = 5 ∨ k = 6 ∨ k = 7) with rfl | rfl | rfl | rfl | rfl | rfl | rfl | rfl
    · by_cases hz : z = 16
      · subst hz
        clear hn
        go_wp2
        go_ret2
        exact ⟨rfl, rfl⟩
      · have hz1 : ((16 : Int) == z) = false := beq_eq_false_iff_ne.2 (fun e => hz e.symm)
        have hn' : Aside (Not2 z 1) := hn.out.next hz
        clear hn hz
        go_wp2
        go_round
        case rel => exact ⟨1, by omega, rfl, hn'⟩
        case measure => simp [intOf]
    · by_cases hz : z = 32
      · subst hz
        clear hn
        go_wp2
        go_ret2
        exact ⟨rfl, rfl⟩
      · have hz1 : ((32 : Int) == z) = false := beq_eq_false_iff_ne.2 (fun e => hz e.symm)
        have hn' : Aside (Not2 z 2) := hn.out.next hz
        clear hn hz
        go_wp2
        go_round
        case rel => exact ⟨2, by omega, rfl, hn'⟩
        case measure => simp [intOf]
    · by_cases hz : z = 64
      · subst hz
        clear hn
        go_wp2
        go_ret2
        exact ⟨rfl, rfl⟩
      · have hz1 : ((64 : Int) == z) = false := beq_eq_false_iff_ne.2 (fun e => hz e.symm)
        have hn' : Aside (Not2 z 3) := hn.out.next hz
        clear hn hz
        go_wp2
        go_round
        case rel => exact ⟨3, by omega, rfl, hn'⟩
        case measure => simp [intOf]
    · by_cases hz : z = 128
      · subst hz
        clear hn
        go_wp2
        go_ret2
        exact ⟨rfl, rfl⟩
      · have hz1 : ((128 : Int) == z) = false := beq_eq_false_iff_ne.2 (fun e => hz e.symm)
        have hn' : Aside (Not2 z 4) := hn.out.next hz
        clear hn hz
        go_wp2
        go_round
        case rel => exact ⟨4, by omega, rfl, hn'⟩
        case measure => simp [intOf]
    · by_cases hz : z = 256
      · subst hz
        clear hn
        go_wp2
        go_ret2
        exact ⟨rfl, rfl⟩
      · have hz1 : ((256 : Int) == z) = false := beq_eq_false_iff_ne.2 (fun e => hz e.symm)
        have hn' : Aside (Not2 z 5) := hn.out.next hz
        clear hn hz
        go_wp2
        go_round
        case rel => exact ⟨5, by omega, rfl, hn'⟩
        case measure => simp [intOf]
    · by_cases hz : z = 512
      · subst hz
        clear hn
        go_wp2
        go_ret2
        exact ⟨rfl, rfl⟩
      · have hz1 : ((512 : Int) == z) = false := beq_eq_false_iff_ne.2 (fun e => hz e.symm)
        have hn' : Aside (Not2 z 6) := hn.out.next hz
        clear hn hz
        go_wp2
        go_round
        case rel => exact ⟨6, by omega, rfl, hn'⟩
        case measure => simp [intOf]
    · by_cases hz : z = 1024
      · subst hz
        clear hn
        go_wp2
        go_ret2
        exact ⟨rfl, rfl⟩
      · have hz1 : ((1024 : Int) == z) = false := beq_eq_false_iff_ne.2 (fun e => hz e.symm)
        have hn' : Aside (Not2 z 7) := hn.out.next hz
        clear hn hz
        go_wp2
        go_round
        case rel => exact ⟨7, by omega, rfl, hn'⟩
        case measure => simp [intOf]
    · have hp := hn.out.all
      have h1 : powS z = 0 := by unfold powS; rw [hp]; rfl
      have h2 : powB z = false := by unfold powB; rw [hp]; rfl
      have HH := Lib.hid (And.intro h1 h2)
      clear hn hp h1 h2
      go_wp2
      go_ret2
      exact ⟨by rw [HH.out.1, HH.out.2]; rfl, rfl⟩
def numB20 (n : Int) : Bool := decide (0 ≤ n ∧ n ≤ 1048575)
theorem isNum_f (n : Int) (w : World) : Calls Try.prog 44 #[.int .i64 n] w fun e w' => e = .returned (.bool (numB20 n)) ∧ w' = w := by
  by_cases h0 : 0 ≤ n
  · by_cases h1 : n ≤ 1048575
    · rw [show numB20 n = true by unfold numB20; exact decide_eq_true ⟨h0, h1⟩]
      go_enter Try.func44, Try.ntmps44
      go_wp2
      go_ret
      exact ⟨rfl, rfl⟩
    · rw [show numB20 n = false by unfold numB20; exact decide_eq_false (fun h => h1 h.2)]
      go_enter Try.func44, Try.ntmps44
      go_wp2
      go_ret
      exact ⟨rfl, rfl⟩
  · rw [show numB20 n = false by unfold numB20; exact decide_eq_false (fun h => h0 h.1)]
    go_enter Try.func44, Try.ntmps44
    go_wp2
    go_ret
    exact ⟨rfl, rfl⟩
def rightB (n z : Int) : Bool := powB z && numB20 n
theorem isRight_f (n z : Int) (w : World) : Calls Try.prog 51 #[.int .i64 n, .int .i64 z] w fun e w' => e = .returned (.bool (rightB n z)) ∧ w' = w := by
  have h1 := power_f z w
  have h2 := isNum_f n w
  generalize powS z = s at h1
  cases hp : powB z with
  | true =>
    rw [show rightB n z = numB20 n by unfold rightB; rw [hp]; rfl]
    rw [hp] at h1
    have HA := Lib.hid (And.intro h1 h2)
    clear h1 h2 hp
    go_enter Try.func51, Try.ntmps51
    go_wp2_with (first
      | (go_at_call 43; refine HA.out.1.mono ?_; rintro e w1 ⟨rfl, hw⟩; obtain rfl := hw.symm)
      | (go_at_call 44; refine HA.out.2.mono ?_; rintro e w1 ⟨rfl, hw⟩; obtain rfl := hw.symm))
    go_ret
    exact ⟨rfl, rfl⟩
  | false =>
    rw [show rightB n z = false by unfold rightB; rw [hp]; rfl]
    rw [hp] at h1
    have HA := Lib.hid (And.intro h1 h2)
    clear h1 h2 hp
    go_enter Try.func51, Try.ntmps51
    go_wp2_with (first
      | (go_at_call 43; refine HA.out.1.mono ?_; rintro e w1 ⟨rfl, hw⟩; obtain rfl := hw.symm)
      | (go_at_call 44; refine HA.out.2.mono ?_; rintro e w1 ⟨rfl, hw⟩; obtain rfl := hw.symm))
    go_ret
    exact ⟨rfl, rfl⟩
set_option maxHeartbeats 4000000 in
theorem rpower_f (z : Int) (w : World) : Calls Try.prog 47 #[.int .i64 z] w fun e w' => e = .returned (.int .i64 (powZ z)) ∧ w' = w := by
  go_enter Try.func47, Try.ntmps47
  go_wp2
  go_loop [3, 4] (fun m i => ∃ k : Nat, k ≤ 7 ∧ i = .int .i64 k ∧ m = .int .i64 (16 * 2 ^ k) ∧ Aside (Not2 z k)) (fun _ i => 7 - (intOf i).toNat)
  case atStart => exact ⟨0, by omega, rfl, rfl, fun j hj => absurd hj (by omega)⟩
  case round =>
    obtain ⟨k, hk, rfl, rfl, hn⟩ := hrel
    rcases (by omega : k = 0 ∨ k = 1 ∨ k = 2 ∨ k = 3 ∨ k = 4 ∨ k = 5 ∨ k = 6 ∨ k = 7) with rfl | rfl | rfl | rfl | rfl | rfl | rfl | rfl
    · rw [show (16 * 2 ^ 0 : Int) = 16 by decide]
      by_cases hz : z = 16
      · subst hz
        clear hn
        go_wp2
        go_ret
        exact ⟨rfl, rfl⟩
      · have hz1 : ((16 : Int) == z) = false := beq_eq_false_iff_ne.2 (fun e => hz e.symm)
        have hn' : Aside (Not2 z 1) := hn.out.next hz
        clear hn hz
        go_wp2
        go_round
        case rel => exact ⟨1, by omega, rfl, rfl, hn'⟩
        case measure => simp [intOf]
    · rw [show (16 * 2 ^ 1 : Int) = 32 by decide]
      by_cases hz : z = 32
      · subst hz
        clear hn
        go_wp2
        go_ret
        exact ⟨rfl, rfl⟩
      · have hz1 : ((32 : Int) == z) = false := beq_eq_false_iff_ne.2 (fun e => hz e.symm)
        have hn' : Aside (Not2 z 2) := hn.out.next hz
        clear hn hz
        go_wp2
        go_round
        case rel => exact ⟨2, by omega, rfl, rfl, hn'⟩
        case measure => simp [intOf]
    · rw [show (16 * 2 ^ 2 : Int) = 64 by decide]
      by_cases hz : z = 64
      · subst hz
        clear hn
        go_wp2
        go_ret
        exact ⟨rfl, rfl⟩
      · have hz1 : ((64 : Int) == z) = false := beq_eq_false_iff_ne.2 (fun e => hz e.symm)
        have hn' : Aside (Not2 z 3) := hn.out.next hz
        clear hn hz
        go_wp2
        go_round
        case rel => exact ⟨3, by omega, rfl, rfl, hn'⟩
        case measure => simp [intOf]
    · rw [show (16 * 2 ^ 3 : Int) = 128 by decide]
      by_cases hz : z = 128
      · subst hz
        clear hn
        go_wp2
        go_ret
        exact ⟨rfl, rfl⟩
      · have hz1 : ((128 : Int) == z) = false := beq_eq_false_iff_ne.2 (fun e => hz e.symm)
        have hn' : Aside (Not2 z 4) := hn.out.next hz
        clear hn hz
        go_wp2
        go_round
        case rel => exact ⟨4, by omega, rfl, rfl, hn'⟩
        case measure => simp [intOf]
    · rw [show (16 * 2 ^ 4 : Int) = 256 by decide]
      by_cases hz : z = 256
      · subst hz
        clear hn
        go_wp2
        go_ret
        exact ⟨rfl, rfl⟩
      · have hz1 : ((256 : Int) == z) = false := beq_eq_false_iff_ne.2 (fun e => hz e.symm)
        have hn' : Aside (Not2 z 5) := hn.out.next hz
        clear hn hz
        go_wp2
        go_round
        case rel => exact ⟨5, by omega, rfl, rfl, hn'⟩
        case measure => simp [intOf]
    · rw [show (16 * 2 ^ 5 : Int) = 512 by decide]
      by_cases hz : z = 512
      · subst hz
        clear hn
        go_wp2
        go_ret
        exact ⟨rfl, rfl⟩
      · have hz1 : ((512 : Int) == z) = false := beq_eq_false_iff_ne.2 (fun e => hz e.symm)
        have hn' : Aside (Not2 z 6) := hn.out.next hz
        clear hn hz
        go_wp2
        go_round
        case rel => exact ⟨6, by omega, rfl, rfl, hn'⟩
        case measure => simp [intOf]
    · rw [show (16 * 2 ^ 6 : Int) = 1024 by decide]
      by_cases hz : z = 1024
      · subst hz
        clear hn
        go_wp2
        go_ret
        exact ⟨rfl, rfl⟩
      · have hz1 : ((1024 : Int) == z) = false := beq_eq_false_iff_ne.2 (fun e => hz e.symm)
        have hn' : Aside (Not2 z 7) := hn.out.next hz
        clear hn hz
        go_wp2
        go_round
        case rel => exact ⟨7, by omega, rfl, rfl, hn'⟩
        case measure => simp [intOf]
    · have hp := Lib.hid hn.out.all
      clear hn
      go_wp2
      go_ret
      exact ⟨by rw [hp.out]; rfl, rfl⟩
theorem right_f (n z : Int) (w : World) : Calls Try.prog 46 #[.int .i64 n, .int .i64 z] w fun e w' => e = .returned (.bool (rightB n z)) ∧ w' = w := by
  have h1 := rpower_f z w
  have hr : rightB n z = decide (0 ≤ powZ z ∧ 0 ≤ n ∧ n ≤ 1048575) := by unfold rightB powB numB20; rw [← Bool.decide_and]
  rw [hr]
  generalize powZ z = p at *
  have HA := Lib.hid h1
  clear h1 hr
  by_cases hp : 0 ≤ p
  · by_cases h0 : 0 ≤ n
    · by_cases hn : n ≤ 1048575
      · rw [decide_eq_true ⟨hp, h0, hn⟩]
        have hn2 : n < 1048576 := by omega
        go_enter Try.func46, Try.ntmps46
        go_wp2_with (go_at_call 47; refine HA.out.mono ?_; rintro e w1 ⟨rfl, hw⟩; obtain rfl := hw.symm)
        go_ret
        exact ⟨rfl, rfl⟩
      · rw [decide_eq_false (fun h => hn h.2.2)]
        have hn2 : ¬ n < 1048576 := by omega
        go_enter Try.func46, Try.ntmps46
        go_wp2_with (go_at_call 47; refine HA.out.mono ?_; rintro e w1 ⟨rfl, hw⟩; obtain rfl := hw.symm)
        go_ret
        exact ⟨congrArg (fun b => Ending.returned (.bool b)) (decide_eq_false (by omega)), rfl⟩
    · rw [decide_eq_false (fun h => h0 h.2.1)]
      go_enter Try.func46, Try.ntmps46
      go_wp2_with (go_at_call 47; refine HA.out.mono ?_; rintro e w1 ⟨rfl, hw⟩; obtain rfl := hw.symm)
      go_ret
      exact ⟨rfl, rfl⟩
  · rw [decide_eq_false (fun h => hp h.1)]
    go_enter Try.func46, Try.ntmps46
    go_wp2_with (go_at_call 47; refine HA.out.mono ?_; rintro e w1 ⟨rfl, hw⟩; obtain rfl := hw.symm)
    go_ret
    exact ⟨rfl, rfl⟩
set_option maxHeartbeats 2000000 in
theorem ruint_f (N : Nat) : ∀ (w : World) (hn : (N : Int) ≤ 9223372036854775807), Calls Try.prog 48 #[.int .i64 N] w (RetOwn 5 (le N).reverse w) := by
  induction N using Nat.strongRecOn with
  | ind N ih =>
    intro w hn
    obtain ⟨i0, hi0, hz0, hz1, hz2⟩ := info_parts info_u8
    by_cases h0 : 0 < N
    · have hi := fun W => ih (N / 256) (by omega) W (by omega)
      have hlen : (le (N / 256)).length ≤ 8 := le_len 8 _ (by omega)
      have hst := le_pos h0
      have e1 : ((N / 256 : Nat) : Int) = (N : Int) / 256 := by omega
      rw [e1] at hi
      rw [hst, List.reverse_cons]
      have h0I : ¬ (N : Int) ≤ 0 := by omega
      obtain ⟨L, hL⟩ : ∃ L, (le (N / 256)).reverse = L := ⟨_, rfl⟩
      have hL8 : L.length ≤ 8 := by rw [← hL, List.length_reverse]; exact hlen
      rw [hL] at hi ⊢
      obtain ⟨q, hq⟩ : ∃ q, L.length = q := ⟨_, rfl⟩
      have hq8 : q ≤ 8 := by omega
      have HA := Lib.hid (And.intro hi hq)
      clear hi hlen hst hL8 hq e1 hL ih
      go_enter Try.func48, Try.ntmps48
      go_wp2_with (first
        | (go_at_call 48; refine (HA.out.1 _).mono ?_; rintro e w1 ⟨v1, rfl, ho1, b1⟩; rw [HA.out.2] at ho1; have HW := Lib.hid (And.intro ho1 b1); have hs1 := b1.size; clear ho1 b1)
        | (at_builtin
           refine wpList_append_bs _ rfl (.tmp 8) (.tmp 12) 22 rfl w.heap.size 5 i0 Try.underlying22 hi0 hz0 hz1 hz2 _ q _ rfl (HW.out.1.alloc _) (w1.heap.size + 1) (some ⟨w1.heap.size, 0, none⟩) 1 1 [UInt8.ofNat (N % 256)] rfl (Bs.lit_ w1 5 _ _ _ (lit_byte N)) (by omega) (by rw [alloc_size]; omega) ?_
           intro v' w2 hown1 hgrow
           have HY : Aside _ := And.intro hown1 ((HW.out.2.alloc hs1 _).grown hgrow (by rw [alloc_size]; omega) (own_ge HW.out.1))
           clear hown1 hgrow))
      go_ret
      refine ⟨_, rfl, ?_, HY.out.2⟩
      rw [List.length_append, HA.out.2, U8_append]
      exact HY.out.1
    · obtain rfl : N = 0 := by omega
      rw [le_zero]
      go_enter Try.func48, Try.ntmps48
      go_wp2
      go_ret
      exact ⟨_, rfl, World.ownsRow_lit w #[] 0 (Nat.le_refl _) (by simp [maxLen]) rfl, alloc_below _ _⟩
set_option maxHeartbeats 2000000 in
theorem rnumber_f (A : Option Addr) (n c : Nat) (l : List UInt8) (w : World) (B : Nat) (hbs : Bs w B A n l) :
    Calls Try.prog 50 #[.slice A n c] w fun e w' => e = .returned (.tuple #[.int .i64 (numB l).1, .bool (numB l).2]) ∧ w' = w := by
  have HB := Lib.hid hbs
  have hln := hbs.len
  clear hbs
  by_cases h7 : (7 : Int) < n
  · have hr : numB l = (0, false) := by unfold numB; rw [if_pos (by omega)]
    rw [hr]
    clear hr hln
    go_enter Try.func50, Try.ntmps50
    go_wp2
    go_ret2
    exact ⟨rfl, rfl⟩
  · have hr : numB l = ((numOf l : Int), true) := by unfold numB; rw [if_neg (by omega)]
    rw [hr]
    have HLn := Lib.hid hln
    clear hr hln
    go_enter Try.func50, Try.ntmps50
    go_wp2
    go_loop [4, 5] (fun m i => ∃ k : Nat, k ≤ n ∧ i = .int .i64 k ∧ m = .int .i64 (numOf (l.take k) : Int)) (fun _ i => n - (intOf i).toNat)
    case atStart => exact ⟨0, by omega, rfl, rfl⟩
    case round =>
      obtain ⟨k, hk, rfl, rfl⟩ := hrel
      by_cases hlt : k < n
      · obtain ⟨b, off, rfl, hb, hc⟩ := HB.out.place (by omega)
        obtain ⟨u, hu⟩ := byte_get (l := l) (k := k) (by have := HLn.out; omega)
        have ck := hc k u hu
        have hs : numOf (l.take (k + 1)) = numOf (l.take k) * 256 + u.toNat := by rw [List.take_add_one, hu]; exact numOf_snoc _ _
        have hlt2 := numOf_lt (l.take k)
        have hm : numOf (l.take k) < 281474976710656 := by
          have h1 : (l.take k).length ≤ 6 := by rw [List.length_take]; omega
          have h2 := Nat.pow_le_pow_right (n := 256) (by decide) h1
          have h3 : 256 ^ 6 = 281474976710656 := by decide
          omega
        have HS := Lib.hid hs
        generalize numOf (l.take k) = a at *
        have hub := byte_lt u
        obtain ⟨x, hx⟩ : ∃ x : Int, (u.toNat : Int) = x := ⟨_, rfl⟩
        rw [hx] at ck hub
        have HXe := Lib.hid hx
        have hx0 : 0 ≤ x := by omega
        have hai : (a : Int) < 281474976710656 := by omega
        clear hc hu hs hlt2 hm hx
        go_wp2
        go_round
        case rel =>
          refine ⟨k + 1, by omega, by go_num, ?_⟩
          rw [HS.out]
          exact congrArg _ (by have := HXe.out; omega)
        case measure => simp [intOf]; omega
      · obtain rfl : k = n := by omega
        rw [List.take_of_length_le (by have := HLn.out; omega)]
        go_wp2
        go_ret2
        exact ⟨rfl, rfl⟩
end Go.Proofs.Ytdgihhepmmkkpaa
