/-
  The document's answer for names.
-/
import Derived.Test.YtiieianbmldnbaaDoorImgName
namespace Go.Proofs.YtiieianbmldnbaaDoor
open Go.RowKit
set_option maxRecDepth 100000
set_option maxRecDepth 100000
theorem rnamed_none (w : World) (s : ByteArray) (h : s.size < 1) : Calls Tryd.prog 22 #[.string s] w fun e w' => e = .returned (.bool false) ∧ w' = w := by
  have h1 : (s.size : Int) < 1 := by omega
  go_enter Tryd.func22, Tryd.ntmps22
  go_wp2
  go_ret
  exact ⟨rfl, rfl⟩
theorem rnamed_long (w : World) (s : ByteArray) (h : 16 < s.size) : Calls Tryd.prog 22 #[.string s] w fun e w' => e = .returned (.bool false) ∧ w' = w := by
  have h1 : ¬ (s.size : Int) < 1 := by omega
  have h2 : (16 : Int) < s.size := by omega
  go_enter Tryd.func22, Tryd.ntmps22
  go_wp2
  go_ret
  exact ⟨rfl, rfl⟩
set_option maxHeartbeats 4000000 in
theorem rnamed_few (w : World) (s : ByteArray) (h0 : 1 ≤ s.size) (h : s.size ≤ 16) : Calls Tryd.prog 22 #[.string s] w fun e w' => e = .returned (.bool (named s.data.toList)) ∧ w' = w := by
  have h1 : ¬ (s.size : Int) < 1 := by omega
  have h2 : ¬ (16 : Int) < s.size := by omega
  have h16 : (s.size : Int) ≤ 16 := by omega
  go_enter Tryd.func22, Tryd.ntmps22
  go_wp2
  go_loop [3] (fun i => ∃ k : Nat, k ≤ s.size ∧ i = .int .i64 k ∧ Hid (∀ i u, i < k → s.data.toList[i]? = some u → sign u.toNat = true)) (fun i => s.size - (intOf i).toNat)
  case atStart => exact ⟨0, by omega, rfl, fun i u hi => absurd hi (by omega)⟩
  case round =>
    obtain ⟨k, hk, rfl, hall⟩ := hrel
    by_cases hlt : k < s.size
    · have hu := Lib.hid (getD_at s k hlt)
      have hki : (k : Int) < s.size := by omega
      obtain ⟨r, hr⟩ : ∃ r, (s[k]'hlt).toNat = r := ⟨_, rfl⟩
      have Hr := Lib.hid hr
      by_cases c1 : (97 : Int) ≤ ((s[k]'hlt).toNat : Int) <;> by_cases c2 : ((s[k]'hlt).toNat : Int) ≤ 122 <;> by_cases c3 : (48 : Int) ≤ ((s[k]'hlt).toNat : Int) <;> by_cases c4 : ((s[k]'hlt).toNat : Int) ≤ 57 <;>
        rcases Bool.eq_false_or_eq_true (((s[k]'hlt).toNat : Int) == 46) with c5 | c5 <;> rcases Bool.eq_false_or_eq_true (((s[k]'hlt).toNat : Int) == 45) with c6 | c6 <;> rcases Bool.eq_false_or_eq_true (((s[k]'hlt).toNat : Int) == 95) with c7 | c7
      all_goals
        first
        | (exfalso; simp only [beq_iff_eq, beq_eq_false_iff_ne] at c5 c6 c7; omega)
        | (have hv : sign (s[k]'hlt).toNat = true := by
             simp only [beq_iff_eq, beq_eq_false_iff_ne] at c5 c6 c7
             exact decide_eq_true (by omega)
           have Hv := Lib.hid hv
           clear hv hr
           go_wp2
           go_round
           case rel =>
             refine ⟨k + 1, by omega, by go_num, fun i u hi hiu => ?_⟩
             by_cases e : i = k
             · subst e
               rw [hu.out] at hiu
               injection hiu with hiu
               rw [← hiu]; exact Hv.out
             · exact hall i u (by omega) hiu
           case measure => simp [intOf]; omega)
        | (have hv : sign (s[k]'hlt).toNat = false := by
             simp only [beq_eq_false_iff_ne] at c5 c6 c7
             exact decide_eq_false (by omega)
           have Hp := Lib.hid (named_bad hu.out hv)
           clear hv hr
           go_wp2
           go_ret
           rw [Hp.out]
           exact ⟨rfl, rfl⟩)
    · obtain rfl : k = s.size := by omega
      have Hp := Lib.hid (named_good (l := s.data.toList) (n := s.size) (by rw [Array.length_toList]; rfl) h0 h hall)
      clear hall
      go_wp2
      go_ret
      rw [Hp.out]
      exact ⟨rfl, rfl⟩
theorem rnamed_any (w : World) (s : ByteArray) : Calls Tryd.prog 22 #[.string s] w fun e w' => e = .returned (.bool (named s.data.toList)) ∧ w' = w := by
  have hl : s.data.toList.length = s.size := by rw [Array.length_toList]; rfl
  by_cases h0 : 1 ≤ s.size
  · by_cases h : s.size ≤ 16
    · exact rnamed_few w s h0 h
    · rw [named_len (by omega)]; exact rnamed_long w s (by omega)
  · rw [named_len (by omega)]; exact rnamed_none w s (by omega)
end Go.Proofs.YtiieianbmldnbaaDoor
