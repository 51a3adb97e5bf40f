/-
  Options of a row: two stretches of it changed for each other; a row turned about a place.
-/
import Derived.Test.YtfbddldcbjhmiaaOptStable
namespace Go.Proofs.Ytfbddldcbjhmiaa
open Go.RowKit
set_option maxRecDepth 100000
set_option linter.unusedVariables false
theorem swap_two (x y : Sv) (M V : List Sv) : ∀ U : List Sv, ((U ++ x :: (M ++ y :: V)).set U.length y).set (U.length + 1 + M.length) x = U ++ y :: (M ++ x :: V)
  | [] => by
    rw [List.nil_append, List.length_nil, List.set_cons_zero, show 0 + 1 + M.length = M.length + 1 by omega, List.set_cons_succ, List.set_append_right _ _ (Nat.le_refl _), Nat.sub_self, List.set_cons_zero]
    rfl
  | u :: U => by
    have ih := swap_two x y M V U
    rw [List.cons_append, List.length_cons, List.set_cons_succ, show U.length + 1 + 1 + M.length = (U.length + 1 + M.length) + 1 by omega, List.set_cons_succ, ih]
    rfl
theorem get_app {U V : List Sv} {x : Sv} {k : Nat} (h : U.length = k) : (U ++ x :: V)[k]? = some x := by
  rw [List.getElem?_append_right (by omega), h, Nat.sub_self]; rfl
set_option maxHeartbeats 1600000 in
theorem swapr_f (g n cap : Nat) (P A M B S : List Sv) (w : World) (base : Nat) (hrow : w.ownsRow base 36 2 (.slice (some ⟨g, 0, none⟩) n cap) n (svs (P ++ (A ++ (M ++ (B ++ S)))))) (i j k : Nat) (hi : P.length = i) (hj : i + k + M.length = j) (hA : A.length = k) (hB : B.length = k) (hn : n ≤ 1048576) (fv : Value) :
    Calls Try.prog 94 #[.slice (some ⟨g, 0, none⟩) n cap, .int .i64 i, .int .i64 j, .int .i64 k, fv] w fun e w' => e = .returned (.tuple #[]) ∧ w'.ownsRow base 36 2 (.slice (some ⟨g, 0, none⟩) n cap) n (svs (P ++ (B ++ (M ++ (A ++ S))))) ∧ w.grownBy w' (some g) := by
  have hXl := row_len hrow
  simp only [List.length_append] at hXl
  have hnI : (n : Int) ≤ 1048576 := by omega
  have hkI : (k : Int) ≤ n := by omega
  have HR := Lib.hid (And.intro hrow (And.intro hi (And.intro hj (And.intro hA (And.intro hB hXl)))))
  clear hrow hXl hi hj hA hB
  go_enter Try.func94, Try.ntmps94
  go_wp2
  go_loopw [10] (fun z wr => ∃ t : Nat, t ≤ k ∧ z = .int .i64 t ∧ wr.ownsRow base 36 2 (.slice (some ⟨g, 0, none⟩) n cap) n (svs (P ++ (B.take t ++ (A.drop t ++ (M ++ (A.take t ++ (B.drop t ++ S))))))) ∧ w.grownBy wr (some g)) (fun z _ => k - (intOf z).toNat)
  case atStart => exact ⟨0, by omega, rfl, by simpa using HR.out.1, World.grownBy.refl _ _⟩
  case round =>
    obtain ⟨t, ht, rfl, hrow, hgr⟩ := hrel
    by_cases hlt : t < k
    · obtain ⟨_, hi, hj, hA, hB, hXl⟩ := HR.out
      obtain ⟨x, hx⟩ : ∃ x, A[t]? = some x := ⟨_, List.getElem?_eq_getElem (by omega)⟩
      obtain ⟨y, hy⟩ : ∃ y, B[t]? = some y := ⟨_, List.getElem?_eq_getElem (by omega)⟩
      have hdx := drop_pred hx
      have hdy := drop_pred hy
      have htx := take_pred hx
      have hty := take_pred hy
      obtain ⟨U, hU⟩ : ∃ U, P ++ B.take t = U := ⟨_, rfl⟩
      obtain ⟨N, hN⟩ : ∃ N, A.drop (t + 1) ++ (M ++ A.take t) = N := ⟨_, rfl⟩
      obtain ⟨V, hV⟩ : ∃ V, B.drop (t + 1) ++ S = V := ⟨_, rfl⟩
      have hnow : P ++ (B.take t ++ (A.drop t ++ (M ++ (A.take t ++ (B.drop t ++ S))))) = U ++ x :: (N ++ y :: V) := by
        rw [hdx, hdy, ← hU, ← hN, ← hV]; simp
      have hnext : P ++ (B.take (t + 1) ++ (A.drop (t + 1) ++ (M ++ (A.take (t + 1) ++ (B.drop (t + 1) ++ S))))) = U ++ y :: (N ++ x :: V) := by
        rw [htx, hty, ← hU, ← hN, ← hV]; simp
      have hUl : U.length = i + t := by rw [← hU, List.length_append, List.length_take, hi]; omega
      have hNl : U.length + 1 + N.length = j + t := by rw [hUl, ← hN, List.length_append, List.length_append, List.length_drop, List.length_take]; omega
      obtain ⟨p, hp⟩ : ∃ p, p = i + t := ⟨_, rfl⟩
      obtain ⟨q, hq⟩ : ∃ q, q = j + t := ⟨_, rfl⟩
      rw [hnow] at hrow
      rw [← hp] at hUl
      rw [← hq] at hNl
      have hgx : (U ++ x :: (N ++ y :: V))[p]? = some x := get_app hUl
      have hgy : (U ++ x :: (N ++ y :: V))[q]? = some y := by
        have : U ++ x :: (N ++ y :: V) = (U ++ x :: N) ++ y :: V := by simp
        rw [this]
        exact get_app (by rw [List.length_append, List.length_cons]; omega)
      have hpq : p < q := by omega
      have hqn : q < n := by omega
      have hpI : (i : Int) + (t : Int) = (p : Int) := by omega
      have hqI : (j : Int) + (t : Int) = (q : Int) := by omega
      have hpn : (p : Int) < n := by omega
      have hqn' : (q : Int) < n := by omega
      have htk : (t : Int) < k := by omega
      obtain ⟨c0, c1⟩ := row_at hrow hgx
      obtain ⟨c2, c3⟩ := row_at hrow hgy
      have f0 := hrow.frozenAt (p * 2)
      have f1 := hrow.frozenAt (p * 2 + 1)
      have f2 := hrow.frozenAt (q * 2)
      have f3 := hrow.frozenAt (q * 2 + 1)
      have e1 : ¬ q * 2 = p * 2 := by omega
      have e2 : ¬ q * 2 = p * 2 + 1 := by omega
      have e3 : ¬ q * 2 + 1 = p * 2 := by omega
      have e4 : ¬ q * 2 + 1 = p * 2 + 1 := by omega
      have e5 : ¬ p * 2 = q * 2 := by omega
      have e6 : ¬ p * 2 + 1 = q * 2 := by omega
      have e7 : ¬ p * 2 = q * 2 + 1 := by omega
      have HX := Lib.hid (And.intro hrow (And.intro hgr (And.intro hnext (And.intro hUl hNl))))
      clear hrow hgr hnow hnext hUl hNl hgx hgy hU hN hV hdx hdy htx hty hx hy hp hq hXl hi hj hA hB
      obtain ⟨xk, xA, xn, xc⟩ := x
      obtain ⟨yk, yA, yn, yc⟩ := y
      dsimp only at c0 c1 c2 c3
      go_wp2_with fail
      go_region
      all_goals
        go_wp2
        go_roundw
        case rel =>
          obtain ⟨hrow, hgr, hnext, hUl, hNl⟩ := HX.out
          obtain ⟨a1, b1⟩ := row_put hrow p ⟨yk, yA, yn, yc⟩
          obtain ⟨a2, b2⟩ := row_put a1 q ⟨xk, xA, xn, xc⟩
          have hl := swap_two ⟨xk, xA, xn, xc⟩ ⟨yk, yA, yn, yc⟩ N V U
          rw [hNl, hUl] at hl
          rw [hl, ← hnext] at a2
          refine ⟨t + 1, by omega, by go_num, ?_, (by have hz := grownBy_trans (grownBy_trans hgr b1) b2; exact ⟨hz.os, hz.tape, hz.output, hz.size, hz.block⟩)⟩
          exact a2
        case measure => simp [intOf]; omega
    · obtain rfl : t = k := by omega
      have hA := HR.out.2.2.2.1
      have hB := HR.out.2.2.2.2.1
      rw [List.take_of_length_le (by omega), List.take_of_length_le (by omega), List.drop_eq_nil_of_le (by omega), List.drop_eq_nil_of_le (by omega), List.nil_append, List.nil_append] at hrow
      have HX := Lib.hid (And.intro hrow hgr)
      clear hrow hgr hA hB
      go_wp2
      refine bodyPost_end (results_none rfl _ _ _) rfl ?_
      exact ⟨rfl, HX.out.1, HX.out.2⟩
set_option maxHeartbeats 1600000 in
theorem rot_f (g n cap : Nat) (P L R S : List Sv) (w : World) (base : Nat) (hrow : w.ownsRow base 36 2 (.slice (some ⟨g, 0, none⟩) n cap) n (svs (P ++ (L ++ (R ++ S))))) (a m b : Nat) (hP : P.length = a) (hL : a + L.length = m) (hR : m + R.length = b) (h1 : a < m) (h2 : m < b) (hn : n ≤ 1048576) (fv : Value) :
    Calls Try.prog 93 #[.slice (some ⟨g, 0, none⟩) n cap, .int .i64 a, .int .i64 m, .int .i64 b, fv] w fun e w' => e = .returned (.tuple #[]) ∧ w'.ownsRow base 36 2 (.slice (some ⟨g, 0, none⟩) n cap) n (svs (P ++ (R ++ (L ++ S)))) ∧ w.grownBy w' (some g) := by
  have hXl := row_len hrow
  simp only [List.length_append] at hXl
  have hbn : (b : Int) ≤ 1048576 := by omega
  have hmI : (m : Int) < b := by omega
  have haI : (a : Int) < m := by omega
  obtain ⟨Z, hZ⟩ : ∃ Z, P ++ (R ++ (L ++ S)) = Z := ⟨_, rfl⟩
  have HR := Lib.hid (And.intro hrow (And.intro hP (And.intro hL (And.intro hR (And.intro hXl hZ)))))
  rw [hZ]
  clear hrow hXl hP hL hR hZ
  go_enter Try.func93, Try.ntmps93
  go_wp2
  go_loopw [10, 11] (fun x y wr => ∃ (i j : Nat) (P' L' R' S' : List Sv), x = .int .i64 i ∧ y = .int .i64 j ∧ 1 ≤ i ∧ 1 ≤ j ∧ i ≤ m ∧ m + j ≤ b ∧ Aside (P'.length + i = m ∧ L'.length = i ∧ R'.length = j ∧ P' ++ (R' ++ (L' ++ S')) = Z) ∧ wr.ownsRow base 36 2 (.slice (some ⟨g, 0, none⟩) n cap) n (svs (P' ++ (L' ++ (R' ++ S')))) ∧ w.grownBy wr (some g)) (fun x y _ => (intOf x).toNat + (intOf y).toNat)
  case atStart =>
    obtain ⟨hrow, hP, hL, hR, hXl, hZ⟩ := HR.out
    refine ⟨m - a, b - m, P, L, R, S, by go_num, by go_num, by omega, by omega, by omega, by omega, (show Aside _ from ⟨by omega, by omega, by omega, hZ⟩), hrow, World.grownBy.refl _ _⟩
  case round =>
    obtain ⟨i, j, P', L', R', S', rfl, rfl, hi1, hj1, him, hjb, hst, hrow, hgr⟩ := hrel
    have hnn : n ≤ 1048576 := hn
    obtain ⟨hP', hL', hR', hZ'⟩ := hst.out
    by_cases hij : i = j
    · subst hij
      have hc := swapr_f g n cap P' L' [] R' S' wr base (by simpa using hrow) (m - i) m i (by omega) (by simp; omega) hL' hR' hn fv
      have hz2 : P' ++ (R' ++ ([] ++ (L' ++ S'))) = Z := by simpa using hZ'
      rw [hz2] at hc
      have hmi : (m : Int) - (i : Int) = ((m - i : Nat) : Int) := by omega
      obtain ⟨d, hd⟩ : ∃ d, m - i = d := ⟨_, rfl⟩
      rw [hd] at hc hmi
      have hdm : (d : Int) ≤ m := by omega
      have himI : (i : Int) ≤ m := by omega
      have hne : ((i : Int) != (i : Int)) = false := bne_self_eq_false _
      have HX := Lib.hid (And.intro hc hgr)
      clear hrow hgr hc hz2 hst hP' hL' hR' hZ' hd
      go_wp2_with (go_at_call 94; refine HX.out.1.mono ?_; rintro e w2 ⟨rfl, ho, hg⟩; have H2 := Lib.hid (And.intro ho hg); clear ho hg)
      refine bodyPost_end (results_none rfl _ _ _) rfl ?_
      exact ⟨rfl, H2.out.1, grownBy_trans HX.out.2 H2.out.2⟩
    · have hne : ((i : Int) != (j : Int)) = true := bne_iff_ne.2 (by omega)
      by_cases hgt : j < i
      · obtain ⟨L1, L2, rfl, hl1⟩ : ∃ L1 L2, L' = L1 ++ L2 ∧ L1.length = j := ⟨L'.take j, L'.drop j, (List.take_append_drop _ _).symm, by rw [List.length_take]; omega⟩
        rw [List.length_append] at hL'
        have hc := swapr_f g n cap P' L1 L2 R' S' wr base (by simpa using hrow) (m - i) m j (by omega) (by omega) hl1 hR' hn fv
        have hmi : (m : Int) - (i : Int) = ((m - i : Nat) : Int) := by omega
        obtain ⟨d, hd⟩ : ∃ d, m - i = d := ⟨_, rfl⟩
        rw [hd] at hc hmi
        have hdm : (d : Int) ≤ m := by omega
        have himI : (i : Int) ≤ m := by omega
        have hgtI : (j : Int) < i := by omega
        have HX := Lib.hid (And.intro hc (And.intro hgr (And.intro hP' (And.intro hL' (And.intro hR' (And.intro hZ' hl1))))))
        clear hrow hgr hc hst hP' hL' hR' hZ' hd hl1
        go_wp2_with (go_at_call 94; refine HX.out.1.mono ?_; rintro e w2 ⟨rfl, ho, hg⟩; have H2 := Lib.hid (And.intro ho hg); clear ho hg)
        go_roundw
        case rel =>
          obtain ⟨_, hgr, hP', hL', hR', hZ', hl1⟩ := HX.out
          refine ⟨i - j, j, P' ++ R', L2, L1, S', by go_num, rfl, by omega, by omega, by omega, by omega, (show Aside _ from ⟨by rw [List.length_append]; omega, by omega, hl1, by rw [← hZ']; simp⟩), ?_, grownBy_trans hgr H2.out.2⟩
          have e : (P' ++ R') ++ (L2 ++ (L1 ++ S')) = P' ++ (R' ++ (L2 ++ (L1 ++ S'))) := by simp
          rw [e]
          exact H2.out.1
        case measure => simp [intOf]; omega
      · obtain ⟨R1, R2, rfl, hr1⟩ : ∃ R1 R2, R' = R1 ++ R2 ∧ R1.length = j - i := ⟨R'.take (j - i), R'.drop (j - i), (List.take_append_drop _ _).symm, by rw [List.length_take]; omega⟩
        rw [List.length_append] at hR'
        have hc := swapr_f g n cap P' L' R1 R2 S' wr base (by simpa using hrow) (m - i) (m + j - i) i (by omega) (by omega) hL' (by omega) hn fv
        have hmi : (m : Int) - (i : Int) = ((m - i : Nat) : Int) := by omega
        have hmj : (m : Int) + (j : Int) - (i : Int) = ((m + j - i : Nat) : Int) := by omega
        obtain ⟨d, hd⟩ : ∃ d, m - i = d := ⟨_, rfl⟩
        obtain ⟨d2, hd2⟩ : ∃ d2, m + j - i = d2 := ⟨_, rfl⟩
        rw [hd, hd2] at hc
        rw [hd] at hmi
        rw [hd2] at hmj
        have hdm : (d : Int) ≤ m := by omega
        have himI : (i : Int) ≤ m := by omega
        have hjbI : (m : Int) + j ≤ b := by omega
        have hgtI : ¬ (j : Int) < i := by omega
        have HX := Lib.hid (And.intro hc (And.intro hgr (And.intro hP' (And.intro hL' (And.intro hR' (And.intro hZ' hr1))))))
        clear hrow hgr hc hst hP' hL' hR' hZ' hd hd2 hr1
        go_wp2_with (go_at_call 94; refine HX.out.1.mono ?_; rintro e w2 ⟨rfl, ho, hg⟩; have H2 := Lib.hid (And.intro ho hg); clear ho hg)
        go_roundw
        case rel =>
          obtain ⟨_, hgr, hP', hL', hR', hZ', hr1⟩ := HX.out
          refine ⟨i, j - i, P', R2, R1, L' ++ S', rfl, by go_num, by omega, by omega, by omega, by omega, (show Aside _ from ⟨hP', by omega, by omega, by rw [← hZ']; simp⟩), ?_, grownBy_trans hgr H2.out.2⟩
          exact H2.out.1
        case measure => simp [intOf]; omega
end Go.Proofs.Ytfbddldcbjhmiaa
