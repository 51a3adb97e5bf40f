/-
  Options of a row: a last one merged; two sorted stretches merged.
-/
import Derived.Test.YtfbddldcbjhmiaaOptMerge
namespace Go.Proofs.Ytfbddldcbjhmiaa
open Go.RowKit
set_option maxRecDepth 100000
set_option linter.unusedVariables false
set_option maxHeartbeats 3200000 in
theorem merge_right (g n cap : Nat) (P L : List Sv) (y : Sv) (S : List Sv) (w : World) (base : Nat) (hrow : w.ownsRow base 36 2 (.slice (some ⟨g, 0, none⟩) n cap) n (svs (P ++ (L ++ y :: S)))) (a m b : Nat) (hP : P.length = a) (hm : a + L.length = m) (hR : b = m + 1) (hL1 : L.length ≠ 1) (hu : Up L) (hn : n ≤ 1048576) :
    Calls Try.prog 91 #[.slice (some ⟨g, 0, none⟩) n cap, .int .i64 a, .int .i64 m, .int .i64 b, .func (.func 71) #[] #[]] w fun e w' => e = .returned (.tuple #[]) ∧ w'.ownsRow base 36 2 (.slice (some ⟨g, 0, none⟩) n cap) n (svs (P ++ (sortS (L ++ [y]) ++ S))) ∧ w.grownBy w' (some g) := by
  have hXl := row_len hrow
  simp only [List.length_append, List.length_cons] at hXl
  have hbn : (b : Int) ≤ 1048576 := by omega
  have hmb : (m : Int) < b := by omega
  have ham : (a : Int) ≤ m := by omega
  have hma : ((m : Int) - (a : Int) == 1) = false := by simp; omega
  have hbm : (b : Int) - (m : Int) = 1 := by omega
  have hmnI : (m : Int) < n := by omega
  obtain ⟨X, hX⟩ : ∃ X, P ++ (L ++ y :: S) = X := ⟨_, rfl⟩
  rw [hX] at hrow
  have hym : X[m]? = some y := by rw [← hX, ← List.append_assoc]; exact get_app (by rw [List.length_append]; omega)
  have hLX : ∀ (k : Nat) (x : Sv), L[k]? = some x → X[a + k]? = some x := fun k x hx => by
    rw [← hX, List.getElem?_append_right (by omega), show a + k - P.length = k by omega, List.getElem?_append_left (List.getElem?_eq_some_iff.1 hx).1]
    exact hx
  have HR := Lib.hid (And.intro hrow (And.intro hP (And.intro hm (And.intro hR (And.intro hXl (And.intro hX (And.intro hym (And.intro hLX hu))))))))
  have hmn2 : m < n := by omega
  have hml : m - a = L.length := by omega
  clear hrow hXl hP hm hR hX hym hLX
  go_enter Try.func91, Try.ntmps91
  go_wp2
  go_loopw [14, 15, 16] (fun i j _ wr => ∃ (p q : Nat), i = .int .i64 (p : Int) ∧ j = .int .i64 (q : Int) ∧ a ≤ p ∧ p ≤ q ∧ q ≤ m ∧ Aside ((∀ (k : Nat) (x : Sv), k < p - a → L[k]? = some x → x.k ≤ y.k) ∧ (∀ (k : Nat) (x : Sv), q - a ≤ k → L[k]? = some x → y.k < x.k)) ∧ wr.ownsRow base 36 2 (.slice (some ⟨g, 0, none⟩) n cap) n (svs X) ∧ w.grownBy wr (some g)) (fun i j _ _ => (intOf j).toNat - (intOf i).toNat)
  case atStart => exact ⟨a, m, rfl, rfl, Nat.le_refl _, by omega, Nat.le_refl _, (show Aside _ from ⟨fun k y h => absurd h (by omega), fun k y h hy => absurd (List.getElem?_eq_some_iff.1 hy).1 (by omega)⟩), HR.out.1, World.grownBy.refl _ _⟩
  case round =>
    obtain ⟨p, q, rfl, rfl, hmp, hpq, hqb, hst, hrow, hgr⟩ := hrel
    by_cases hlt : p < q
    · obtain ⟨_, hP, hm, hR, hXl, hX, hym, hLX, hu⟩ := HR.out
      obtain ⟨h, hh⟩ : ∃ h, h = (p + q) / 2 := ⟨_, rfl⟩
      obtain ⟨x, hx⟩ : ∃ x, L[h - a]? = some x := ⟨_, List.getElem?_eq_getElem (by omega)⟩
      have hxX := hLX _ x hx
      rw [show a + (h - a) = h by omega] at hxX
      obtain ⟨c0, c1⟩ := row_at hrow hxX
      obtain ⟨c2, c3⟩ := row_at hrow hym
      obtain ⟨s, hs⟩ : ∃ s, s = p + q := ⟨_, rfl⟩
      have hsI : (p : Int) + (q : Int) = (s : Int) := by omega
      have hhI : (s : Int) / 2 = (h : Int) := by omega
      have hsb : (s : Int) ≤ 2097152 := by omega
      have hhn : (h : Int) < n := by omega
      have hltI : (p : Int) < q := by omega
      have hph : p ≤ h := by omega
      have hhq : h < q := by omega
      obtain ⟨z, hz⟩ : ∃ z, cmpI y.k x.k = z := ⟨_, rfl⟩
      have hcall := fun W => cmp_f y x W
      rw [hz] at hcall
      have hzl := cmpI_lt y.k x.k
      rw [hz] at hzl
      have HC := Lib.hid hcall
      have HX := Lib.hid (And.intro hrow (And.intro hgr (And.intro hst hx)))
      clear hrow hgr hst hx hxX hcall hz hP hm hR hXl hX hym hLX hh hs
      obtain ⟨yk, yA, yn, yc⟩ := y
      obtain ⟨xk, xA, xn, xc⟩ := x
      dsimp only at c0 c1 c2 c3 hzl
      by_cases hlt2 : yk < xk
      · rw [decide_eq_true hlt2] at hzl
        go_wp2_with fail
        go_still_tail 9, (by kernel_rfl)
        go_wp2_with (go_at_call 71; refine (HC.out _).mono ?_; rintro e w2 ⟨rfl, b2⟩; have H2 : Hid (Below wr.heap.size wr w2) := Lib.hid ⟨b2.os, b2.tape, b2.output, b2.size, b2.block⟩; clear b2)
        go_roundw
        case rel =>
          obtain ⟨hrow, hgr, hst, hx⟩ := HX.out
          refine ⟨p, h, rfl, rfl, hmp, by omega, by omega, (show Aside _ from ⟨hst.out.1, fun k y' hk hy' => ?_⟩), row_below hrow H2.out, grownBy_trans hgr (grownBy_below _ H2.out)⟩
          have := up_le hu hx hy' hk
          exact Int.lt_of_lt_of_le hlt2 this
        case measure => simp [intOf]; omega
      · rw [decide_eq_false hlt2] at hzl
        go_wp2_with fail
        go_still_tail 9, (by kernel_rfl)
        go_wp2_with (go_at_call 71; refine (HC.out _).mono ?_; rintro e w2 ⟨rfl, b2⟩; have H2 : Hid (Below wr.heap.size wr w2) := Lib.hid ⟨b2.os, b2.tape, b2.output, b2.size, b2.block⟩; clear b2)
        go_roundw
        case rel =>
          obtain ⟨hrow, hgr, hst, hx⟩ := HX.out
          refine ⟨h + 1, q, by go_num, rfl, by omega, by omega, hqb, (show Aside _ from ⟨fun k y' hk hy' => ?_, hst.out.2⟩), row_below hrow H2.out, grownBy_trans hgr (grownBy_below _ H2.out)⟩
          have h9 : y'.k ≤ xk := up_le hu hy' hx (by omega)
          show y'.k ≤ yk
          omega
        case measure => simp [intOf]; omega
    · obtain rfl : p = q := by omega
      obtain ⟨_, hP, hm, hR, hXl, hX, hym, hLX, hu⟩ := HR.out
      obtain ⟨d, hd⟩ : ∃ d, p = a + d := ⟨p - a, by omega⟩
      have hdL : d ≤ L.length := by omega
      have hfin : L.take d ++ y :: L.drop d = sortS (L ++ [y]) := by
        have h := merge_is (L1 := L.take d) (L2 := L.drop d) (R1 := [y]) (R2 := []) (by rw [List.take_append_drop]; exact hu) (List.pairwise_singleton _ _) (fun z hz y' hy => by
          obtain rfl := List.mem_singleton.1 hy
          obtain ⟨k, hk, hz⟩ := drop_mem hz
          exact hst.out.2 k z (by omega) hz) (fun z hz y hy => by cases hy)
        rw [List.append_nil, List.append_nil, ← List.append_assoc, List.take_append_drop, sortS_id (up_drop hu d)] at h
        rw [sortS_id (List.pairwise_append.2 ⟨up_take hu d, List.pairwise_singleton _ _, fun z hz y' hy => by
          obtain rfl := List.mem_singleton.1 hy
          obtain ⟨k, hk, hz⟩ := take_mem hz
          exact hst.out.1 k z (by omega) hz⟩)] at h
        rw [← h]; simp
      have HX := Lib.hid (And.intro hrow (And.intro hgr (And.intro hfin (And.intro hdL (And.intro hd (And.intro hP (And.intro hR (And.intro hXl (And.intro hX hm)))))))))
      have hdI : (p : Int) = (a : Int) + (d : Int) := by omega
      have hpn : (p : Int) ≤ n := by omega
      have hnI : (n : Int) ≤ 1048576 := by omega
      clear hrow hgr hfin hst hP hR hXl hX hym hLX hu hm
      go_wp2_with fail
      obtain ⟨wo, rfl⟩ : ∃ wo : World, wo = wr := ⟨_, rfl⟩
      go_loopw [17] (fun k wi => ∃ (t e : Nat), d ≤ t ∧ t ≤ L.length ∧ e = a + t ∧ k = .int .i64 (e : Int) ∧ wi.ownsRow base 36 2 (.slice (some ⟨g, 0, none⟩) n cap) n (svs (P ++ (L.take t ++ y :: (L.drop t ++ S)))) ∧ w.grownBy wi (some g)) (fun k _ => (intOf k).toNat)
      case atStart =>
        obtain ⟨hrow, hgr, hfin, hdL, hd, hP, hR, hXl, hX, hm⟩ := HX.out
        refine ⟨L.length, m, hdL, Nat.le_refl _, by omega, rfl, ?_, hgr⟩
        rw [List.take_length, List.drop_length, List.nil_append, hX]
        exact hrow
      case round =>
        obtain ⟨t, e, ht, htl, he, rfl, hrow2, hgr2⟩ := hrel
        by_cases hlt3 : d < t
        · obtain ⟨hrow, hgr, hfin, hdL', hd', hP, hR, hXl, hX, hm⟩ := HX.out
          obtain ⟨t', rfl⟩ : ∃ t', t = t' + 1 := ⟨t - 1, by omega⟩
          obtain ⟨x, hx⟩ : ∃ x, L[t']? = some x := ⟨_, List.getElem?_eq_getElem (by omega)⟩
          obtain ⟨U, hU⟩ : ∃ U, P ++ L.take t' = U := ⟨_, rfl⟩
          obtain ⟨V, hV⟩ : ∃ V, L.drop (t' + 1) ++ S = V := ⟨_, rfl⟩
          have hnow : P ++ (L.take (t' + 1) ++ y :: (L.drop (t' + 1) ++ S)) = U ++ x :: y :: V := by rw [take_pred hx, ← hU, ← hV]; simp
          have hnext : P ++ (L.take t' ++ y :: (L.drop t' ++ S)) = U ++ y :: x :: V := by rw [drop_pred hx, ← hU, ← hV]; simp
          obtain ⟨f, hf⟩ : ∃ f, f = a + t' := ⟨_, rfl⟩
          have hUl : U.length = f := by rw [← hU, List.length_append, List.length_take]; omega
          rw [hnow] at hrow2
          have hgx : (U ++ x :: y :: V)[f]? = some x := get_app hUl
          have hgs : (U ++ x :: y :: V)[e]? = some y := by rw [List.getElem?_append_right (by omega), hUl, show e - f = 1 by omega]; rfl
          obtain ⟨c0, c1⟩ := row_at hrow2 hgx
          obtain ⟨c2, c3⟩ := row_at hrow2 hgs
          have hfI : (e : Int) - 1 = (f : Int) := by omega
          have hen : (e : Int) < n := by omega
          have hfn : (f : Int) < n := by omega
          have he1 : (1 : Int) ≤ e := by omega
          have held : (a : Int) + (d : Int) < (e : Int) := by omega
          have f0 := hrow2.frozenAt (e * 2)
          have f1 := hrow2.frozenAt (e * 2 + 1)
          have f2 := hrow2.frozenAt (f * 2)
          have f3 := hrow2.frozenAt (f * 2 + 1)
          have e1 : ¬ f * 2 = e * 2 := by omega
          have e2 : ¬ f * 2 = e * 2 + 1 := by omega
          have e3 : ¬ f * 2 + 1 = e * 2 := by omega
          have e4 : ¬ f * 2 + 1 = e * 2 + 1 := by omega
          have e5 : ¬ e * 2 = f * 2 := by omega
          have e6 : ¬ e * 2 + 1 = f * 2 := by omega
          have e7 : ¬ e * 2 = f * 2 + 1 := by omega
          have HY := Lib.hid (And.intro hrow2 (And.intro hgr2 (And.intro hnext (And.intro hUl (And.intro hf he)))))
          have hfe : e = f + 1 := by omega
          have HFE := Lib.hid hfe
          clear hrow2 hgr2 hnow hnext hUl hgx hgs hU hV hx hf he hfe hrow hgr hfin hP hR hXl hX hm
          obtain ⟨xk, xA, xn, xc⟩ := x
          obtain ⟨yk, yA, yn, yc⟩ := y
          dsimp only at c0 c1 c2 c3
          go_wp2_with fail
          go_region
          all_goals
            go_wp2
            go_roundw
            case rel =>
              obtain ⟨hrow2, hgr2, hnext, hUl, hf, he⟩ := HY.out
              have hfe := HFE.out
              obtain ⟨a1, b1⟩ := row_put hrow2 e ⟨xk, xA, xn, xc⟩
              obtain ⟨a2, b2⟩ := row_put a1 f ⟨yk, yA, yn, yc⟩
              have hl := swap_list ⟨xk, xA, xn, xc⟩ ⟨yk, yA, yn, yc⟩ V U
              rw [hUl, ← hfe] at hl
              rw [hl, ← hnext] at a2
              refine ⟨t', f, by omega, by omega, by omega, by go_num, a2, (by have hz := grownBy_trans (grownBy_trans hgr2 b1) b2; exact ⟨hz.os, hz.tape, hz.output, hz.size, hz.block⟩)⟩
            case measure => simp [intOf]; omega
        · obtain rfl : t = d := by omega
          obtain ⟨hrow, hgr, hfin, hdL', hd', hP, hR, hXl, hX, hm⟩ := HX.out
          have hg2 : P ++ (L.take t ++ y :: (L.drop t ++ S)) = P ++ (sortS (L ++ [y]) ++ S) := by rw [← hfin]; simp
          rw [hg2] at hrow2
          have HY := Lib.hid (And.intro hrow2 hgr2)
          have hnlt : ¬ (a : Int) + (t : Int) < (e : Int) := by omega
          clear hrow2 hgr2 hrow hgr hfin hP hR hXl hX hm hg2 he
          go_wp2
          refine bodyPost_ret (results_none rfl _ _ _) rfl ?_
          exact ⟨rfl, HY.out.1, HY.out.2⟩
end Go.Proofs.Ytfbddldcbjhmiaa
