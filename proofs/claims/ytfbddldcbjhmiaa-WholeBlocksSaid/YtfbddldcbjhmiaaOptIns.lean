/-
  Options of a row sorted by insertion.
-/
import Derived.Test.YtfbddldcbjhmiaaOptCmp
namespace Go.Proofs.Ytfbddldcbjhmiaa
open Go.RowKit
set_option maxRecDepth 100000
set_option linter.unusedVariables false
theorem swap_list (x s : Sv) (V : List Sv) : ∀ U : List Sv, ((U ++ x :: s :: V).set (U.length + 1) x).set U.length s = U ++ s :: x :: V
  | [] => rfl
  | u :: U => by
    have ih := swap_list x s V U
    simp only [List.cons_append, List.length_cons, List.set_cons_succ]
    rw [ih]
theorem take_pred {P : List Sv} {q : Nat} {x : Sv} (h : P[q]? = some x) : P.take (q + 1) = P.take q ++ [x] := by
  rw [List.take_add_one, h]; rfl
theorem drop_pred {P : List Sv} {q : Nat} {x : Sv} (h : P[q]? = some x) : P.drop q = x :: P.drop (q + 1) := by
  rw [List.drop_eq_getElem_cons (List.getElem?_eq_some_iff.1 h).1, (List.getElem?_eq_some_iff.1 h).2]
section
variable {w : World} {base : Nat} {e : TypeId} {g n cap : Nat} {X : List Sv}
theorem row_at (h : w.ownsRow base e 2 (.slice (some ⟨g, 0, none⟩) n cap) n (svs X)) {k : Nat} {s : Sv} (hs : X[k]? = some s) : w.cell? ⟨g, k * 2, none⟩ = some (.int .i64 s.k) ∧ w.cell? ⟨g, k * 2 + 1, none⟩ = some (.slice s.A s.n s.c) := by
  have hl : k < n := by have := (List.getElem?_eq_some_iff.1 hs).1; have := row_len h; omega
  obtain ⟨g1, g2⟩ := svs_get X k s hs
  exact ⟨(h.cellAt (k * 2) (by omega)).trans g1, (h.cellAt (k * 2 + 1) (by omega)).trans g2⟩
end
def sorted (X : List Sv) (a b : Nat) : List Sv := X.take a ++ sortS ((X.drop a).take (b - a)) ++ X.drop b
set_option maxHeartbeats 1600000 in
theorem insort_f (g n cap : Nat) (X : List Sv) (w : World) (base : Nat) (hrow : w.ownsRow base 36 2 (.slice (some ⟨g, 0, none⟩) n cap) n (svs X)) (a b : Nat) (hab : a ≤ b) (hb : b ≤ n) (hn : n ≤ 1048576) (hnc : n ≤ cap) :
    Calls Try.prog 90 #[.slice (some ⟨g, 0, none⟩) n cap, .int .i64 a, .int .i64 b, .func (.func 71) #[] #[]] w fun e w' => e = .returned (.tuple #[]) ∧ w'.ownsRow base 36 2 (.slice (some ⟨g, 0, none⟩) n cap) n (svs (sorted X a b)) ∧ w.grownBy w' (some g) := by
  have hXl := row_len hrow
  have hnI : (n : Int) ≤ 1048576 := by omega
  have hbI : (b : Int) ≤ n := by omega
  have haI : (a : Int) ≤ b := by omega
  by_cases hq : a = b
  · subst hq
    have hs : sorted X a a = X := by unfold sorted; rw [Nat.sub_self, List.take_zero]; show X.take a ++ [] ++ X.drop a = X; rw [List.append_nil, List.take_append_drop]
    have HR := Lib.hid (And.intro hrow hs)
    clear hrow hs hXl
    go_enter Try.func90, Try.ntmps90
    go_wp2
    go_loopw [8, 9] (fun i _ wr => i = .int .i64 ((a : Int) + 1) ∧ wr = w) (fun _ _ _ => 0)
    case atStart => exact ⟨rfl, rfl⟩
    case round =>
      obtain ⟨rfl, rfl⟩ := hrel
      go_wp2
      refine bodyPost_end (results_none rfl _ _ _) rfl ?_
      exact ⟨rfl, by rw [HR.out.2]; exact HR.out.1, World.grownBy.refl _ _⟩
  · have habI : (a : Int) + 1 ≤ b := by omega
    obtain ⟨x0, hx0⟩ : ∃ x, X[a]? = some x := ⟨_, List.getElem?_eq_getElem (by omega)⟩
    have h0 : sorted X a (a + 1) = X := by
      unfold sorted
      rw [Nat.add_sub_cancel_left, drop_pred hx0]
      show X.take a ++ [x0] ++ X.drop (a + 1) = X
      rw [← take_pred hx0, List.take_append_drop]
    have HR := Lib.hid (And.intro hrow (And.intro h0 hXl))
    clear hrow h0 hXl hx0
    go_enter Try.func90, Try.ntmps90
    go_wp2
    go_loopw [8, 9] (fun i _ wr => ∃ k : Nat, a + 1 ≤ k ∧ k ≤ b ∧ i = .int .i64 k ∧ wr.ownsRow base 36 2 (.slice (some ⟨g, 0, none⟩) n cap) n (svs (sorted X a k)) ∧ w.grownBy wr (some g)) (fun i _ _ => b - (intOf i).toNat)
    case atStart => exact ⟨a + 1, by omega, by omega, by go_num, by rw [HR.out.2.1]; exact HR.out.1, World.grownBy.refl _ _⟩
    case round =>
      obtain ⟨k, hk1, hk2, rfl, hrow, hgr⟩ := hrel
      by_cases hlt : k < b
      · obtain ⟨s, hs⟩ : ∃ s, X[k]? = some s := ⟨_, List.getElem?_eq_getElem (by have := HR.out.2.2; omega)⟩
        obtain ⟨P, hP⟩ : ∃ P, sortS ((X.drop a).take (k - a)) = P := ⟨_, rfl⟩
        have hPl : P.length = k - a := by rw [← hP, sortS_len, List.length_take, List.length_drop, HR.out.2.2]; omega
        have hPu : Up P := hP ▸ sortS_up _
        have hstep : sorted X a (k + 1) = X.take a ++ insS s P ++ X.drop (k + 1) := by
          unfold sorted
          have e1 : (X.drop a).take (k + 1 - a) = (X.drop a).take (k - a) ++ [s] := by
            rw [show k + 1 - a = k - a + 1 by omega]
            refine take_pred ?_
            rw [List.getElem?_drop, show a + (k - a) = k by omega]; exact hs
          rw [e1, sortS_snoc, hP]
        have hnow : sorted X a k = X.take a ++ P ++ s :: X.drop (k + 1) := by
          unfold sorted
          rw [hP, drop_pred hs]
        rw [hnow] at hrow
        have hkbI : (k : Int) < b := by omega
        have HX : Aside _ := And.intro hrow (And.intro hgr (And.intro hPl (And.intro hPu hstep)))
        clear hrow hgr hPl hPu hstep hnow hs hP
        go_wp2_with fail
        obtain ⟨wo, rfl⟩ : ∃ wo : World, wo = wr := ⟨_, rfl⟩
        go_loopw [9] (fun j wi => ∃ q jj : Nat, q ≤ k - a ∧ jj = a + q ∧ j = .int .i64 (jj : Int) ∧ wi.ownsRow base 36 2 (.slice (some ⟨g, 0, none⟩) n cap) n (svs (X.take a ++ (P.take q ++ [s] ++ P.drop q) ++ X.drop (k + 1))) ∧ w.grownBy wi (some g) ∧ Aside (∀ x, P[q]? = some x → s.k < x.k)) (fun j _ => (intOf j).toNat)
        case atStart =>
          obtain ⟨hrow, hgr, hPl, hPu, hstep⟩ := HX.out
          refine ⟨k - a, k, Nat.le_refl _, by omega, rfl, ?_, hgr, (show Aside _ from fun x hx => by rw [List.getElem?_eq_none (by omega)] at hx; cases hx)⟩
          have hd0 : P.drop (k - a) = [] := List.drop_eq_nil_of_le (by omega)
          rw [List.take_of_length_le (l := P) (by omega), hd0]
          simpa using hrow
        case round =>
          obtain ⟨q, jj, hq1, hjj, rfl, hrow2, hgr2, hx2⟩ := hrel
          have hPl := HX.out.2.2.1
          by_cases hq0 : q = 0
          · subst hq0
            have hd : decide (a < jj) = false := decide_eq_false (by omega)
            have HY : Aside (wr.ownsRow base 36 2 (.slice (some ⟨g, 0, none⟩) n cap) n (svs (X.take a ++ (P.take 0 ++ [s] ++ P.drop 0) ++ X.drop (k + 1))) ∧ w.grownBy wr (some g) ∧ Aside (∀ x, P[0]? = some x → s.k < x.k) ∧ ∀ (x : Sv), 0 < 0 → P[0 - 1]? = some x → ¬ s.k < x.k) := And.intro hrow2 (And.intro hgr2 (And.intro hx2 (fun x h => absurd h (by omega))))
            clear hrow2 hgr2 hx2 hPl hq1 hjj
            go_wp2_with fail
            go_quiet (fail)
            go_wp2
            go_roundw
            case rel =>
              obtain ⟨hrow2, hgr2, hx2, hx3⟩ := HY.out
              obtain ⟨hrow, hgr, hPl, hPu, hstep⟩ := HX.out
              refine ⟨k + 1, by omega, by omega, by go_num, ?_, ?_⟩
              · rw [hstep, insS_here hPu (by omega) (fun x hq hx => by have := hx3 x hq hx; omega) hx2.out]
                exact hrow2
              · exact grownBy_trans hgr2 (grownBy_below _ (drewN_below wr _ _))
            case measure => simp [intOf]; omega
          · obtain ⟨x, hx⟩ : ∃ x, P[q - 1]? = some x := ⟨_, List.getElem?_eq_getElem (by omega)⟩
            obtain ⟨q', rfl⟩ : ∃ q', q = q' + 1 := ⟨q - 1, by omega⟩
            rw [Nat.add_sub_cancel] at hx
            have hY : X.take a ++ (P.take (q' + 1) ++ [s] ++ P.drop (q' + 1)) ++ X.drop (k + 1) = (X.take a ++ P.take q') ++ x :: s :: (P.drop (q' + 1) ++ X.drop (k + 1)) := by
              rw [take_pred hx]; simp
            have hU : (X.take a ++ P.take q').length = a + q' := by
              rw [List.length_append, List.length_take, List.length_take, HR.out.2.2]; omega
            rw [hY] at hrow2
            have hjs : ((X.take a ++ P.take q') ++ x :: s :: (P.drop (q' + 1) ++ X.drop (k + 1)))[jj]? = some s := by
              rw [List.getElem?_append_right (by omega), hU, show jj - (a + q') = 1 by omega]; rfl
            have hjx : ((X.take a ++ P.take q') ++ x :: s :: (P.drop (q' + 1) ++ X.drop (k + 1)))[jj - 1]? = some x := by
              rw [List.getElem?_append_right (by omega), hU, show jj - 1 - (a + q') = 0 by omega]; rfl
            obtain ⟨c0, c1⟩ := row_at hrow2 hjs
            obtain ⟨c2, c3⟩ := row_at hrow2 hjx
            have hjn : (jj : Int) < n := by omega
            have hja : decide (a < jj) = true := decide_eq_true (by omega)
            have hj1 : (1 : Int) ≤ jj := by omega
            have hw1 : IntKind.i64.wrap ((jj : Int) - 1) = (jj : Int) - 1 := IntWalk.i64_in _ (by omega)
            have ht1 : ((jj : Int) - 1).toNat = jj - 1 := by omega
            have h01 : (0 : Int) ≤ (jj : Int) - 1 := by omega
            have h11 : (jj : Int) - 1 < n := by omega
            obtain ⟨z, hz⟩ : ∃ z, cmpI s.k x.k = z := ⟨_, rfl⟩
            have hcall := fun W => cmp_f s x W
            rw [hz] at hcall
            have hzl := cmpI_lt s.k x.k
            rw [hz] at hzl
            have HZ := Lib.hid (And.intro hrow2 (And.intro hgr2 (And.intro hx2 (And.intro hx (And.intro hjj (And.intro hU (And.intro hjs (And.intro hjx hY))))))))
            have HC := Lib.hid hcall
            clear hrow2 hgr2 hx2 hx hY hU hjs hjx hPl hjj hcall hz
            obtain ⟨sk, sA, sn, sc⟩ := s
            obtain ⟨xk, xA, xn, xc⟩ := x
            dsimp only at c0 c1 c2 c3 hzl
            by_cases hlt2 : sk < xk
            · rw [decide_eq_true hlt2] at hzl
              go_wp2_with fail
              go_still_tail 14, (by kernel_rfl)
              go_wp2_with (go_at_call 71; refine (HC.out _).mono ?_; rintro e w2 ⟨rfl, b2⟩; have H2 : Hid (Below wr.heap.size wr w2) := Lib.hid ⟨b2.os, b2.tape, b2.output, b2.size, b2.block⟩; clear b2)
              have hr2 := row_below HZ.out.1 H2.out
              obtain ⟨d0, d1⟩ := row_at hr2 HZ.out.2.2.2.2.2.2.1
              obtain ⟨d2, d3⟩ := row_at hr2 HZ.out.2.2.2.2.2.2.2.1
              dsimp only at d0 d1 d2 d3
              have f0 := hr2.frozenAt (jj * 2)
              have f1 := hr2.frozenAt (jj * 2 + 1)
              have f2 := hr2.frozenAt ((jj - 1) * 2)
              have f3 := hr2.frozenAt ((jj - 1) * 2 + 1)
              have hjj1 : 1 ≤ jj := by omega
              have e1 : ¬ jj * 2 = (jj - 1) * 2 := by omega
              have e2 : ¬ jj * 2 = (jj - 1) * 2 + 1 := by omega
              have e3 : ¬ jj * 2 + 1 = (jj - 1) * 2 := by omega
              have e4 : ¬ jj * 2 + 1 = (jj - 1) * 2 + 1 := by omega
              have e5 : ¬ (jj - 1) * 2 = jj * 2 := by omega
              have e6 : ¬ (jj - 1) * 2 + 1 = jj * 2 := by omega
              have e7 : ¬ (jj - 1) * 2 = jj * 2 + 1 := by omega
              have HR2 := Lib.hid hr2
              clear hr2 c0 c1 c2 c3
              go_region
              all_goals
                go_wp2
                go_roundw
                case rel =>
                  obtain ⟨hrow2, hgr2, hx2, hx, hjj, hU, hjs, hjx, hY⟩ := HZ.out
                  obtain ⟨a1, b1⟩ := row_put HR2.out jj ⟨xk, xA, xn, xc⟩
                  obtain ⟨a2, b2⟩ := row_put a1 (jj - 1) ⟨sk, sA, sn, sc⟩
                  have hl := swap_list ⟨xk, xA, xn, xc⟩ ⟨sk, sA, sn, sc⟩ (P.drop (q' + 1) ++ X.drop (k + 1)) (X.take a ++ P.take q')
                  rw [hU, show a + q' + 1 = jj by omega, show a + q' = jj - 1 by omega] at hl
                  rw [hl] at a2
                  refine ⟨q', jj - 1, by omega, by omega, by go_num, ?_, (by have hz := grownBy_trans (grownBy_trans (grownBy_trans hgr2 (grownBy_below _ H2.out)) b1) b2; exact ⟨hz.os, hz.tape, hz.output, hz.size, hz.block⟩), (show Aside _ from fun y hy => by rw [hx] at hy; obtain rfl := Option.some.inj hy; exact hlt2)⟩
                  have hfin : X.take a ++ (P.take q' ++ [⟨sk, sA, sn, sc⟩] ++ P.drop q') ++ X.drop (k + 1) = (X.take a ++ P.take q') ++ ⟨sk, sA, sn, sc⟩ :: ⟨xk, xA, xn, xc⟩ :: (P.drop (q' + 1) ++ X.drop (k + 1)) := by
                    rw [drop_pred hx]; simp
                  rw [hfin]
                  exact a2
                case measure => simp [intOf]; omega
            · rw [decide_eq_false hlt2] at hzl
              go_wp2_with fail
              go_still_tail 14, (by kernel_rfl)
              go_wp2_with (go_at_call 71; refine (HC.out _).mono ?_; rintro e w2 ⟨rfl, b2⟩; have H2 : Hid (Below wr.heap.size wr w2) := Lib.hid ⟨b2.os, b2.tape, b2.output, b2.size, b2.block⟩; clear b2)
              go_roundw
              case rel =>
                obtain ⟨hrow2, hgr2, hx2, hx, hjj, hU, hjs, hjx, hY⟩ := HZ.out
                obtain ⟨hrow, hgr, hPl, hPu, hstep⟩ := HX.out
                refine ⟨k + 1, by omega, by omega, by go_num, ?_, grownBy_trans hgr2 (grownBy_below _ H2.out)⟩
                rw [hstep, insS_here hPu (by omega) (fun y hq hy => by
                  rw [Nat.add_sub_cancel, hx] at hy
                  obtain rfl := Option.some.inj hy
                  show ¬ sk < xk
                  omega) hx2.out, hY]
                exact row_below hrow2 H2.out
              case measure => simp [intOf]; omega
      · obtain rfl : k = b := by omega
        have HX := Lib.hid (And.intro hrow hgr)
        clear hrow hgr
        go_wp2
        refine bodyPost_end (results_none rfl _ _ _) rfl ?_
        exact ⟨rfl, HX.out.1, HX.out.2⟩
end Go.Proofs.Ytfbddldcbjhmiaa
