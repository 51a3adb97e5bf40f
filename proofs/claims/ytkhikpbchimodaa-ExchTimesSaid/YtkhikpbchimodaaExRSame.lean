/-
  The same lists of what is to be sent.
-/
import Derived.Test.YtkhikpbchimodaaExSmall
namespace Go.Proofs.Ytkhikpbchimodaa
open Go.RowKit
set_option maxRecDepth 100000
set_option maxRecDepth 100000
set_option linter.unusedVariables false
set_option maxHeartbeats 8000000 in
theorem rsame12_f (A1 A2 : Option Addr) (n1 n2 c1 c2 : Nat) (s1 s2 : List Sr) (w : World) (B1 B2 : Nat) (h1 : SsAt w B1 73 (.slice A1 n1 c1) s1) (h2 : SsAt w B2 73 (.slice A2 n2 c2) s2) (hq : s1.map Sr.q = s2.map Sr.q) :
    Calls Try.prog 16 #[.slice A1 n1 c1, .slice A2 n2 c2] w fun e w' => e = .returned (.bool true) ∧ Below w.heap.size w w' := by
  obtain ⟨A', c', hv, hnc1, hcm1, hat1, _⟩ := RowK.At.of_own h1.row
  injection hv with e1 e2 e3
  subst e1 e3
  obtain ⟨A', c', hv, hnc2, hcm2, hat2, _⟩ := RowK.At.of_own h2.row
  injection hv with g1 g2 g3
  subst g1 g3
  have hll : List.length s1 = List.length s2 := by have := congrArg List.length hq; rwa [List.length_map, List.length_map] at this
  rw [← hll] at g2 hat2 hnc2
  subst e2
  subst g2
  obtain ⟨n, hl⟩ : ∃ n, List.length s1 = n := ⟨_, rfl⟩
  have HS := Lib.hid (And.intro h1.each (And.intro h2.each (And.intro hl (And.intro hq hll))))
  rw [hl] at hat1 hat2 hnc1 hnc2
  rw [hl]
  have hn63 : (n : Int) ≤ 9223372036854775807 := by unfold maxLen at hcm1; omega
  have hncI1 : (n : Int) ≤ c1 := by omega
  have hncI2 : (n : Int) ≤ c2 := by omega
  clear h1 h2 hl hq hll hcm1 hcm2
  go_enter Try.func16, Try.ntmps16
  go_wp2
  go_loopw [5] (fun iv wr => ∃ k m : Nat, k ≤ n ∧ iv = .int .i64 (k : Int) ∧ Aside (wr = w.drewN m)) (fun iv _ => n - (intOf iv).toNat)
  case atStart => exact ⟨0, 0, Nat.zero_le _, rfl, rfl⟩
  case round =>
    obtain ⟨k, m, hk, rfl, hwr⟩ := hrel
    by_cases hlt : k < n
    · have hb : Below w.heap.size w wr := by rw [hwr.out]; exact drewN_below _ _ m
      have hz1 := hat1.below hb
      have hz2 := hat2.below hb
      obtain ⟨x, hx⟩ := hat1.get hlt
      obtain ⟨y, hy⟩ := hat2.get hlt
      obtain ⟨b1, o1, rfl, _⟩ := hat1.place (by omega)
      obtain ⟨b2, o2, rfl, _⟩ := hat2.place (by omega)
      have hr1 := hz1.range hx
      have hr2 := hz2.range hy
      have hxy : x.q = y.q := by
        have e1 : (s1.map Sr.q)[k]? = some x.q := by rw [List.getElem?_map, hx]; rfl
        have e2 : (s2.map Sr.q)[k]? = some y.q := by rw [List.getElem?_map, hy]; rfl
        rw [HS.out.2.2.2.1, e2] at e1
        exact (Option.some.inj e1).symm
      have hox := (HS.out.1 x (List.mem_of_getElem? hx)).below hb
      have hoy := (HS.out.2.1 y (List.mem_of_getElem? hy)).below hb
      obtain ⟨xq, xA, xn, xc⟩ := x
      obtain ⟨yq, yA, yn, yc⟩ := y
      dsimp only at hxy hox hoy
      subst hxy
      obtain ⟨qt, qi, ql, qo⟩ := xq
      have d0 := hr1 0 _ rfl
      have d1 := hr1 1 _ rfl
      have d2 := hr1 2 _ rfl
      have d3 := hr1 3 _ rfl
      have g0 := hr2 0 _ rfl
      have g1 := hr2 1 _ rfl
      have g2 := hr2 2 _ rfl
      have g3 := hr2 3 _ rfl
      rw [Nat.add_zero] at d0 g0
      have hsm := fun W (hw : Below wr.heap.size wr W) => same_any xA yA xn xc yn yc ql ql W _ _ (hox.bs.below hw) (hoy.bs.below hw) (by have := hox.2; omega) (by have := hoy.2; omega)
      rw [decide_eq_true (rfl : ql = ql)] at hsm
      have HSM := Lib.hid hsm
      have HW := Lib.hid hwr.out
      have hkI : (k : Int) < n := by omega
      have hkc1 : (k : Int) < c1 := by omega
      have hkc2 : (k : Int) < c2 := by omega
      clear hsm hwr hb hz1 hz2 hx hy hr1 hr2 hox hoy
      go_wp2
      go_quiet ((go_at_call 25; exact Calls.quiet_of (HSM.out _ (drewN_below _ _ _))))
      go_wp2
      go_roundw
      case rel => exact ⟨k + 1, _, by omega, by go_num, (show Aside _ from by rw [HW.out]; exact World.drewN_drewN ..)⟩
      case measure => simp [intOf]; omega
    · obtain rfl : k = n := by omega
      have hkI : ¬ (k : Int) < k := by omega
      have HB : Hid (Below w.heap.size w wr) := by rw [hwr.out]; exact drewN_below _ _ m
      clear hwr
      go_wp2
      go_ret
      exact ⟨rfl, HB.out⟩
end Go.Proofs.Ytkhikpbchimodaa
