/-
  Options of a row: two sorted stretches merged.
-/
import Derived.Test.YtfbddldcbjhmiaaOptRot
namespace Go.Proofs.Ytfbddldcbjhmiaa
open Go.RowKit
set_option maxRecDepth 100000
set_option linter.unusedVariables false
/-- The same options of each number, in their order. -/
def EqF (a b : List Sv) : Prop := ∀ k : Int, a.filter (fun s => s.k == k) = b.filter (fun s => s.k == k)
theorem EqF.rf (a : List Sv) : EqF a a := fun _ => rfl
theorem EqF.tr {a b c : List Sv} (h : EqF a b) (k : EqF b c) : EqF a c := fun i => (h i).trans (k i)
theorem EqF.sy {a b : List Sv} (h : EqF a b) : EqF b a := fun i => (h i).symm
theorem EqF.app {a b c d : List Sv} (h : EqF a b) (k : EqF c d) : EqF (a ++ c) (b ++ d) := fun i => by rw [List.filter_append, List.filter_append, h i, k i]
theorem flt_none {k : Int} {L : List Sv} (h : ∀ x ∈ L, ¬ x.k = k) : L.filter (fun s => s.k == k) = [] := by
  rw [List.filter_eq_nil_iff]
  intro x hx e
  exact h x hx (by simpa using e)
theorem insS_eqf {s : Sv} : ∀ {P : List Sv}, Up P → EqF (insS s P) (P ++ [s])
  | [], _ => fun _ => rfl
  | x :: r, h => by
    unfold Up at h
    rw [List.pairwise_cons] at h
    rw [insS]
    split
    · rename_i hlt
      intro k
      by_cases hk : s.k = k
      · have h0 : (x :: r).filter (fun s => s.k == k) = [] := flt_none fun y hy e => by
          rcases List.mem_cons.1 hy with rfl | hy
          · omega
          · have := h.1 y hy; omega
        rw [List.filter_cons, h0, List.filter_append, h0, List.filter_cons]
        rfl
      · have hf : (s.k == k) = false := by simpa using hk
        simp [List.filter_cons, hf]
    · have ih := insS_eqf (s := s) h.2
      intro k
      rw [List.filter_cons, ih k, List.cons_append, List.filter_cons]
theorem sortS_eqf (Z : List Sv) : EqF (sortS Z) Z := by
  suffices h : ∀ r : List Sv, EqF (sortS r.reverse) r.reverse by have := h Z.reverse; rwa [List.reverse_reverse] at this
  intro r
  induction r with
  | nil => exact EqF.rf _
  | cons s r ih =>
    rw [List.reverse_cons, sortS_snoc]
    exact (insS_eqf (sortS_up _)).tr (ih.app (EqF.rf _))
theorem up_unique : ∀ {L M : List Sv}, Up L → Up M → EqF L M → L = M
  | [], [], _, _, _ => rfl
  | [], y :: r, _, _, h => by have := h y.k; simp at this
  | x :: r, [], _, _, h => by have := h x.k; simp at this
  | x :: r, y :: t, hL, hM, h => by
    unfold Up at hL hM
    rw [List.pairwise_cons] at hL hM
    have mem : ∀ {a b : List Sv} {z : Sv}, EqF a b → z ∈ a → z ∈ b := fun {a b z} e hz => by
      have : z ∈ a.filter (fun s => s.k == z.k) := List.mem_filter.2 ⟨hz, by simp⟩
      rw [e z.k] at this
      exact (List.mem_filter.1 this).1
    have h1 : y.k ≤ x.k := by
      rcases List.mem_cons.1 (mem h List.mem_cons_self) with e | hx
      · rw [e]; exact Int.le_refl _
      · exact hM.1 x hx
    have h2 : x.k ≤ y.k := by
      rcases List.mem_cons.1 (mem h.sy List.mem_cons_self) with e | hy
      · rw [e]; exact Int.le_refl _
      · exact hL.1 y hy
    have hk : x.k = y.k := by omega
    have h3 := h x.k
    rw [List.filter_cons, if_pos (by simp), List.filter_cons, if_pos (by simp [hk])] at h3
    injection h3 with h4 h5
    subst h4
    have : EqF r t := fun k => by
      have h6 := h k
      rw [List.filter_cons, List.filter_cons] at h6
      split at h6
      · injection h6
      · exact h6
    rw [up_unique hL.2 hM.2 this]
theorem sort_is {Z Y : List Sv} (hu : Up Z) (h : EqF Z Y) : Z = sortS Y := up_unique hu (sortS_up Y) (h.tr (sortS_eqf Y).sy)
theorem sortS_id {Z : List Sv} (hu : Up Z) : sortS Z = Z := (sort_is hu (EqF.rf _)).symm
theorem merge_is {L1 L2 R1 R2 : List Sv} (hL : Up (L1 ++ L2)) (hR : Up (R1 ++ R2)) (h3 : ∀ x ∈ L2, ∀ y ∈ R1, y.k < x.k) (h4 : ∀ x ∈ L1, ∀ y ∈ R2, x.k ≤ y.k) :
    sortS (L1 ++ R1) ++ sortS (L2 ++ R2) = sortS (L1 ++ (L2 ++ (R1 ++ R2))) := by
  unfold Up at hL hR
  rw [List.pairwise_append] at hL hR
  refine sort_is ?_ ?_
  · refine List.pairwise_append.2 ⟨sortS_up _, sortS_up _, fun x hx y hy => ?_⟩
    rw [sortS_mem] at hx hy
    rcases List.mem_append.1 hx with hx | hx <;> rcases List.mem_append.1 hy with hy | hy
    · exact hL.2.2 x hx y hy
    · exact h4 x hx y hy
    · have := h3 y hy x hx; omega
    · exact hR.2.2 x hx y hy
  · refine ((sortS_eqf _).app (sortS_eqf _)).tr fun k => ?_
    simp only [List.filter_append, List.append_assoc]
    have : R1.filter (fun s => s.k == k) ++ (L2.filter (fun s => s.k == k) ++ R2.filter fun s => s.k == k) = L2.filter (fun s => s.k == k) ++ (R1.filter (fun s => s.k == k) ++ R2.filter fun s => s.k == k) := by
      by_cases hc : ∃ x ∈ L2, x.k = k
      · obtain ⟨x, hx, hxk⟩ := hc
        have h0 : R1.filter (fun s => s.k == k) = [] := flt_none fun y hy e => by have := h3 x hx y hy; omega
        rw [h0]; rfl
      · have h0 : L2.filter (fun s => s.k == k) = [] := flt_none fun y hy e => hc ⟨y, hy, e⟩
        rw [h0]; rfl
    rw [this]
theorem up_take {R : List Sv} (h : Up R) (k : Nat) : Up (R.take k) := h.sublist (List.take_sublist k R)
theorem up_drop {R : List Sv} (h : Up R) (k : Nat) : Up (R.drop k) := h.sublist (List.drop_sublist k R)
/-- Behind a place a sorted row is no less. -/
theorem up_le {R : List Sv} (h : Up R) {i j : Nat} {x y : Sv} (hx : R[i]? = some x) (hy : R[j]? = some y) (hij : i ≤ j) : x.k ≤ y.k := by
  by_cases e : i = j
  · subst e
    rw [hx] at hy
    rw [Option.some.inj hy]; exact Int.le_refl _
  · obtain ⟨a1, a2⟩ := List.getElem?_eq_some_iff.1 hx
    obtain ⟨b1, b2⟩ := List.getElem?_eq_some_iff.1 hy
    have := List.pairwise_iff_getElem.1 h i j a1 b1 (by omega)
    rw [a2, b2] at this
    exact this
theorem take_mem {R : List Sv} {k : Nat} {y : Sv} (h : y ∈ R.take k) : ∃ i, i < k ∧ R[i]? = some y := by
  obtain ⟨i, hi⟩ := List.mem_iff_getElem?.1 h
  have hl := (List.getElem?_eq_some_iff.1 hi).1
  rw [List.length_take] at hl
  exact ⟨i, by omega, by rwa [List.getElem?_take_of_lt (by omega)] at hi⟩
theorem drop_mem {R : List Sv} {k : Nat} {y : Sv} (h : y ∈ R.drop k) : ∃ i, k ≤ i ∧ R[i]? = some y := by
  obtain ⟨i, hi⟩ := List.mem_iff_getElem?.1 h
  rw [List.getElem?_drop] at hi
  exact ⟨k + i, by omega, hi⟩
theorem swap_next (x s : Sv) (V : List Sv) : ∀ U : List Sv, ((U ++ x :: s :: V).set U.length s).set (U.length + 1) x = U ++ s :: x :: V
  | [] => rfl
  | u :: U => by
    have ih := swap_next x s V U
    simp only [List.cons_append, List.length_cons, List.set_cons_succ]
    rw [ih]
set_option maxHeartbeats 3200000 in
theorem merge_left (g n cap : Nat) (P : List Sv) (x : Sv) (R S : List Sv) (w : World) (base : Nat) (hrow : w.ownsRow base 36 2 (.slice (some ⟨g, 0, none⟩) n cap) n (svs (P ++ x :: (R ++ S)))) (a m b : Nat) (hP : P.length = a) (hm : m = a + 1) (hR : m + R.length = b) (hu : Up R) (hn : n ≤ 1048576) :
    Calls Try.prog 91 #[.slice (some ⟨g, 0, none⟩) n cap, .int .i64 a, .int .i64 m, .int .i64 b, .func (.func 71) #[] #[]] w fun e w' => e = .returned (.tuple #[]) ∧ w'.ownsRow base 36 2 (.slice (some ⟨g, 0, none⟩) n cap) n (svs (P ++ (sortS (x :: R) ++ S))) ∧ w.grownBy w' (some g) := by
  have hXl := row_len hrow
  simp only [List.length_append, List.length_cons] at hXl
  have hbn : (b : Int) ≤ 1048576 := by omega
  have hmb : (m : Int) ≤ b := by omega
  have ham : (a : Int) < m := by omega
  have hma : (m : Int) - (a : Int) = 1 := by omega
  have hanI : (a : Int) < n := by omega
  obtain ⟨X, hX⟩ : ∃ X, P ++ x :: (R ++ S) = X := ⟨_, rfl⟩
  rw [hX] at hrow
  have hxa : X[a]? = some x := by rw [← hX]; exact get_app hP
  have hRX : ∀ (k : Nat) (y : Sv), R[k]? = some y → X[m + k]? = some y := fun k y hy => by
    rw [← hX, List.getElem?_append_right (by omega), show m + k - P.length = k + 1 by omega, List.getElem?_cons_succ, List.getElem?_append_left (List.getElem?_eq_some_iff.1 hy).1]
    exact hy
  have HR := Lib.hid (And.intro hrow (And.intro hP (And.intro hm (And.intro hR (And.intro hXl (And.intro hX (And.intro hxa (And.intro hRX hu))))))))
  have hbn2 : b ≤ n := by omega
  clear hrow hXl hP hm hR hX hxa hRX
  go_enter Try.func91, Try.ntmps91
  go_wp2
  go_loopw [10, 11, 12] (fun i j _ wr => ∃ (p q : Nat), i = .int .i64 (p : Int) ∧ j = .int .i64 (q : Int) ∧ m ≤ p ∧ p ≤ q ∧ q ≤ b ∧ Aside ((∀ (k : Nat) (y : Sv), k < p - m → R[k]? = some y → y.k < x.k) ∧ (∀ (k : Nat) (y : Sv), q - m ≤ k → R[k]? = some y → x.k ≤ y.k)) ∧ wr.ownsRow base 36 2 (.slice (some ⟨g, 0, none⟩) n cap) n (svs X) ∧ w.grownBy wr (some g)) (fun i j _ _ => (intOf j).toNat - (intOf i).toNat)
  case atStart => exact ⟨m, b, rfl, rfl, Nat.le_refl _, by omega, Nat.le_refl _, (show Aside _ from ⟨fun k y h => absurd h (by omega), fun k y h hy => absurd (List.getElem?_eq_some_iff.1 hy).1 (by have := HR.out.2.2.2.1; omega)⟩), HR.out.1, World.grownBy.refl _ _⟩
  case round =>
    obtain ⟨p, q, rfl, rfl, hmp, hpq, hqb, hst, hrow, hgr⟩ := hrel
    by_cases hlt : p < q
    · obtain ⟨_, hP, hm, hR, hXl, hX, hxa, hRX, hu⟩ := HR.out
      obtain ⟨h, hh⟩ : ∃ h, h = (p + q) / 2 := ⟨_, rfl⟩
      obtain ⟨y, hy⟩ : ∃ y, R[h - m]? = some y := ⟨_, List.getElem?_eq_getElem (by omega)⟩
      have hyX := hRX _ y hy
      rw [show m + (h - m) = h by omega] at hyX
      obtain ⟨c0, c1⟩ := row_at hrow hyX
      obtain ⟨c2, c3⟩ := row_at hrow hxa
      obtain ⟨s, hs⟩ : ∃ s, s = p + q := ⟨_, rfl⟩
      have hsI : (p : Int) + (q : Int) = (s : Int) := by omega
      have hhI : (s : Int) / 2 = (h : Int) := by omega
      have hsb : (s : Int) ≤ 2097152 := by omega
      have hhn : (h : Int) < n := by omega
      have hltI : (p : Int) < q := by omega
      have hph : p ≤ h := by omega
      have hhq : h < q := by omega
      obtain ⟨z, hz⟩ : ∃ z, cmpI y.k x.k = z := ⟨_, rfl⟩
      have hcall := fun W => cmp_f y x W
      rw [hz] at hcall
      have hzl := cmpI_lt y.k x.k
      rw [hz] at hzl
      have HC := Lib.hid hcall
      have HX := Lib.hid (And.intro hrow (And.intro hgr (And.intro hst hy)))
      clear hrow hgr hst hy hyX hcall hz hP hm hR hXl hX hxa hRX hh hs
      obtain ⟨yk, yA, yn, yc⟩ := y
      obtain ⟨xk, xA, xn, xc⟩ := x
      dsimp only at c0 c1 c2 c3 hzl
      by_cases hlt2 : yk < xk
      · rw [decide_eq_true hlt2] at hzl
        go_wp2_with fail
        go_still_tail 9, (by kernel_rfl)
        go_wp2_with (go_at_call 71; refine (HC.out _).mono ?_; rintro e w2 ⟨rfl, b2⟩; have H2 : Hid (Below wr.heap.size wr w2) := Lib.hid ⟨b2.os, b2.tape, b2.output, b2.size, b2.block⟩; clear b2)
        go_roundw
        case rel =>
          obtain ⟨hrow, hgr, hst, hy⟩ := HX.out
          refine ⟨h + 1, q, by go_num, rfl, by omega, by omega, hqb, (show Aside _ from ⟨fun k y' hk hy' => ?_, hst.out.2⟩), row_below hrow H2.out, grownBy_trans hgr (grownBy_below _ H2.out)⟩
          have := up_le hu hy' hy (by omega)
          exact Int.lt_of_le_of_lt this hlt2
        case measure => simp [intOf]; omega
      · rw [decide_eq_false hlt2] at hzl
        go_wp2_with fail
        go_still_tail 9, (by kernel_rfl)
        go_wp2_with (go_at_call 71; refine (HC.out _).mono ?_; rintro e w2 ⟨rfl, b2⟩; have H2 : Hid (Below wr.heap.size wr w2) := Lib.hid ⟨b2.os, b2.tape, b2.output, b2.size, b2.block⟩; clear b2)
        go_roundw
        case rel =>
          obtain ⟨hrow, hgr, hst, hy⟩ := HX.out
          refine ⟨p, h, rfl, rfl, hmp, by omega, by omega, (show Aside _ from ⟨hst.out.1, fun k y' hk hy' => ?_⟩), row_below hrow H2.out, grownBy_trans hgr (grownBy_below _ H2.out)⟩
          have := up_le hu hy hy' hk
          show xk ≤ y'.k
          have h9 : yk ≤ y'.k := this
          omega
        case measure => simp [intOf]; omega
    · obtain rfl : p = q := by omega
      obtain ⟨_, hP, hm, hR, hXl, hX, hxa, hRX, hu⟩ := HR.out
      obtain ⟨d, hd⟩ : ∃ d, p = m + d := ⟨p - m, by omega⟩
      have hfin : R.take d ++ x :: R.drop d = sortS (x :: R) := by
        have hq : m + d - m = d := by omega
        have h := merge_is (L1 := []) (L2 := [x]) (R1 := R.take d) (R2 := R.drop d) (List.pairwise_singleton _ _) (by rw [List.take_append_drop]; exact hu) (fun z hz y hy => by
          obtain rfl := List.mem_singleton.1 hz
          obtain ⟨k, hk, hy⟩ := take_mem hy
          exact hst.out.1 k y (by omega) hy) (fun z hz => by cases hz)
        rw [List.nil_append, List.nil_append, sortS_id (up_take hu d), List.take_append_drop] at h
        rw [show sortS ([x] ++ R.drop d) = x :: R.drop d from sortS_id (List.pairwise_cons.2 ⟨fun y hy => by
          obtain ⟨k, hk, hy⟩ := drop_mem hy
          have := hst.out.2 k y (by omega) hy
          omega, up_drop hu d⟩)] at h
        exact h
      have hdR : d ≤ R.length := by omega
      have HX := Lib.hid (And.intro hrow (And.intro hgr (And.intro hfin (And.intro hdR (And.intro hd (And.intro hP (And.intro hR (And.intro hXl (And.intro hX hm)))))))))
      have hmI : (p : Int) - 1 = (a : Int) + (d : Int) := by omega
      have hpn : (p : Int) ≤ n := by omega
      have hnI : (n : Int) ≤ 1048576 := by omega
      clear hrow hgr hfin hst hP hR hXl hX hxa hRX hu hm hdR
      go_wp2_with fail
      obtain ⟨wo, rfl⟩ : ∃ wo : World, wo = wr := ⟨_, rfl⟩
      go_loopw [13] (fun k wi => ∃ (t e : Nat), t ≤ d ∧ e = a + t ∧ k = .int .i64 (e : Int) ∧ wi.ownsRow base 36 2 (.slice (some ⟨g, 0, none⟩) n cap) n (svs (P ++ (R.take t ++ x :: (R.drop t ++ S)))) ∧ w.grownBy wi (some g)) (fun k _ => a + d - (intOf k).toNat)
      case atStart =>
        obtain ⟨hrow, hgr, hfin, hdR, hd, hP, hR, hXl, hX, hm⟩ := HX.out
        refine ⟨0, a, by omega, by omega, rfl, ?_, hgr⟩
        rw [List.take_zero, List.drop_zero, List.nil_append, hX]
        exact hrow
      case round =>
        obtain ⟨t, e, ht, he, rfl, hrow2, hgr2⟩ := hrel
        by_cases hlt3 : t < d
        · obtain ⟨hrow, hgr, hfin, hdR, hd', hP, hR, hXl, hX, hm⟩ := HX.out
          obtain ⟨s, hs⟩ : ∃ s, R[t]? = some s := ⟨_, List.getElem?_eq_getElem (by omega)⟩
          obtain ⟨U, hU⟩ : ∃ U, P ++ R.take t = U := ⟨_, rfl⟩
          obtain ⟨V, hV⟩ : ∃ V, R.drop (t + 1) ++ S = V := ⟨_, rfl⟩
          have hnow : P ++ (R.take t ++ x :: (R.drop t ++ S)) = U ++ x :: s :: V := by rw [drop_pred hs, ← hU, ← hV]; simp
          have hnext : P ++ (R.take (t + 1) ++ x :: (R.drop (t + 1) ++ S)) = U ++ s :: x :: V := by rw [take_pred hs, ← hU, ← hV]; simp
          have hUl : U.length = e := by rw [← hU, List.length_append, List.length_take]; omega
          rw [hnow] at hrow2
          have hgx : (U ++ x :: s :: V)[e]? = some x := get_app hUl
          obtain ⟨f, hf⟩ : ∃ f, f = e + 1 := ⟨_, rfl⟩
          have hgs : (U ++ x :: s :: V)[f]? = some s := by rw [List.getElem?_append_right (by omega), hUl, show f - e = 1 by omega]; rfl
          obtain ⟨c0, c1⟩ := row_at hrow2 hgx
          obtain ⟨c2, c3⟩ := row_at hrow2 hgs
          have hfI : (e : Int) + 1 = (f : Int) := by omega
          have hen : (e : Int) < n := by omega
          have hfn : (f : Int) < n := by omega
          have held : (e : Int) < (a : Int) + (d : Int) := by omega
          have f0 := hrow2.frozenAt (e * 2)
          have f1 := hrow2.frozenAt (e * 2 + 1)
          have f2 := hrow2.frozenAt (f * 2)
          have f3 := hrow2.frozenAt (f * 2 + 1)
          have e1 : ¬ f * 2 = e * 2 := by omega
          have e2 : ¬ f * 2 = e * 2 + 1 := by omega
          have e3 : ¬ f * 2 + 1 = e * 2 := by omega
          have e4 : ¬ f * 2 + 1 = e * 2 + 1 := by omega
          have e5 : ¬ e * 2 = f * 2 := by omega
          have e6 : ¬ e * 2 + 1 = f * 2 := by omega
          have e7 : ¬ e * 2 = f * 2 + 1 := by omega
          have HY := Lib.hid (And.intro hrow2 (And.intro hgr2 (And.intro hnext (And.intro hUl (And.intro hf he)))))
          clear hrow2 hgr2 hnow hnext hUl hgx hgs hU hV hs hf he hrow hgr hfin hdR hP hR hXl hX hm
          obtain ⟨xk, xA, xn, xc⟩ := x
          obtain ⟨sk, sA, sn, sc⟩ := s
          dsimp only at c0 c1 c2 c3
          go_wp2_with fail
          go_region
          all_goals
            go_wp2
            go_roundw
            case rel =>
              obtain ⟨hrow2, hgr2, hnext, hUl, hf, he⟩ := HY.out
              obtain ⟨a1, b1⟩ := row_put hrow2 e ⟨sk, sA, sn, sc⟩
              obtain ⟨a2, b2⟩ := row_put a1 f ⟨xk, xA, xn, xc⟩
              have hl := swap_next ⟨xk, xA, xn, xc⟩ ⟨sk, sA, sn, sc⟩ V U
              rw [hUl, ← hf] at hl
              rw [hl, ← hnext] at a2
              refine ⟨t + 1, f, by omega, by omega, by go_num, a2, (by have hz := grownBy_trans (grownBy_trans hgr2 b1) b2; exact ⟨hz.os, hz.tape, hz.output, hz.size, hz.block⟩)⟩
            case measure => simp [intOf]; omega
        · obtain rfl : t = d := by omega
          obtain ⟨hrow, hgr, hfin, hdR, hd', hP, hR, hXl, hX, hm⟩ := HX.out
          have hg2 : P ++ (R.take t ++ x :: (R.drop t ++ S)) = P ++ (sortS (x :: R) ++ S) := by rw [← hfin]; simp
          rw [hg2] at hrow2
          have HY := Lib.hid (And.intro hrow2 hgr2)
          have hnlt : ¬ (e : Int) < (a : Int) + (t : Int) := by omega
          clear hrow2 hgr2 hrow hgr hfin hdR hP hR hXl hX hm hg2 he
          go_wp2
          refine bodyPost_ret (results_none rfl _ _ _) rfl ?_
          exact ⟨rfl, HY.out.1, HY.out.2⟩
end Go.Proofs.Ytfbddldcbjhmiaa
