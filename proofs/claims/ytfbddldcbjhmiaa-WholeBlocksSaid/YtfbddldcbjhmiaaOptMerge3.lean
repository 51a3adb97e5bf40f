/-
  Options of a row: two sorted stretches merged, however long.
-/
import Derived.Test.YtfbddldcbjhmiaaOptMerge2
namespace Go.Proofs.Ytfbddldcbjhmiaa
open Go.RowKit
set_option maxRecDepth 100000
set_option linter.unusedVariables false
def Rw (w : World) (base g n cap : Nat) (W : World) (Y : List Sv) : Prop := W.ownsRow base 36 2 (.slice (some ⟨g, 0, none⟩) n cap) n (svs Y) ∧ w.grownBy W (some g)
theorem Rw.below {w : World} {base g n cap : Nat} {W W' : World} {Y : List Sv} (h : Rw w base g n cap W Y) (b : Below W.heap.size W W') : Rw w base g n cap W' Y := ⟨row_below h.1 b, grownBy_trans h.2 (grownBy_below _ b)⟩
def MergeOk (d : Nat) : Prop := ∀ (g n cap : Nat) (P L R S : List Sv) (w : World) (base : Nat), w.ownsRow base 36 2 (.slice (some ⟨g, 0, none⟩) n cap) n (svs (P ++ (L ++ (R ++ S)))) → ∀ (a m b : Nat), P.length = a → a + L.length = m → m + R.length = b → 1 ≤ L.length → 1 ≤ R.length → b - a ≤ d → Up L → Up R → n ≤ 1048576 →
  Calls Try.prog 91 #[.slice (some ⟨g, 0, none⟩) n cap, .int .i64 a, .int .i64 m, .int .i64 b, .func (.func 71) #[] #[]] w fun e w' => e = .returned (.tuple #[]) ∧ Rw w base g n cap w' (P ++ (sortS (L ++ R) ++ S))
theorem Rw.calls {w : World} {base g n cap : Nat} {f : FuncId} {args : Array Value} {W : World} {Y Y' : List Sv} (hg : w.grownBy W (some g)) (h : Calls Try.prog f args W fun e w' => e = .returned (.tuple #[]) ∧ Rw W base g n cap w' Y') : Calls Try.prog f args W fun e w' => e = .returned (.tuple #[]) ∧ Rw w base g n cap w' Y' :=
  h.mono fun e w' ⟨he, ho, hg'⟩ => ⟨he, ho, grownBy_trans hg hg'⟩
set_option maxHeartbeats 8000000 in
theorem merge_big (d : Nat) (ih : MergeOk d) (g n cap : Nat) (P L R S : List Sv) (w : World) (base : Nat) (hrow : w.ownsRow base 36 2 (.slice (some ⟨g, 0, none⟩) n cap) n (svs (P ++ (L ++ (R ++ S))))) (a m b : Nat) (hP : P.length = a) (hm : a + L.length = m) (hR : m + R.length = b) (hL2 : 2 ≤ L.length) (hR2 : 2 ≤ R.length) (hbd : b - a ≤ d + 1) (huL : Up L) (huR : Up R) (hn : n ≤ 1048576) :
    Calls Try.prog 91 #[.slice (some ⟨g, 0, none⟩) n cap, .int .i64 a, .int .i64 m, .int .i64 b, .func (.func 71) #[] #[]] w fun e w' => e = .returned (.tuple #[]) ∧ Rw w base g n cap w' (P ++ (sortS (L ++ R) ++ S)) := by
  have hXl := row_len hrow
  simp only [List.length_append] at hXl
  have hbn : (b : Int) ≤ 1048576 := by omega
  have hbn2 : b ≤ n := by omega
  have hma : ((m : Int) - (a : Int) == 1) = false := by simp; omega
  have hbm : ((b : Int) - (m : Int) == 1) = false := by simp; omega
  have ham2 : a + 2 ≤ m := by omega
  have hmb2 : m + 2 ≤ b := by omega
  have ham : (a : Int) ≤ m := by omega
  have hmb : (m : Int) ≤ b := by omega
  obtain ⟨M, hM⟩ : ∃ M, M = (a + b) / 2 := ⟨_, rfl⟩
  obtain ⟨ab, hab⟩ : ∃ ab, ab = a + b := ⟨_, rfl⟩
  obtain ⟨N, hN⟩ : ∃ N, N = M + m := ⟨_, rfl⟩
  have habI : (a : Int) + (b : Int) = (ab : Int) := by omega
  have habM : (ab : Int) / 2 = (M : Int) := by omega
  have habb : (ab : Int) ≤ 2097152 := by omega
  have hNI : (M : Int) + (m : Int) = (N : Int) := by omega
  have haM : a < M := by omega
  have hMb : M < b := by omega
  obtain ⟨q0, hq0⟩ : ∃ q0, q0 = N - 1 := ⟨_, rfl⟩
  have hq0I : (N : Int) - 1 = (q0 : Int) := by omega
  obtain ⟨X, hX⟩ : ∃ X, P ++ (L ++ (R ++ S)) = X := ⟨_, rfl⟩
  rw [hX] at hrow
  have hLX : ∀ (k : Nat) (x : Sv), L[k]? = some x → X[a + k]? = some x := fun k x hx => by
    rw [← hX, List.getElem?_append_right (by omega), show a + k - P.length = k by omega, List.getElem?_append_left (List.getElem?_eq_some_iff.1 hx).1]
    exact hx
  have hRX : ∀ (k : Nat) (y : Sv), R[k]? = some y → X[m + k]? = some y := fun k y hy => by
    rw [← hX, ← List.append_assoc, List.getElem?_append_right (by rw [List.length_append]; omega), List.length_append, show m + k - (P.length + L.length) = k by omega, List.getElem?_append_left (List.getElem?_eq_some_iff.1 hy).1]
    exact hy
  have HR := Lib.hid (And.intro hrow (And.intro hP (And.intro hm (And.intro hR (And.intro hXl (And.intro hX (And.intro hLX (And.intro hRX (And.intro huL (And.intro huR (And.intro hM (And.intro hN (And.intro hq0 (And.intro hbd ih))))))))))))))
  obtain ⟨s0, r0, hs0, hr0⟩ : ∃ s0 r0 : Nat, s0 = max a (N - b) ∧ r0 = min m M := ⟨_, _, rfl, rfl⟩
  have hcase : ((M : Int) < (m : Int) ∧ (N : Int) - (b : Int) = (s0 : Int) ∧ M = r0) ∨ (¬ (M : Int) < (m : Int) ∧ a = s0 ∧ m = r0) := by omega
  have has : a ≤ s0 := by omega
  have hsr : s0 ≤ r0 := by omega
  have hrm : r0 ≤ m := by omega
  have hrM : r0 ≤ M := by omega
  have hsN : N ≤ s0 + b := by omega
  have HS := Lib.hid (And.intro hs0 hr0)
  clear hrow hXl hP hm hR hX hLX hRX huL huR hM hN hq0 ih hs0 hr0 hab hbd
  go_enter Try.func91, Try.ntmps91
  rcases hcase with ⟨hMm, hs0I, rfl⟩ | ⟨hMm, rfl, rfl⟩
  all_goals
    go_wp2
    go_loopw [20, 21, 23] (fun i j _ wr => ∃ (p q : Nat), i = .int .i64 (p : Int) ∧ j = .int .i64 (q : Int) ∧ p ≤ q ∧ q ≤ m ∧ q ≤ M ∧ Aside (max a (N - b) ≤ p ∧ q ≤ min m M ∧ (∀ (c : Nat) (x y : Sv), max a (N - b) ≤ c → c < p → L[c - a]? = some x → R[M - 1 - c]? = some y → x.k ≤ y.k) ∧ (∀ (c : Nat) (x y : Sv), q ≤ c → c < min m M → L[c - a]? = some x → R[M - 1 - c]? = some y → y.k < x.k)) ∧ Aside (Rw w base g n cap wr X)) (fun i j _ _ => (intOf j).toNat - (intOf i).toNat)
    case atStart => exact ⟨_, _, rfl, rfl, by omega, by omega, by omega, (show Aside _ from ⟨by have := HS.out; omega, by have := HS.out; omega, fun c x y h h' => absurd h' (by have := HS.out; omega), fun c x y h h' => absurd h' (by have := HS.out; omega)⟩), (show Aside _ from ⟨HR.out.1, World.grownBy.refl _ _⟩)⟩
    case round =>
      obtain ⟨p, q, rfl, rfl, hpq, hqm, hqM, hst, hrw⟩ := hrel
      by_cases hlt : p < q
      · obtain ⟨hrow0, hP, hm, hR, hXl, hX, hLX, hRX, huL, huR, hM, hN, hq0, hbd, ih⟩ := HR.out
        obtain ⟨hlo, hhi, hf, ht⟩ := hst.out
        obtain ⟨h, hh⟩ : ∃ h, h = (p + q) / 2 := ⟨_, rfl⟩
        have hph : p ≤ h := by omega
        have hhq : h < q := by omega
        obtain ⟨x, hx⟩ : ∃ x, L[h - a]? = some x := ⟨_, List.getElem?_eq_getElem (by omega)⟩
        obtain ⟨y, hy⟩ : ∃ y, R[M - 1 - h]? = some y := ⟨_, List.getElem?_eq_getElem (by omega)⟩
        have hxX := hLX _ x hx
        rw [show a + (h - a) = h by omega] at hxX
        obtain ⟨i2, hi2⟩ : ∃ i2, i2 = m + (M - 1 - h) := ⟨_, rfl⟩
        have hyX := hRX _ y hy
        rw [← hi2] at hyX
        obtain ⟨c0, c1⟩ := row_at hrw.out.1 hxX
        obtain ⟨c2, c3⟩ := row_at hrw.out.1 hyX
        obtain ⟨s, hs⟩ : ∃ s, s = p + q := ⟨_, rfl⟩
        have hsI : (p : Int) + (q : Int) = (s : Int) := by omega
        have hhI : (s : Int) / 2 = (h : Int) := by omega
        have hsb : (s : Int) ≤ 2097152 := by omega
        have hhn : (h : Int) < n := by omega
        have hin : (i2 : Int) < n := by omega
        have hiI : (q0 : Int) - (h : Int) = (i2 : Int) := by omega
        have hltI : (p : Int) < q := by omega
        have hq0b : (q0 : Int) ≤ 2097152 := by omega
        have hw1 : IntKind.i64.wrap (i2 : Int) = (i2 : Int) := IntWalk.i64_in _ (by omega)
        have hhq0 : (h : Int) ≤ (q0 : Int) := by omega
        have hi20 : (0 : Int) ≤ (i2 : Int) := by omega
        obtain ⟨z, hz⟩ : ∃ z, cmpI y.k x.k = z := ⟨_, rfl⟩
        have hcall := fun W => cmp_f y x W
        rw [hz] at hcall
        have hzl := cmpI_lt y.k x.k
        rw [hz] at hzl
        have HC := Lib.hid hcall
        have HX := Lib.hid (And.intro hx (And.intro hy (And.intro hlo (And.intro hhi (And.intro hf (And.intro ht (And.intro huL huR)))))))
        clear hrow0 hP hm hR hXl hX hLX hRX huL huR hM hN hq0 hbd ih hlo hhi hf ht hx hy hxX hyX hi2 hh hs hcall hz
        obtain ⟨yk, yA, yn, yc⟩ := y
        obtain ⟨xk, xA, xn, xc⟩ := x
        dsimp only at c0 c1 c2 c3 hzl
        by_cases hlt2 : yk < xk
        · rw [decide_eq_true hlt2] at hzl
          go_wp2_with fail
          go_still_tail 11, (by kernel_rfl)
          go_wp2_with (go_at_call 71; refine (HC.out _).mono ?_; rintro e w2 ⟨rfl, b2⟩; have H2 : Hid (Below wr.heap.size wr w2) := Lib.hid ⟨b2.os, b2.tape, b2.output, b2.size, b2.block⟩; clear b2)
          go_roundw
          case rel =>
            obtain ⟨hx, hy, hlo, hhi, hf, ht, huL, huR⟩ := HX.out
            refine ⟨p, h, rfl, rfl, by omega, by omega, by omega, (show Aside _ from ⟨hlo, by omega, hf, fun c x' y' h1 h2 hx' hy' => ?_⟩), (show Aside _ from hrw.out.below H2.out)⟩
            have g1 : xk ≤ x'.k := up_le huL hx hx' (by omega)
            have g2 : y'.k ≤ yk := up_le huR hy' hy (by omega)
            omega
          case measure => simp [intOf]; omega
        · rw [decide_eq_false hlt2] at hzl
          go_wp2_with fail
          go_still_tail 11, (by kernel_rfl)
          go_wp2_with (go_at_call 71; refine (HC.out _).mono ?_; rintro e w2 ⟨rfl, b2⟩; have H2 : Hid (Below wr.heap.size wr w2) := Lib.hid ⟨b2.os, b2.tape, b2.output, b2.size, b2.block⟩; clear b2)
          go_roundw
          case rel =>
            obtain ⟨hx, hy, hlo, hhi, hf, ht, huL, huR⟩ := HX.out
            refine ⟨h + 1, q, by go_num, rfl, by omega, by omega, by omega, (show Aside _ from ⟨by omega, hhi, fun c x' y' h1 h2 hx' hy' => ?_, ht⟩), (show Aside _ from hrw.out.below H2.out)⟩
            have g1 : x'.k ≤ xk := up_le huL hx' hx (by omega)
            have g2 : yk ≤ y'.k := up_le huR hy hy' (by omega)
            omega
          case measure => simp [intOf]; omega
      · obtain rfl : p = q := by omega
        obtain ⟨hrow0, hP, hm, hR, hXl, hX, hLX, hRX, huL, huR, hM, hN, hq0, hbd, ih⟩ := HR.out
        obtain ⟨hlo, hhi, hf, ht⟩ := hst.out
        obtain ⟨e, he⟩ : ∃ e, e = N - p := ⟨_, rfl⟩
        have heI : (N : Int) - (p : Int) = (e : Int) := by omega
        obtain ⟨L1, hL1⟩ : ∃ L1, L.take (p - a) = L1 := ⟨_, rfl⟩
        obtain ⟨L2, hL2'⟩ : ∃ L2, L.drop (p - a) = L2 := ⟨_, rfl⟩
        obtain ⟨R1, hR1⟩ : ∃ R1, R.take (M - p) = R1 := ⟨_, rfl⟩
        obtain ⟨R2, hR2'⟩ : ∃ R2, R.drop (M - p) = R2 := ⟨_, rfl⟩
        have hLL : L1 ++ L2 = L := by rw [← hL1, ← hL2', List.take_append_drop]
        have hRR : R1 ++ R2 = R := by rw [← hR1, ← hR2', List.take_append_drop]
        have lL1 : L1.length = p - a := by rw [← hL1, List.length_take]; omega
        have lL2 : L2.length = m - p := by rw [← hL2', List.length_drop]; omega
        have lR1 : R1.length = M - p := by rw [← hR1, List.length_take]; omega
        have lR2 : R2.length = b - e := by rw [← hR2', List.length_drop]; omega
        have huL12 : Up (L1 ++ L2) := by rw [hLL]; exact huL
        have huR12 : Up (R1 ++ R2) := by rw [hRR]; exact huR
        have uL1 : Up L1 := hL1 ▸ up_take huL _
        have uL2 : Up L2 := hL2' ▸ up_drop huL _
        have uR1 : Up R1 := hR1 ▸ up_take huR _
        have uR2 : Up R2 := hR2' ▸ up_drop huR _
        have h3 : ∀ x ∈ L2, ∀ y ∈ R1, y.k < x.k := fun x hx y hy => by
          rw [← hL2'] at hx
          rw [← hR1] at hy
          obtain ⟨i, hi, hx⟩ := drop_mem hx
          obtain ⟨j, hj, hy⟩ := take_mem hy
          have hil := (List.getElem?_eq_some_iff.1 hx).1
          obtain ⟨x0, hx0⟩ : ∃ x0, L[p - a]? = some x0 := ⟨_, List.getElem?_eq_getElem (by omega)⟩
          obtain ⟨y0, hy0⟩ : ∃ y0, R[M - 1 - p]? = some y0 := ⟨_, List.getElem?_eq_getElem (by omega)⟩
          have g1 := up_le huL hx0 hx hi
          have g2 := up_le huR hy hy0 (by omega)
          have g3 := ht p x0 y0 (Nat.le_refl _) (by omega) hx0 hy0
          omega
        have h4 : ∀ x ∈ L1, ∀ y ∈ R2, x.k ≤ y.k := fun x hx y hy => by
          rw [← hL1] at hx
          rw [← hR2'] at hy
          obtain ⟨i, hi, hx⟩ := take_mem hx
          obtain ⟨j, hj, hy⟩ := drop_mem hy
          have hjl := (List.getElem?_eq_some_iff.1 hy).1
          obtain ⟨x0, hx0⟩ : ∃ x0, L[p - 1 - a]? = some x0 := ⟨_, List.getElem?_eq_getElem (by omega)⟩
          obtain ⟨y0, hy0⟩ : ∃ y0, R[M - 1 - (p - 1)]? = some y0 := ⟨_, List.getElem?_eq_getElem (by omega)⟩
          have g1 := up_le huL hx hx0 (by omega)
          have g2 := up_le huR hy0 hy (by omega)
          have g3 := hf (p - 1) x0 y0 (by omega) (by omega) hx0 hy0
          omega
        have hfin := merge_is huL12 huR12 h3 h4
        have hfin2 : sortS (L1 ++ R1) ++ sortS (L2 ++ R2) = sortS (L ++ R) := by rw [hfin, ← hLL, ← hRR]; simp
        obtain ⟨Y1, hY1⟩ : ∃ Y1, P ++ (L1 ++ (R1 ++ (L2 ++ (R2 ++ S)))) = Y1 := ⟨_, rfl⟩
        obtain ⟨Y2, hY2⟩ : ∃ Y2, P ++ (sortS (L1 ++ R1) ++ (L2 ++ (R2 ++ S))) = Y2 := ⟨_, rfl⟩
        obtain ⟨Y3, hY3⟩ : ∃ Y3, P ++ (sortS (L1 ++ R1) ++ (sortS (L2 ++ R2) ++ S)) = Y3 := ⟨_, rfl⟩
        have hX' : X = P ++ (L1 ++ (L2 ++ (R1 ++ (R2 ++ S)))) := by rw [← hX, ← hLL, ← hRR]; simp
        have E := Lib.hid (show (¬ (p < m ∧ p < M) → X = Y1) ∧ (¬ (a < p ∧ p < M) → Y1 = Y2) ∧ (¬ (p < m ∧ e < b) → Y2 = Y3) ∧ Y3 = P ++ (sortS (L ++ R) ++ S) from by
          refine ⟨fun hc => ?_, fun hc => ?_, fun hc => ?_, by rw [← hY3, ← hfin2]; simp⟩
          · rw [hX', ← hY1]
            by_cases hb : p < m
            · have : R1 = [] := List.eq_nil_of_length_eq_zero (by omega)
              rw [this]; simp
            · have : L2 = [] := List.eq_nil_of_length_eq_zero (by omega)
              rw [this]; simp
          · rw [← hY1, ← hY2]
            by_cases hb : a < p
            · have : R1 = [] := List.eq_nil_of_length_eq_zero (by omega)
              rw [this, List.append_nil, sortS_id uL1]; simp
            · have : L1 = [] := List.eq_nil_of_length_eq_zero (by omega)
              rw [this]; simp only [List.nil_append]; rw [sortS_id uR1]
          · rw [← hY2, ← hY3]
            by_cases hb : p < m
            · have : R2 = [] := List.eq_nil_of_length_eq_zero (by omega)
              rw [this, List.append_nil, sortS_id uL2]; simp
            · have : L2 = [] := List.eq_nil_of_length_eq_zero (by omega)
              rw [this]; simp only [List.nil_append]; rw [sortS_id uR2])
        have CR := Lib.hid (show p < m → p < M → ∀ W, Rw w base g n cap W X → Calls Try.prog 93 #[.slice (some ⟨g, 0, none⟩) n cap, .int .i64 p, .int .i64 m, .int .i64 e, .func (.func 71) #[] #[]] W fun e w' => e = .returned (.tuple #[]) ∧ Rw w base g n cap w' Y1 from fun hb hc W hw => by
          have h0 : X = (P ++ L1) ++ (L2 ++ (R1 ++ (R2 ++ S))) := by rw [hX']; simp
          have h1 : Y1 = (P ++ L1) ++ (R1 ++ (L2 ++ (R2 ++ S))) := by rw [← hY1]; simp
          rw [h0] at hw
          rw [h1]
          exact Rw.calls (Y := X) hw.2 (rot_f g n cap (P ++ L1) L2 R1 (R2 ++ S) W base hw.1 p m e (by rw [List.length_append]; omega) (by omega) (by omega) hb (by omega) hn _))
        have CL := Lib.hid (show a < p → p < M → ∀ W, Rw w base g n cap W Y1 → Calls Try.prog 91 #[.slice (some ⟨g, 0, none⟩) n cap, .int .i64 a, .int .i64 p, .int .i64 M, .func (.func 71) #[] #[]] W fun e w' => e = .returned (.tuple #[]) ∧ Rw w base g n cap w' Y2 from fun ha hc W hw => by
          rw [← hY1] at hw
          rw [← hY2]
          exact Rw.calls (Y := X) hw.2 (ih g n cap P L1 R1 (L2 ++ (R2 ++ S)) W base hw.1 a p M hP (by omega) (by omega) (by omega) (by omega) (by omega) uL1 uR1 hn))
        have CT := Lib.hid (show p < m → e < b → ∀ W, Rw w base g n cap W Y2 → Calls Try.prog 91 #[.slice (some ⟨g, 0, none⟩) n cap, .int .i64 M, .int .i64 e, .int .i64 b, .func (.func 71) #[] #[]] W fun e w' => e = .returned (.tuple #[]) ∧ Rw w base g n cap w' Y3 from fun hb hd W hw => by
          have h0 : Y2 = (P ++ sortS (L1 ++ R1)) ++ (L2 ++ (R2 ++ S)) := by rw [← hY2]; simp
          have h1 : Y3 = (P ++ sortS (L1 ++ R1)) ++ (sortS (L2 ++ R2) ++ S) := by rw [← hY3]; simp
          rw [h0] at hw
          rw [h1]
          exact Rw.calls (Y := X) hw.2 (ih g n cap (P ++ sortS (L1 ++ R1)) L2 R2 S W base hw.1 M e b (by rw [List.length_append, sortS_len, List.length_append]; omega) (by omega) (by omega) (by omega) (by omega) (by omega) uL2 uR2 hn))
        have CUR := Lib.hid hrw.out
        have hpe : p < m ↔ M < e := by omega
        have hme : m < e ↔ p < M := by omega
        have hap : a ≤ p := by omega
        have HP := Lib.hid (And.intro hpe (And.intro hme hap))
        clear hrow0 hP hm hR hXl hX hLX hRX huL huR hM hN hq0 hbd ih hlo hhi hf ht hL1 hL2' hR1 hR2' hLL hRR lL1 lL2 lR1 lR2 huL12 huR12 uL1 uL2 uR1 uR2 h3 h4 hfin hfin2 hY1 hY2 hY3 hX' hst hrw he hpe hme hap
        by_cases hb : p < m
        · by_cases hc : p < M
          · by_cases ha : a < p
            · by_cases hd : e < b
              · have i1 : (p : Int) < m := by omega
                have i2 : (m : Int) < e := by omega
                have i3 : (a : Int) < p := by omega
                have i4 : (p : Int) < M := by omega
                have i5 : (M : Int) < e := by omega
                have i6 : (e : Int) < b := by omega
                go_wp2_with fail
                refine (CR.out hb hc _ CUR.out).mono ?_
                rintro e2 w2 ⟨rfl, ho2⟩
                have C2 := Lib.hid ho2
                clear ho2
                go_wp2_with fail
                refine (CL.out ha hc _ C2.out).mono ?_
                rintro e3 w3 ⟨rfl, ho3⟩
                have C3 := Lib.hid ho3
                clear ho3
                go_wp2_with fail
                refine (CT.out hb hd _ C3.out).mono ?_
                rintro e4 w4 ⟨rfl, ho4⟩
                have C4 := Lib.hid ho4
                clear ho4
                go_wp2_with fail
                all_goals (refine bodyPost_end (results_none rfl _ _ _) rfl ?_; exact ⟨rfl, by rw [← E.out.2.2.2]; exact C4.out⟩)
              · obtain rfl : Y3 = Y2 := (E.out.2.2.1 (by omega)).symm
                have i1 : (p : Int) < m := by omega
                have i2 : (m : Int) < e := by omega
                have i3 : (a : Int) < p := by omega
                have i4 : (p : Int) < M := by omega
                have i5 : (M : Int) < e := by omega
                have i6 : ¬ (e : Int) < b := by omega
                go_wp2_with fail
                refine (CR.out hb hc _ CUR.out).mono ?_
                rintro e2 w2 ⟨rfl, ho2⟩
                have C2 := Lib.hid ho2
                clear ho2
                go_wp2_with fail
                refine (CL.out ha hc _ C2.out).mono ?_
                rintro e3 w3 ⟨rfl, ho3⟩
                have C3 := Lib.hid ho3
                clear ho3
                go_wp2_with fail
                all_goals (refine bodyPost_end (results_none rfl _ _ _) rfl ?_; exact ⟨rfl, by rw [← E.out.2.2.2]; exact C3.out⟩)
            · by_cases hd : e < b
              · obtain rfl : Y2 = Y1 := (E.out.2.1 (by omega)).symm
                have i1 : (p : Int) < m := by omega
                have i2 : (m : Int) < e := by omega
                have i3 : ¬ (a : Int) < p := by omega
                have i4 : (p : Int) < M := by omega
                have i5 : (M : Int) < e := by omega
                have i6 : (e : Int) < b := by omega
                go_wp2_with fail
                refine (CR.out hb hc _ CUR.out).mono ?_
                rintro e2 w2 ⟨rfl, ho2⟩
                have C2 := Lib.hid ho2
                clear ho2
                go_wp2_with fail
                refine (CT.out hb hd _ C2.out).mono ?_
                rintro e3 w3 ⟨rfl, ho3⟩
                have C3 := Lib.hid ho3
                clear ho3
                go_wp2_with fail
                all_goals (refine bodyPost_end (results_none rfl _ _ _) rfl ?_; exact ⟨rfl, by rw [← E.out.2.2.2]; exact C3.out⟩)
              · obtain rfl : Y2 = Y1 := (E.out.2.1 (by omega)).symm
                obtain rfl : Y3 = Y2 := (E.out.2.2.1 (by omega)).symm
                have i1 : (p : Int) < m := by omega
                have i2 : (m : Int) < e := by omega
                have i3 : ¬ (a : Int) < p := by omega
                have i4 : (p : Int) < M := by omega
                have i5 : (M : Int) < e := by omega
                have i6 : ¬ (e : Int) < b := by omega
                go_wp2_with fail
                refine (CR.out hb hc _ CUR.out).mono ?_
                rintro e2 w2 ⟨rfl, ho2⟩
                have C2 := Lib.hid ho2
                clear ho2
                go_wp2_with fail
                all_goals (refine bodyPost_end (results_none rfl _ _ _) rfl ?_; exact ⟨rfl, by rw [← E.out.2.2.2]; exact C2.out⟩)
          · by_cases ha : a < p
            · by_cases hd : e < b
              · obtain rfl : Y1 = X := (E.out.1 (by omega)).symm
                obtain rfl : Y2 = Y1 := (E.out.2.1 (by omega)).symm
                have i1 : (p : Int) < m := by omega
                have i2 : ¬ (m : Int) < e := by omega
                have i3 : (a : Int) < p := by omega
                have i4 : ¬ (p : Int) < M := by omega
                have i5 : (M : Int) < e := by omega
                have i6 : (e : Int) < b := by omega
                go_wp2_with fail
                refine (CT.out hb hd _ CUR.out).mono ?_
                rintro e2 w2 ⟨rfl, ho2⟩
                have C2 := Lib.hid ho2
                clear ho2
                go_wp2_with fail
                all_goals (refine bodyPost_end (results_none rfl _ _ _) rfl ?_; exact ⟨rfl, by rw [← E.out.2.2.2]; exact C2.out⟩)
              · obtain rfl : Y1 = X := (E.out.1 (by omega)).symm
                obtain rfl : Y2 = Y1 := (E.out.2.1 (by omega)).symm
                obtain rfl : Y3 = Y2 := (E.out.2.2.1 (by omega)).symm
                have i1 : (p : Int) < m := by omega
                have i2 : ¬ (m : Int) < e := by omega
                have i3 : (a : Int) < p := by omega
                have i4 : ¬ (p : Int) < M := by omega
                have i5 : (M : Int) < e := by omega
                have i6 : ¬ (e : Int) < b := by omega
                go_wp2_with fail
                all_goals (refine bodyPost_end (results_none rfl _ _ _) rfl ?_; exact ⟨rfl, by rw [← E.out.2.2.2]; exact CUR.out⟩)
            · by_cases hd : e < b
              · obtain rfl : Y1 = X := (E.out.1 (by omega)).symm
                obtain rfl : Y2 = Y1 := (E.out.2.1 (by omega)).symm
                have i1 : (p : Int) < m := by omega
                have i2 : ¬ (m : Int) < e := by omega
                have i3 : ¬ (a : Int) < p := by omega
                have i4 : ¬ (p : Int) < M := by omega
                have i5 : (M : Int) < e := by omega
                have i6 : (e : Int) < b := by omega
                go_wp2_with fail
                refine (CT.out hb hd _ CUR.out).mono ?_
                rintro e2 w2 ⟨rfl, ho2⟩
                have C2 := Lib.hid ho2
                clear ho2
                go_wp2_with fail
                all_goals (refine bodyPost_end (results_none rfl _ _ _) rfl ?_; exact ⟨rfl, by rw [← E.out.2.2.2]; exact C2.out⟩)
              · obtain rfl : Y1 = X := (E.out.1 (by omega)).symm
                obtain rfl : Y2 = Y1 := (E.out.2.1 (by omega)).symm
                obtain rfl : Y3 = Y2 := (E.out.2.2.1 (by omega)).symm
                have i1 : (p : Int) < m := by omega
                have i2 : ¬ (m : Int) < e := by omega
                have i3 : ¬ (a : Int) < p := by omega
                have i4 : ¬ (p : Int) < M := by omega
                have i5 : (M : Int) < e := by omega
                have i6 : ¬ (e : Int) < b := by omega
                go_wp2_with fail
                all_goals (refine bodyPost_end (results_none rfl _ _ _) rfl ?_; exact ⟨rfl, by rw [← E.out.2.2.2]; exact CUR.out⟩)
        · by_cases hc : p < M
          · by_cases ha : a < p
            · by_cases hd : e < b
              · obtain rfl : Y1 = X := (E.out.1 (by omega)).symm
                obtain rfl : Y3 = Y2 := (E.out.2.2.1 (by omega)).symm
                have i1 : ¬ (p : Int) < m := by omega
                have i2 : (m : Int) < e := by omega
                have i3 : (a : Int) < p := by omega
                have i4 : (p : Int) < M := by omega
                have i5 : ¬ (M : Int) < e := by omega
                have i6 : (e : Int) < b := by omega
                go_wp2_with fail
                refine (CL.out ha hc _ CUR.out).mono ?_
                rintro e2 w2 ⟨rfl, ho2⟩
                have C2 := Lib.hid ho2
                clear ho2
                go_wp2_with fail
                all_goals (refine bodyPost_end (results_none rfl _ _ _) rfl ?_; exact ⟨rfl, by rw [← E.out.2.2.2]; exact C2.out⟩)
              · obtain rfl : Y1 = X := (E.out.1 (by omega)).symm
                obtain rfl : Y3 = Y2 := (E.out.2.2.1 (by omega)).symm
                have i1 : ¬ (p : Int) < m := by omega
                have i2 : (m : Int) < e := by omega
                have i3 : (a : Int) < p := by omega
                have i4 : (p : Int) < M := by omega
                have i5 : ¬ (M : Int) < e := by omega
                have i6 : ¬ (e : Int) < b := by omega
                go_wp2_with fail
                refine (CL.out ha hc _ CUR.out).mono ?_
                rintro e2 w2 ⟨rfl, ho2⟩
                have C2 := Lib.hid ho2
                clear ho2
                go_wp2_with fail
                all_goals (refine bodyPost_end (results_none rfl _ _ _) rfl ?_; exact ⟨rfl, by rw [← E.out.2.2.2]; exact C2.out⟩)
            · by_cases hd : e < b
              · obtain rfl : Y1 = X := (E.out.1 (by omega)).symm
                obtain rfl : Y2 = Y1 := (E.out.2.1 (by omega)).symm
                obtain rfl : Y3 = Y2 := (E.out.2.2.1 (by omega)).symm
                have i1 : ¬ (p : Int) < m := by omega
                have i2 : (m : Int) < e := by omega
                have i3 : ¬ (a : Int) < p := by omega
                have i4 : (p : Int) < M := by omega
                have i5 : ¬ (M : Int) < e := by omega
                have i6 : (e : Int) < b := by omega
                go_wp2_with fail
                all_goals (refine bodyPost_end (results_none rfl _ _ _) rfl ?_; exact ⟨rfl, by rw [← E.out.2.2.2]; exact CUR.out⟩)
              · obtain rfl : Y1 = X := (E.out.1 (by omega)).symm
                obtain rfl : Y2 = Y1 := (E.out.2.1 (by omega)).symm
                obtain rfl : Y3 = Y2 := (E.out.2.2.1 (by omega)).symm
                have i1 : ¬ (p : Int) < m := by omega
                have i2 : (m : Int) < e := by omega
                have i3 : ¬ (a : Int) < p := by omega
                have i4 : (p : Int) < M := by omega
                have i5 : ¬ (M : Int) < e := by omega
                have i6 : ¬ (e : Int) < b := by omega
                go_wp2_with fail
                all_goals (refine bodyPost_end (results_none rfl _ _ _) rfl ?_; exact ⟨rfl, by rw [← E.out.2.2.2]; exact CUR.out⟩)
          · by_cases ha : a < p
            · by_cases hd : e < b
              · obtain rfl : Y1 = X := (E.out.1 (by omega)).symm
                obtain rfl : Y2 = Y1 := (E.out.2.1 (by omega)).symm
                obtain rfl : Y3 = Y2 := (E.out.2.2.1 (by omega)).symm
                have i1 : ¬ (p : Int) < m := by omega
                have i2 : ¬ (m : Int) < e := by omega
                have i3 : (a : Int) < p := by omega
                have i4 : ¬ (p : Int) < M := by omega
                have i5 : ¬ (M : Int) < e := by omega
                have i6 : (e : Int) < b := by omega
                go_wp2_with fail
                all_goals (refine bodyPost_end (results_none rfl _ _ _) rfl ?_; exact ⟨rfl, by rw [← E.out.2.2.2]; exact CUR.out⟩)
              · obtain rfl : Y1 = X := (E.out.1 (by omega)).symm
                obtain rfl : Y2 = Y1 := (E.out.2.1 (by omega)).symm
                obtain rfl : Y3 = Y2 := (E.out.2.2.1 (by omega)).symm
                have i1 : ¬ (p : Int) < m := by omega
                have i2 : ¬ (m : Int) < e := by omega
                have i3 : (a : Int) < p := by omega
                have i4 : ¬ (p : Int) < M := by omega
                have i5 : ¬ (M : Int) < e := by omega
                have i6 : ¬ (e : Int) < b := by omega
                go_wp2_with fail
                all_goals (refine bodyPost_end (results_none rfl _ _ _) rfl ?_; exact ⟨rfl, by rw [← E.out.2.2.2]; exact CUR.out⟩)
            · by_cases hd : e < b
              · obtain rfl : Y1 = X := (E.out.1 (by omega)).symm
                obtain rfl : Y2 = Y1 := (E.out.2.1 (by omega)).symm
                obtain rfl : Y3 = Y2 := (E.out.2.2.1 (by omega)).symm
                have i1 : ¬ (p : Int) < m := by omega
                have i2 : ¬ (m : Int) < e := by omega
                have i3 : ¬ (a : Int) < p := by omega
                have i4 : ¬ (p : Int) < M := by omega
                have i5 : ¬ (M : Int) < e := by omega
                have i6 : (e : Int) < b := by omega
                go_wp2_with fail
                all_goals (refine bodyPost_end (results_none rfl _ _ _) rfl ?_; exact ⟨rfl, by rw [← E.out.2.2.2]; exact CUR.out⟩)
              · obtain rfl : Y1 = X := (E.out.1 (by omega)).symm
                obtain rfl : Y2 = Y1 := (E.out.2.1 (by omega)).symm
                obtain rfl : Y3 = Y2 := (E.out.2.2.1 (by omega)).symm
                have i1 : ¬ (p : Int) < m := by omega
                have i2 : ¬ (m : Int) < e := by omega
                have i3 : ¬ (a : Int) < p := by omega
                have i4 : ¬ (p : Int) < M := by omega
                have i5 : ¬ (M : Int) < e := by omega
                have i6 : ¬ (e : Int) < b := by omega
                go_wp2_with fail
                all_goals (refine bodyPost_end (results_none rfl _ _ _) rfl ?_; exact ⟨rfl, by rw [← E.out.2.2.2]; exact CUR.out⟩)
theorem merge_f : ∀ d : Nat, MergeOk d
  | 0 => fun g n cap P L R S w base hrow a m b hP hL hR h1 h2 hbd huL huR hn => absurd hbd (by omega)
  | d + 1 => fun g n cap P L R S w base hrow a m b hP hL hR h1 h2 hbd huL huR hn => by
    by_cases hl : L.length = 1
    · obtain ⟨x, rfl⟩ := List.length_eq_one_iff.1 hl
      exact merge_left g n cap P x R S w base hrow a m b hP (by simpa using hL.symm) hR huR hn
    · by_cases hr : R.length = 1
      · obtain ⟨y, rfl⟩ := List.length_eq_one_iff.1 hr
        exact merge_right g n cap P L y S w base hrow a m b hP hL (by simpa using hR.symm) hl huL hn
      · exact merge_big d (merge_f d) g n cap P L R S w base hrow a m b hP hL hR (by omega) (by omega) hbd huL huR hn
end Go.Proofs.Ytfbddldcbjhmiaa
