/-
  The program's values as text.
-/
import Derived.Test.YtbclgalocipmfaaDoorPlWrite
import Derived.Test.YtbclgalocipmfaaDoorPlB64
import Derived.Test.YtbclgalocipmfaaDoorVaOf
namespace Go.Proofs.YtbclgalocipmfaaDoor
open Go.RowKit
set_option maxRecDepth 100000
set_option maxRecDepth 100000
set_option linter.unusedVariables false
set_option maxHeartbeats 16000000 in
theorem write13_f (k n : Int) (s : ByteArray) (bA : Option Addr) (bl bc : Nat) (o i : Int) (l : List UInt8) (w : World) (B : Nat) (hbs : Bs w B bA bl l) (hB : B ≤ w.heap.size) (hs : s.size ≤ 1000000) (hl : bl ≤ 100000) (hc : bl ≤ bc) (hT : TabD w) (hU : Tabs w)
    (hn0 : -9223372036854775808 ≤ n) (hn1 : n ≤ 9223372036854775807) (ho0 : -9223372036854775808 ≤ o) (ho1 : o ≤ 9223372036854775807) (hi0 : -9223372036854775808 ≤ i) (hi1 : i ≤ 9223372036854775807) :
    Calls Tryd.prog 34 #[.agg #[.int .i64 k, .int .i64 n, .string s, .slice bA bl bc, .int .i64 o, .int .i64 i]] w (RTxt k n s l o i (txtE k n s.size (okN (runesQ s.data.toList)) bl o i) w) := by
  unfold txtE
  by_cases hk : k < 1 ∨ 6 < k
  · rw [if_pos hk]
    clear hT hbs hB
    rcases hk with hk | hk
    · go_enter Tryd.func34, Tryd.ntmps34
      go_wp2
      go_ret2
      exact ⟨⟨#[]⟩, rfl, rfl, alloc_below w _⟩
    · have hk1 : ¬ k < 1 := by omega
      go_enter Tryd.func34, Tryd.ntmps34
      go_wp2
      go_ret2
      exact ⟨⟨#[]⟩, rfl, rfl, alloc_below w _⟩
  have cR := fun W hW => right_f k n s bA bl bc o i W hs hW
  rw [if_neg hk]
  obtain ⟨R, hR⟩ : ∃ R, rightB k n s.size (okN (runesQ s.data.toList)) bl o i = R := ⟨_, rfl⟩
  rw [hR] at cR ⊢
  clear hR
  obtain ⟨er, her⟩ : ∃ er : Int, (if R = true then (0 : Int) else 1) = er := ⟨_, rfl⟩
  rw [her]
  have HE := Lib.hid her
  clear her
  have hk1 : ¬ k < 1 := by omega
  have hk2 : ¬ 6 < k := by omega
  have B0 := alloc_below w (.cells #[.int .i64 k, .int .i64 n, .string s, .slice bA bl bc, .int .i64 o, .int .i64 i] 26)
  have r0 := range_newV w #[.int .i64 k, .int .i64 n, .string s, .slice bA bl bc, .int .i64 o, .int .i64 i] 26 rfl
  have hcl : ∀ W, Below (w.heap.size + 1) (w.alloc (.cells #[.int .i64 k, .int .i64 n, .string s, .slice bA bl bc, .int .i64 o, .int .i64 i] 26)) W → W.rangeAt w.heap.size 0 [.int .i64 k, .int .i64 n, .string s, .slice bA bl bc, .int .i64 o, .int .i64 i] := fun W h => range_below r0 h (by omega)
  have hbl : ∀ W, Below (w.heap.size + 1) (w.alloc (.cells #[.int .i64 k, .int .i64 n, .string s, .slice bA bl bc, .int .i64 o, .int .i64 i] 26)) W → Below w.heap.size w W := fun W h => B0.trans (h.mono (by omega))
  have hsz : (w.alloc (.cells #[.int .i64 k, .int .i64 n, .string s, .slice bA bl bc, .int .i64 o, .int .i64 i] 26)).heap.size = w.heap.size + 1 := alloc_size _ _
  obtain ⟨W0, hW0⟩ : ∃ W0, w.alloc (.cells #[.int .i64 k, .int .i64 n, .string s, .slice bA bl bc, .int .i64 o, .int .i64 i] 26) = W0 := ⟨_, rfl⟩
  rw [hW0] at hcl hbl hsz
  have HA := Lib.hid (And.intro hW0 (And.intro hcl (And.intro hbl (And.intro hsz (And.intro hbs (And.intro hT (And.intro hB hU)))))))
  clear hW0 hcl hbl hsz r0 B0 hbs hT hB hU
  go_enter Tryd.func34, Tryd.ntmps34
  go_wp2_with fail
  rw [HA.out.1]
  refine (cR W0 (HA.out.2.2.2.2.2.2.2.below (HA.out.2.2.1 W0 (Below.refl _ _)) HA.out.2.2.2.2.2.2.2.size)).mono ?_
  rintro e w1 ⟨rfl, b1⟩
  rw [HA.out.2.2.2.1] at b1
  have H1 := Lib.hid b1
  obtain ⟨c0, c1, c2, c3, c4, c5⟩ := six (HA.out.2.1 w1 b1)
  clear b1 cR
  cases R with
  | false =>
    go_wp2
    go_ret2
    have e1 : (1 : Int) = er := HE.out
    subst e1
    exact ⟨⟨#[]⟩, rfl, rfl, HA.out.2.2.1 w1 H1.out⟩
  | true =>
    obtain rfl : (0 : Int) = er := HE.out
    clear HE
    by_cases k3 : k = 3
    · subst k3
      go_wp2_with fail
      refine (sclone_f s w1 hs).mono ?_
      rintro e w2 ⟨rfl, b2⟩
      have H2 := Lib.hid b2
      clear b2
      go_wp2
      go_ret2
      exact ⟨s, rfl, rfl, (HA.out.2.2.1 w1 H1.out).trans (H2.out.mono (HA.out.2.2.1 w1 H1.out).size)⟩
    by_cases k4 : k = 4
    · subst k4
      go_wp2_with fail
      refine (base64_f bA bl bc l w1 _ (HA.out.2.2.2.2.1.below' (HA.out.2.2.1 w1 H1.out) HA.out.2.2.2.2.2.2.1) (Nat.le_trans HA.out.2.2.2.2.2.2.1 (HA.out.2.2.1 w1 H1.out).size) hl hc).mono ?_
      rintro e w2 ⟨rfl, b2⟩
      have H2 := Lib.hid b2
      clear b2
      go_wp2
      go_ret2
      exact ⟨_, rfl, rfl, (HA.out.2.2.1 w1 H1.out).trans (H2.out.mono (HA.out.2.2.1 w1 H1.out).size)⟩
    by_cases k6 : k = 6
    · subst k6
      go_wp2_with fail
      have hT1 := HA.out.2.2.2.2.2.1.below (HA.out.2.2.1 w1 H1.out) HA.out.2.2.2.2.2.1.size
      have hcl : ∀ W, Below w1.heap.size w1 W → W.cell? ⟨w.heap.size, 4, none⟩ = some (.int .i64 o) ∧ W.cell? ⟨w.heap.size, 5, none⟩ = some (.int .i64 i) := fun W h => by
        have hs1 : w.heap.size + 1 ≤ w1.heap.size := by have h1 := H1.out.size; rw [HA.out.2.2.2.1] at h1; exact h1
        obtain ⟨_, _, _, _, d4, d5⟩ := six (HA.out.2.1 W (H1.out.trans (h.mono hs1)))
        exact ⟨d4, d5⟩
      obtain ⟨SA, hSA⟩ : ∃ SA : ByteArray, ⟨(Lib.itoa o).toArray⟩ = SA := ⟨_, rfl⟩
      obtain ⟨SB, hSB⟩ : ∃ SB : ByteArray, ⟨(Lib.itoa i).toArray⟩ = SB := ⟨_, rfl⟩
      have hzA : SA.size ≤ 21 := by rw [← hSA]; exact Lib.itoa_length_le o ho0 ho1
      have hzB : SB.size ≤ 21 := by rw [← hSB]; exact Lib.itoa_length_le i hi0 hi1
      have hzC : ¬ 9223372036854775807 < SA.size + 1 := by omega
      have hzD : ¬ 9223372036854775807 < SA.size + 1 + SB.size := by omega
      have cA := fun W (h : Below w1.heap.size w1 W) => itoa_f o ho0 ho1 W (hT1.below h hT1.size)
      have cB := fun W (h : Below w1.heap.size w1 W) => itoa_f i hi0 hi1 W (hT1.below h hT1.size)
      rw [hSA] at cA
      rw [hSB] at cB
      obtain ⟨b, hb⟩ : ∃ b, w.heap.size = b := ⟨_, rfl⟩
      rw [hb] at hcl ⊢
      have HS := Lib.hid (And.intro hSA (And.intro hSB hb))
      clear hT1 hSA hSB hb
      refine wp_region_rel (fun w' => Below w1.heap.size w1 w') (fun w w' => Below w.heap.size w w') (WtR b o i SA SB) [(1, .pointer (some ⟨b, 0, none⟩))] (by kernel_rfl) (by kernel_rfl) (by kernel_rfl) ?base (Below.drew (Below.refl _ _)) (fun i w w' v _ h => h) ?steps ?fin
      case base =>
        intro x hx
        simp only [List.mem_cons, List.not_mem_nil, or_false] at hx
        subst hx
        exact ⟨rfl, rfl⟩
      case steps =>
        refine steps_cons ?_ (steps_cons ?_ (steps_cons ?_ (steps_cons ?_ (steps_cons ?_ (steps_cons ?_ (steps_cons ?_ (steps_cons ?_ (steps_cons ?_ (steps_cons ?_ steps_nil)))))))))
        · intro a w K hS hB hR hK
          rw [if_pos (wanted_none rfl)]
          have h1 := tmp_is (hB.1)
          go_simp
          exact hK (.pointer (some ⟨b, 4, none⟩)) w hS (Below.refl _ w) rfl
        · intro a w K hS hB hR hK
          rw [if_pos (wanted_none rfl)]
          have h31 := tmp_is (hR.1)
          obtain ⟨c4, _⟩ := hcl w hS
          go_simp
          exact hK (.int .i64 o) w hS (Below.refl _ w) rfl
        · intro a w K hS hB hR hK
          rw [if_pos (wanted_none rfl)]
          have h32 := tmp_is (hR.1)
          go_simp
          refine (cA w hS).mono ?_
          rintro e w' ⟨rfl, hb⟩
          exact hK _ _ (hS.trans (hb.mono hS.size)) hb rfl
        · intro a w K hS hB hR hK
          rw [if_pos (wanted_none rfl)]
          have h33 := tmp_is (hR.1)
          go_simp
          exact hK (.string (SA ++ (⟨#[58]⟩ : ByteArray))) w hS (Below.refl _ w) rfl
        · intro a w K hS hB hR hK
          rw [if_pos (wanted_none rfl)]
          have h1 := tmp_is (hB.1)
          go_simp
          exact hK (.pointer (some ⟨b, 5, none⟩)) w hS (Below.refl _ w) rfl
        · intro a w K hS hB hR hK
          rw [if_pos (wanted_none rfl)]
          have h35 := tmp_is (hR.1)
          obtain ⟨_, c5⟩ := hcl w hS
          go_simp
          exact hK (.int .i64 i) w hS (Below.refl _ w) rfl
        · intro a w K hS hB hR hK
          rw [if_pos (wanted_none rfl)]
          have h36 := tmp_is (hR.1)
          go_simp
          refine (cB w hS).mono ?_
          rintro e w' ⟨rfl, hb⟩
          exact hK _ _ (hS.trans (hb.mono hS.size)) hb rfl
        · intro a w K hS hB hR hK
          rw [if_pos (wanted_none rfl)]
          have h34 := tmp_is (hR.1)
          have h37 := tmp_is (hR.2.1)
          go_simp
          exact hK (.string (SA ++ (⟨#[58]⟩ : ByteArray) ++ SB)) w hS (Below.refl _ w) rfl
        · intro a w K hS hB hR hK
          rw [if_pos (wanted_none rfl)]
          have h38 := tmp_is (hR.1)
          go_simp
          exact hK (.string (SA ++ (⟨#[58]⟩ : ByteArray) ++ SB)) w hS (Below.refl _ w) rfl
        · intro a w K hS hB hR hK
          rw [if_pos (wanted_none rfl)]
          go_simp
          exact hK (.int .i64 0) w hS (Below.refl _ w) rfl
      case fin =>
        intro a w8 hS8 ha hR
        have hx8 : a.eval (.tmp 2) = .string (SA ++ (⟨#[58]⟩ : ByteArray) ++ SB) := deps_mem _ hR 8 (by decide)
        have hx9 : a.eval (.tmp 3) = .int .i64 0 := deps_mem _ hR 9 (by decide)
        have H8 := Lib.hid hS8
        clear hR hS8 cA cB hcl
        simp only [pin] at ha
        rw [ha]
        simp only [List.setIfInBounds_toArray, List.set_cons_zero, List.set_cons_succ, hx8, hx9]
        clear ha hx8 hx9
        go_wp2
        go_ret2
        refine ⟨_, rfl, ?_, (HA.out.2.2.1 w1 H1.out).trans (H8.out.mono (HA.out.2.2.1 w1 H1.out).size)⟩
        rw [if_pos rfl]
        unfold textL
        rw [if_neg (by decide), if_neg (by decide), if_pos rfl, ← HS.out.1, ← HS.out.2.1]
        simp [ByteArray.data_append]
    · have q3 : (k == 3) = false := beq_eq_false_iff_ne.2 k3
      have q4 : (k == 4) = false := beq_eq_false_iff_ne.2 k4
      have q6 : (k == 6) = false := beq_eq_false_iff_ne.2 k6
      have hT1 := HA.out.2.2.2.2.2.1.below (HA.out.2.2.1 w1 H1.out) HA.out.2.2.2.2.2.1.size
      have HF := Lib.hid (fmtInt_f n hn0 hn1 w1 hT1)
      clear hT1
      go_wp2_with fail
      refine HF.out.mono ?_
      rintro e w2 ⟨rfl, b2⟩
      have H2 := Lib.hid b2
      clear b2
      go_wp2
      go_ret2
      exact ⟨_, rfl, (by rw [if_pos rfl]; unfold textL; rw [if_neg k3, if_neg k4, if_neg k6]), (HA.out.2.2.1 w1 H1.out).trans (H2.out.mono (HA.out.2.2.1 w1 H1.out).size)⟩
end Go.Proofs.YtbclgalocipmfaaDoor
