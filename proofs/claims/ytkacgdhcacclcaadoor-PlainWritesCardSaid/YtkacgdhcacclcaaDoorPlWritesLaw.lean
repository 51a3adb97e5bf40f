/-
  The law PlainWrites.
-/
import Derived.Test.YtkacgdhcacclcaaDoorPlAlive
namespace Go.Proofs.YtkacgdhcacclcaaDoor
open Go.RowKit
set_option maxRecDepth 100000
set_option linter.unusedVariables false
/-- What each operation of the last line leaves. -/
def PwR (b : Nat) (k n : Int) (s : ByteArray) (o i : Int) (A : Option Addr) (m c : Nat) (R : Bool) (t : ByteArray) (er : Int) (j : Nat) (w : World) (v : Value) : Prop :=
  match j with
  | 0 | 2 => v = .agg #[.int .i64 k, .int .i64 n, .string s, .slice A m c, .int .i64 o, .int .i64 i]
  | 1 | 3 => v = .bool R
  | 6 | 7 => v = .string t
  | 11 | 12 => v = .int .i64 er
  | _ => v = .bool true
set_option maxHeartbeats 8000000 in
theorem pwrites_law (k n : Int) (s : ByteArray) (A : Option Addr) (m c : Nat) (o i : Int) (l : List UInt8) (w : World) (hn : -9223372036854775808 ≤ n ∧ n ≤ 9223372036854775807) (ho : -9223372036854775808 ≤ o ∧ o ≤ 9223372036854775807) (hi : -9223372036854775808 ≤ i ∧ i ≤ 9223372036854775807) (hbs : Bs w w.heap.size A m l) (hc : m ≤ c) (hT : Tab7 w) :
    Calls Tryd.prog 3 #[.agg #[.int .i64 k, .int .i64 n, .string s, .slice A m c, .int .i64 o, .int .i64 i]] w fun e w' => e = .returned (.bool true) ∧ Below w.heap.size w w' := by
  have hb0 := alloc_below w (.cells #[.int .i64 k, .int .i64 n, .string s, .slice A m c, .int .i64 o, .int .i64 i] 24)
  have hr0 := range_newV w #[.int .i64 k, .int .i64 n, .string s, .slice A m c, .int .i64 o, .int .i64 i] 24 rfl
  have hz0 : w.heap.size < (w.alloc (.cells #[.int .i64 k, .int .i64 n, .string s, .slice A m c, .int .i64 o, .int .i64 i] 24)).heap.size := by rw [alloc_size]; exact Nat.lt_succ_self _
  obtain ⟨W0, hW0⟩ : ∃ W0, w.alloc (.cells #[.int .i64 k, .int .i64 n, .string s, .slice A m c, .int .i64 o, .int .i64 i] 24) = W0 := ⟨_, rfl⟩
  rw [hW0] at hb0 hr0 hz0
  have cA := fun W (hW : Below w.heap.size w W) => palive_f W (hT.below hW)
  have hcl : ∀ W, Below W0.heap.size W0 W → W.rangeAt w.heap.size 0 [.int .i64 k, .int .i64 n, .string s, .slice A m c, .int .i64 o, .int .i64 i] := fun W hW => range_below hr0 hW hz0
  have hup : ∀ W, Below W0.heap.size W0 W → Below w.heap.size w W := fun W hW => hb0.trans (hW.mono (Nat.le_of_lt hz0))
  have HC := Lib.hid (And.intro hcl (And.intro hup (And.intro hbs (And.intro hT (And.intro hc hz0)))))
  have H0 := Lib.hid hb0
  have HN := Lib.hid (And.intro hn (And.intro ho hi))
  have HW := Lib.hid hW0
  clear hb0 hr0 hz0 hW0 hcl hup hbs hT hc hn ho hi
  have HA := Lib.hid cA
  clear cA
  by_cases hs1 : 1000 < s.size
  · have hI : (1000 : Int) < s.size := by omega
    go_enter Tryd.func3, Tryd.ntmps3
    go_wp2_with fail
    rw [HW.out]
    refine (HA.out _ H0.out).mono ?_
    rintro e w1 ⟨rfl, b1⟩
    obtain ⟨p0, p1, p2, p3, p4, p5⟩ := six (HC.out.1 w1 b1)
    have H1 := Lib.hid (HC.out.2.1 w1 b1)
    clear b1
    go_wp2
    go_ret
    exact ⟨rfl, H1.out⟩
  have hsI : ¬ (1000 : Int) < s.size := by omega
  by_cases hm1 : 1000 < m
  · have hI : (1000 : Int) < m := by omega
    go_enter Tryd.func3, Tryd.ntmps3
    go_wp2_with fail
    rw [HW.out]
    refine (HA.out _ H0.out).mono ?_
    rintro e w1 ⟨rfl, b1⟩
    obtain ⟨p0, p1, p2, p3, p4, p5⟩ := six (HC.out.1 w1 b1)
    have H1 := Lib.hid (HC.out.2.1 w1 b1)
    clear b1
    go_wp2
    go_ret
    exact ⟨rfl, H1.out⟩
  have hmI : ¬ (1000 : Int) < m := by omega
  have cP := fun W (hW : Below w.heap.size w W) => write13_f k n s A m c o i l W _ (HC.out.2.2.1.below hW) hW.size (by omega) (by omega) HC.out.2.2.2.2.1 (HC.out.2.2.2.1.below hW).d (HC.out.2.2.2.1.below hW).u HN.out.1.1 HN.out.1.2 HN.out.2.1.1 HN.out.2.1.2 HN.out.2.2.1 HN.out.2.2.2
  have cR := fun W (hW : Below w.heap.size w W) => rwrite13_f k n s A m c o i l W _ (HC.out.2.2.1.below hW) hW.size (by omega) (by omega) (HC.out.2.2.2.1.below hW).d HN.out.1.1 HN.out.1.2 HN.out.2.1.1 HN.out.2.1.2 HN.out.2.2.1 HN.out.2.2.2
  have cG := fun W (hW : Below w.heap.size w W) => right_f k n s A m c o i W (by omega) (HC.out.2.2.2.1.below hW).u
  have cH := fun W => rright_f k n s A m c o i W (by omega)
  obtain ⟨er, her⟩ : ∃ er, txtE k n s.size (okN (runesQ s.data.toList)) m o i = er := ⟨_, rfl⟩
  rw [her] at cP cR
  obtain ⟨R, hR⟩ : ∃ R, rightB k n s.size (okN (runesQ s.data.toList)) m o i = R := ⟨_, rfl⟩
  rw [hR] at cG cH
  have HP := Lib.hid (And.intro cP (And.intro cR (And.intro cG cH)))
  clear cP cR cG cH her hR hs1 hm1
  go_enter Tryd.func3, Tryd.ntmps3
  go_wp2_with fail
  rw [HW.out]
  refine (HA.out _ H0.out).mono ?_
  rintro e w1 ⟨rfl, b1⟩
  obtain ⟨p0, p1, p2, p3, p4, p5⟩ := six (HC.out.1 w1 b1)
  have H1 := Lib.hid b1
  clear b1
  go_wp2_with fail
  refine (HP.out.1 w1 (HC.out.2.1 w1 H1.out)).mono ?_
  rintro e w2 ⟨t1, rfl, ht1, b2⟩
  have H2 := Lib.hid (And.intro (H1.out.trans (b2.mono H1.out.size)) ht1)
  clear b2 ht1 p0 p1 p2 p3 p4 p5
  obtain ⟨p0, p1, p2, p3, p4, p5⟩ := six (HC.out.1 w2 H2.out.1)
  try dsimp only
  go_wp2_with fail
  refine (HP.out.2.1 w2 (HC.out.2.1 w2 H2.out.1)).mono ?_
  rintro e w3 ⟨t2, rfl, ht2, b3⟩
  obtain rfl : t2 = t1 := by
    have h : t2.data.toList = t1.data.toList := by rw [ht2, H2.out.2]
    have h2 := Array.toList_inj.1 h
    cases t1; cases t2; exact congrArg ByteArray.mk h2
  have H3 := Lib.hid (H2.out.1.trans (b3.mono H2.out.1.size))
  clear b3 ht2 p0 p1 p2 p3 p4 p5
  obtain ⟨p0, p1, p2, p3, p4, p5⟩ := six (HC.out.1 w3 H3.out)
  have hee : (er == er) = true := beq_self_eq_true _
  have htt : (t2.toList == t2.toList) = true := beq_self_eq_true _
  have hRR : (R == R) = true := beq_self_eq_true _
  try dsimp only
  go_wp2_with fail
  have hcl : ∀ W, Below w3.heap.size w3 W → W.cell? ⟨w.heap.size, 0, none⟩ = some (.int .i64 k) ∧ W.cell? ⟨w.heap.size, 1, none⟩ = some (.int .i64 n) ∧ W.cell? ⟨w.heap.size, 2, none⟩ = some (.string s) ∧ W.cell? ⟨w.heap.size, 3, none⟩ = some (.slice A m c) ∧ W.cell? ⟨w.heap.size, 4, none⟩ = some (.int .i64 o) ∧ W.cell? ⟨w.heap.size, 5, none⟩ = some (.int .i64 i) := fun W h => six (HC.out.1 W (H3.out.trans (h.mono H3.out.size)))
  have hc2 : ∀ W, Below w3.heap.size w3 W → Below w.heap.size w W := fun W h => HC.out.2.1 W (H3.out.trans (h.mono H3.out.size))
  have cG := fun W (h : Below w3.heap.size w3 W) => HP.out.2.2.1 W (hc2 W h)
  have cH := HP.out.2.2.2
  obtain ⟨b, hb⟩ : ∃ b, w.heap.size = b := ⟨_, rfl⟩
  rw [hb] at hcl ⊢
  have HC2 := Lib.hid hc2
  clear hb p0 p1 p2 p3 p4 p5 hc2
  refine wp_region_rel (fun w' => Below w3.heap.size w3 w') (fun w w' => Below w.heap.size w w') (PwR b k n s o i A m c R t2 er) [(1, .pointer (some ⟨b, 0, none⟩)), (3, .string t2), (5, .string t2), (4, .int .i64 er), (6, .int .i64 er)] (by kernel_rfl) (by kernel_rfl) (by kernel_rfl) ?base (Below.drew (Below.refl _ _)) (fun i w w' v hb h => h) ?steps ?fin
  case base =>
    intro x hx
    simp only [List.mem_cons, List.not_mem_nil, or_false] at hx
    rcases hx with rfl | rfl | rfl | rfl | rfl <;> exact ⟨rfl, rfl⟩
  case steps =>
    refine steps_cons ?_ (steps_cons ?_ (steps_cons ?_ (steps_cons ?_ (steps_cons ?_ (steps_cons ?_ (steps_cons ?_ (steps_cons ?_ (steps_cons ?_ (steps_cons ?_ (steps_cons ?_ (steps_cons ?_ (steps_cons ?_ (steps_cons ?_ (steps_cons ?_ (steps_cons ?_ steps_nil)))))))))))))))
    · intro a w K hS hB hR hK
      rw [if_pos (wanted_none rfl)]
      have h1 := tmp_is (hB.1)
      obtain ⟨p0, p1, p2, p3, p4, p5⟩ := hcl w hS
      go_simp
      exact hK (.agg #[.int .i64 k, .int .i64 n, .string s, .slice A m c, .int .i64 o, .int .i64 i]) w hS (Below.refl _ w) rfl
    · intro a w K hS hB hR hK
      rw [if_pos (wanted_none rfl)]
      have h29 := tmp_is (hR.1)
      go_simp
      refine (cG w hS).mono ?_
      rintro e w' ⟨rfl, hb⟩
      exact hK _ _ (hS.trans (hb.mono hS.size)) hb rfl
    · intro a w K hS hB hR hK
      rw [if_pos (wanted_none rfl)]
      have h1 := tmp_is (hB.1)
      obtain ⟨p0, p1, p2, p3, p4, p5⟩ := hcl w hS
      go_simp
      exact hK (.agg #[.int .i64 k, .int .i64 n, .string s, .slice A m c, .int .i64 o, .int .i64 i]) w hS (Below.refl _ w) rfl
    · intro a w K hS hB hR hK
      rw [if_pos (wanted_none rfl)]
      have h31 := tmp_is (hR.1)
      go_simp
      refine (cH w).mono ?_
      rintro e w' ⟨rfl, hb⟩
      exact hK _ _ (hS.trans (hb.mono hS.size)) hb rfl
    · intro a w K hS hB hR hK
      rw [if_pos (wanted_none rfl)]
      have h30 := tmp_is (hR.1)
      have h32 := tmp_is (hR.2.1)
      go_simp
      exact hK (.bool true) w hS (Below.refl _ w) rfl
    · intro a w K hS hB hR hK
      rw [if_pos (wanted_none rfl)]
      have h33 := tmp_is (hR.1)
      go_simp
      exact hK (.bool true) w hS (Below.refl _ w) rfl
    · intro a w K hS hB hR hK
      rw [if_pos (wanted_some rfl (hR.1))]
      have h3 := tmp_is (hB.2.1)
      go_simp
      exact hK (.string t2) w hS (Below.refl _ w) rfl
    · intro a w K hS hB hR hK
      rw [if_pos (wanted_some rfl (hR.1))]
      have h5 := tmp_is (hB.2.2.1)
      go_simp
      exact hK (.string t2) w hS (Below.refl _ w) rfl
    · intro a w K hS hB hR hK
      rw [if_pos (wanted_some rfl (hR.2.2.1))]
      have h35 := tmp_is (hR.1)
      have h36 := tmp_is (hR.2.1)
      go_simp
      exact hK (.bool true) w hS (Below.refl _ w) rfl
    · intro a w K hS hB hR hK
      rw [if_pos (wanted_none rfl)]
      have h34 := tmp_is (hR.1)
      have h37 := tmp_is (hR.2.1)
      go_simp
      exact hK (.bool true) w hS (Below.refl _ w) rfl
    · intro a w K hS hB hR hK
      rw [if_pos (wanted_none rfl)]
      have h38 := tmp_is (hR.1)
      go_simp
      exact hK (.bool true) w hS (Below.refl _ w) rfl
    · intro a w K hS hB hR hK
      rw [if_pos (wanted_some rfl (hR.1))]
      have h4 := tmp_is (hB.2.2.2.1)
      go_simp
      exact hK (.int .i64 er) w hS (Below.refl _ w) rfl
    · intro a w K hS hB hR hK
      rw [if_pos (wanted_some rfl (hR.1))]
      have h6 := tmp_is (hB.2.2.2.2.1)
      go_simp
      exact hK (.int .i64 er) w hS (Below.refl _ w) rfl
    · intro a w K hS hB hR hK
      rw [if_pos (wanted_some rfl (hR.2.2.1))]
      have h40 := tmp_is (hR.1)
      have h41 := tmp_is (hR.2.1)
      go_simp
      exact hK (.bool true) w hS (Below.refl _ w) rfl
    · intro a w K hS hB hR hK
      rw [if_pos (wanted_none rfl)]
      have h39 := tmp_is (hR.1)
      have h42 := tmp_is (hR.2.1)
      go_simp
      exact hK (.bool true) w hS (Below.refl _ w) rfl
    · intro a w K hS hB hR hK
      rw [if_pos (wanted_none rfl)]
      have h43 := tmp_is (hR.1)
      go_simp
      exact hK (.bool true) w hS (Below.refl _ w) rfl
  case fin =>
    intro a w8 hS8 ha hR
    have hx15 : a.eval (.tmp 2) = .bool true := deps_mem _ hR 15 (by decide)
    have H8 := Lib.hid (HC2.out w8 hS8)
    clear hR hS8 cG cH hcl
    simp only [pin] at ha
    rw [ha]
    simp only [List.setIfInBounds_toArray, List.set_cons_zero, List.set_cons_succ, hx15]
    clear ha hx15
    go_wp2
    go_ret
    exact ⟨rfl, H8.out⟩
end Go.Proofs.YtkacgdhcacclcaaDoor
