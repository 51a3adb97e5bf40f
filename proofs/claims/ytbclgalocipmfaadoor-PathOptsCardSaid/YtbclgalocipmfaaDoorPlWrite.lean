/-
  The document's values as text.
-/
import Derived.Test.YtbclgalocipmfaaDoorPlBase
import Derived.Test.YtbclgalocipmfaaDoorPlRight
import Derived.Test.YtbclgalocipmfaaDoorShelfI
import Derived.Lib.ItoaLen
namespace Go.Proofs.YtbclgalocipmfaaDoor
open Go.RowKit
set_option maxRecDepth 100000
set_option maxRecDepth 100000
set_option linter.unusedVariables false
/-- The powers of ten as they are laid. -/
def TabD (w : World) : Prop := Lib.TabIs Tryd.prog w "internal/strconv.uint64pow10" .u64 Lib.pow10Tab
theorem pow_named : Tryd.prog.globalNamed "internal/strconv.uint64pow10" = some 3 := by kernel_rfl
theorem TabD.size {w : World} (h : TabD w) : 3 < w.heap.size := by
  unfold TabD Lib.TabIs World.var? at h
  rw [pow_named] at h
  rcases Nat.lt_or_ge 3 w.heap.size with h' | h'
  · exact h'
  · rw [Option.bind_some, Array.getElem?_eq_none h'] at h; simp at h
theorem TabD.below {B : Nat} {a w : World} (h : TabD a) (hb : Below B a w) (hB : 3 < B) : TabD w := by
  unfold TabD Lib.TabIs World.var? at h ⊢
  rw [pow_named] at h ⊢
  rw [Option.bind_some] at h ⊢
  rw [hb.block 3 hB]
  exact h
theorem grow_below (w : World) (os : Array Obj) : Below w.heap.size w (Go.Sort.grow w os) :=
  ⟨rfl, rfl, rfl, (by show w.heap.size ≤ (w.heap ++ os).size; rw [Array.size_append]; omega), fun k hk => (by show (w.heap ++ os)[k]? = w.heap[k]?; exact Array.getElem?_append_left hk)⟩
theorem grow_drew (w : World) (k : Nat) (os : Array Obj) : Below w.heap.size w (Go.Sort.grow (w.drewN k) os) := (drewN_below w _ k).trans (grow_below (w.drewN k) os)
theorem itoa_f (n : Int) (h0 : -9223372036854775808 ≤ n) (h1 : n ≤ 9223372036854775807) (w : World) (hT : TabD w) : Calls Tryd.prog 53 #[.int .i64 n] w fun e w' => e = .returned (.string ⟨(Lib.itoa n).toArray⟩) ∧ Below w.heap.size w w' :=
  (Tryd.strconv_Itoa n h0 h1 w hT).mono fun e w' ⟨he, k, os, hw⟩ => ⟨he, by rw [hw]; exact grow_drew w k os⟩
theorem fmtInt_f (n : Int) (h0 : -9223372036854775808 ≤ n) (h1 : n ≤ 9223372036854775807) (w : World) (hT : TabD w) : Calls Tryd.prog 63 #[.int .i64 n, .int .i64 10] w fun e w' => e = .returned (.string ⟨(Lib.itoa n).toArray⟩) ∧ Below w.heap.size w w' :=
  (Tryd.strconv_FormatInt_10 n h0 h1 w hT).mono fun e w' ⟨he, k, os, hw⟩ => ⟨he, by rw [hw]; exact grow_drew w k os⟩
theorem six {W : World} {b : Nat} {v0 v1 v2 v3 v4 v5 : Value} (h : W.rangeAt b 0 [v0, v1, v2, v3, v4, v5]) : W.cell? ⟨b, 0, none⟩ = some v0 ∧ W.cell? ⟨b, 1, none⟩ = some v1 ∧ W.cell? ⟨b, 2, none⟩ = some v2 ∧ W.cell? ⟨b, 3, none⟩ = some v3 ∧ W.cell? ⟨b, 4, none⟩ = some v4 ∧ W.cell? ⟨b, 5, none⟩ = some v5 :=
  ⟨h 0 _ rfl, h 1 _ rfl, h 2 _ rfl, h 3 _ rfl, h 4 _ rfl, h 5 _ rfl⟩
theorem range_newV (w : World) (cs : Array Value) (t : TypeId) {vs : List Value} (h : cs.toList = vs) : (w.alloc (.cells cs t)).rangeAt w.heap.size 0 vs := by
  intro j v hv
  rw [Nat.zero_add, cell_of_row _ _ _ _ _ _ (heap_alloc_new w _), ← hv, ← h, Array.getElem?_toList]
/-- The text of a right value, and the error's number. -/
def textL (k n : Int) (sl l : List UInt8) (o i : Int) : List UInt8 := if k = 3 then sl else if k = 4 then b64Q l else if k = 6 then Lib.itoa o ++ 58 :: Lib.itoa i else Lib.itoa n
def txtE (k n : Int) (sl ok bl : Nat) (o i : Int) : Int := if k < 1 ∨ 6 < k then 70 else if rightB k n sl ok bl o i then 0 else 1
def RTxt (k n : Int) (s : ByteArray) (l : List UInt8) (o i : Int) (er : Int) (w : World) (e : Ending) (w' : World) : Prop :=
  ∃ t : ByteArray, e = .returned (.tuple #[.string t, .int .i64 er]) ∧ t.data.toList = (if er = 0 then textL k n s.data.toList l o i else []) ∧ Below w.heap.size w w'
/-- What each operation of the line that tells a link leaves. -/
def WtR (b : Nat) (o i : Int) (SA SB : ByteArray) (k : Nat) (w : World) (v : Value) : Prop :=
  match k with
  | 0 => v = .pointer (some ⟨b, 4, none⟩)
  | 1 => v = .int .i64 o
  | 2 => v = .string SA
  | 3 => v = .string (SA ++ (⟨#[58]⟩ : ByteArray))
  | 4 => v = .pointer (some ⟨b, 5, none⟩)
  | 5 => v = .int .i64 i
  | 6 => v = .string SB
  | 7 | 8 => v = .string (SA ++ (⟨#[58]⟩ : ByteArray) ++ SB)
  | _ => v = .int .i64 0
set_option maxHeartbeats 16000000 in
theorem rwrite13_f (k n : Int) (s : ByteArray) (bA : Option Addr) (bl bc : Nat) (o i : Int) (l : List UInt8) (w : World) (B : Nat) (hbs : Bs w B bA bl l) (hB : B ≤ w.heap.size) (hs : s.size ≤ 1000000) (hl : bl ≤ 1000000) (hT : TabD w)
    (hn0 : -9223372036854775808 ≤ n) (hn1 : n ≤ 9223372036854775807) (ho0 : -9223372036854775808 ≤ o) (ho1 : o ≤ 9223372036854775807) (hi0 : -9223372036854775808 ≤ i) (hi1 : i ≤ 9223372036854775807) :
    Calls Tryd.prog 60 #[.agg #[.int .i64 k, .int .i64 n, .string s, .slice bA bl bc, .int .i64 o, .int .i64 i]] w (RTxt k n s l o i (txtE k n s.size (okN (runesQ s.data.toList)) bl o i) w) := by
  unfold txtE
  by_cases hk : k < 1 ∨ 6 < k
  · rw [if_pos hk]
    clear hT hbs hB
    rcases hk with hk | hk
    · go_enter Tryd.func60, Tryd.ntmps60
      go_wp2
      go_ret2
      exact ⟨⟨#[]⟩, rfl, rfl, alloc_below w _⟩
    · have hk1 : ¬ k < 1 := by omega
      go_enter Tryd.func60, Tryd.ntmps60
      go_wp2
      go_ret2
      exact ⟨⟨#[]⟩, rfl, rfl, alloc_below w _⟩
  have cR := fun W => rright_f k n s bA bl bc o i W hs
  rw [if_neg hk]
  obtain ⟨R, hR⟩ : ∃ R, rightB k n s.size (okN (runesQ s.data.toList)) bl o i = R := ⟨_, rfl⟩
  rw [hR] at cR ⊢
  clear hR
  obtain ⟨er, her⟩ : ∃ er : Int, (if R = true then (0 : Int) else 1) = er := ⟨_, rfl⟩
  rw [her]
  have HE := Lib.hid her
  clear her
  have hk1 : ¬ k < 1 := by omega
  have hk2 : ¬ 6 < k := by omega
  have B0 := alloc_below w (.cells #[.int .i64 k, .int .i64 n, .string s, .slice bA bl bc, .int .i64 o, .int .i64 i] 26)
  have r0 := range_newV w #[.int .i64 k, .int .i64 n, .string s, .slice bA bl bc, .int .i64 o, .int .i64 i] 26 rfl
  have hcl : ∀ W, Below (w.heap.size + 1) (w.alloc (.cells #[.int .i64 k, .int .i64 n, .string s, .slice bA bl bc, .int .i64 o, .int .i64 i] 26)) W → W.rangeAt w.heap.size 0 [.int .i64 k, .int .i64 n, .string s, .slice bA bl bc, .int .i64 o, .int .i64 i] := fun W h => range_below r0 h (by omega)
  have hbl : ∀ W, Below (w.heap.size + 1) (w.alloc (.cells #[.int .i64 k, .int .i64 n, .string s, .slice bA bl bc, .int .i64 o, .int .i64 i] 26)) W → Below w.heap.size w W := fun W h => B0.trans (h.mono (by omega))
  have hsz : (w.alloc (.cells #[.int .i64 k, .int .i64 n, .string s, .slice bA bl bc, .int .i64 o, .int .i64 i] 26)).heap.size = w.heap.size + 1 := alloc_size _ _
  obtain ⟨W0, hW0⟩ : ∃ W0, w.alloc (.cells #[.int .i64 k, .int .i64 n, .string s, .slice bA bl bc, .int .i64 o, .int .i64 i] 26) = W0 := ⟨_, rfl⟩
  rw [hW0] at hcl hbl hsz
  have HA := Lib.hid (And.intro hW0 (And.intro hcl (And.intro hbl (And.intro hsz (And.intro hbs (And.intro hT hB))))))
  clear hW0 hcl hbl hsz r0 B0 hbs hT hB
  go_enter Tryd.func60, Tryd.ntmps60
  go_wp2_with fail
  rw [HA.out.1]
  refine (cR W0).mono ?_
  rintro e w1 ⟨rfl, b1⟩
  rw [HA.out.2.2.2.1] at b1
  have H1 := Lib.hid b1
  obtain ⟨c0, c1, c2, c3, c4, c5⟩ := six (HA.out.2.1 w1 b1)
  clear b1 cR
  cases R with
  | false =>
    go_wp2
    go_ret2
    have e1 : (1 : Int) = er := HE.out
    subst e1
    exact ⟨⟨#[]⟩, rfl, rfl, HA.out.2.2.1 w1 H1.out⟩
  | true =>
    obtain rfl : (0 : Int) = er := HE.out
    clear HE
    by_cases k3 : k = 3
    · subst k3
      go_wp2
      go_ret2
      exact ⟨s, rfl, rfl, HA.out.2.2.1 w1 H1.out⟩
    by_cases k4 : k = 4
    · subst k4
      go_wp2_with fail
      refine (rbase_f bA bl bc l w1 _ (HA.out.2.2.2.2.1.below' (HA.out.2.2.1 w1 H1.out) HA.out.2.2.2.2.2.2) (Nat.le_trans HA.out.2.2.2.2.2.2 (HA.out.2.2.1 w1 H1.out).size) hl).mono ?_
      rintro e w2 ⟨rfl, b2⟩
      have H2 := Lib.hid b2
      clear b2
      go_wp2
      go_ret2
      exact ⟨_, rfl, rfl, (HA.out.2.2.1 w1 H1.out).trans (H2.out.mono (HA.out.2.2.1 w1 H1.out).size)⟩
    by_cases k6 : k = 6
    · subst k6
      go_wp2_with fail
      have hT1 := HA.out.2.2.2.2.2.1.below (HA.out.2.2.1 w1 H1.out) HA.out.2.2.2.2.2.1.size
      have hcl : ∀ W, Below w1.heap.size w1 W → W.cell? ⟨w.heap.size, 4, none⟩ = some (.int .i64 o) ∧ W.cell? ⟨w.heap.size, 5, none⟩ = some (.int .i64 i) := fun W h => by
        have hs1 : w.heap.size + 1 ≤ w1.heap.size := by have h1 := H1.out.size; rw [HA.out.2.2.2.1] at h1; exact h1
        obtain ⟨_, _, _, _, d4, d5⟩ := six (HA.out.2.1 W (H1.out.trans (h.mono hs1)))
        exact ⟨d4, d5⟩
      obtain ⟨SA, hSA⟩ : ∃ SA : ByteArray, ⟨(Lib.itoa o).toArray⟩ = SA := ⟨_, rfl⟩
      obtain ⟨SB, hSB⟩ : ∃ SB : ByteArray, ⟨(Lib.itoa i).toArray⟩ = SB := ⟨_, rfl⟩
      have hzA : SA.size ≤ 21 := by rw [← hSA]; exact Lib.itoa_length_le o ho0 ho1
      have hzB : SB.size ≤ 21 := by rw [← hSB]; exact Lib.itoa_length_le i hi0 hi1
      have hzC : ¬ 9223372036854775807 < SA.size + 1 := by omega
      have hzD : ¬ 9223372036854775807 < SA.size + 1 + SB.size := by omega
      have cA := fun W (h : Below w1.heap.size w1 W) => itoa_f o ho0 ho1 W (hT1.below h hT1.size)
      have cB := fun W (h : Below w1.heap.size w1 W) => itoa_f i hi0 hi1 W (hT1.below h hT1.size)
      rw [hSA] at cA
      rw [hSB] at cB
      obtain ⟨b, hb⟩ : ∃ b, w.heap.size = b := ⟨_, rfl⟩
      rw [hb] at hcl ⊢
      have HS := Lib.hid (And.intro hSA (And.intro hSB hb))
      clear hT1 hSA hSB hb
      refine wp_region_rel (fun w' => Below w1.heap.size w1 w') (fun w w' => Below w.heap.size w w') (WtR b o i SA SB) [(1, .pointer (some ⟨b, 0, none⟩))] (by kernel_rfl) (by kernel_rfl) (by kernel_rfl) ?base (Below.drew (Below.refl _ _)) (fun i w w' v _ h => h) ?steps ?fin
      case base =>
        intro x hx
        simp only [List.mem_cons, List.not_mem_nil, or_false] at hx
        subst hx
        exact ⟨rfl, rfl⟩
      case steps =>
        refine steps_cons ?_ (steps_cons ?_ (steps_cons ?_ (steps_cons ?_ (steps_cons ?_ (steps_cons ?_ (steps_cons ?_ (steps_cons ?_ (steps_cons ?_ (steps_cons ?_ steps_nil)))))))))
        · intro a w K hS hB hR hK
          rw [if_pos (wanted_none rfl)]
          have h1 := tmp_is (hB.1)
          go_simp
          exact hK (.pointer (some ⟨b, 4, none⟩)) w hS (Below.refl _ w) rfl
        · intro a w K hS hB hR hK
          rw [if_pos (wanted_none rfl)]
          have h28 := tmp_is (hR.1)
          obtain ⟨c4, _⟩ := hcl w hS
          go_simp
          exact hK (.int .i64 o) w hS (Below.refl _ w) rfl
        · intro a w K hS hB hR hK
          rw [if_pos (wanted_none rfl)]
          have h29 := tmp_is (hR.1)
          go_simp
          refine (cA w hS).mono ?_
          rintro e w' ⟨rfl, hb⟩
          exact hK _ _ (hS.trans (hb.mono hS.size)) hb rfl
        · intro a w K hS hB hR hK
          rw [if_pos (wanted_none rfl)]
          have h30 := tmp_is (hR.1)
          go_simp
          exact hK (.string (SA ++ (⟨#[58]⟩ : ByteArray))) w hS (Below.refl _ w) rfl
        · intro a w K hS hB hR hK
          rw [if_pos (wanted_none rfl)]
          have h1 := tmp_is (hB.1)
          go_simp
          exact hK (.pointer (some ⟨b, 5, none⟩)) w hS (Below.refl _ w) rfl
        · intro a w K hS hB hR hK
          rw [if_pos (wanted_none rfl)]
          have h32 := tmp_is (hR.1)
          obtain ⟨_, c5⟩ := hcl w hS
          go_simp
          exact hK (.int .i64 i) w hS (Below.refl _ w) rfl
        · intro a w K hS hB hR hK
          rw [if_pos (wanted_none rfl)]
          have h33 := tmp_is (hR.1)
          go_simp
          refine (cB w hS).mono ?_
          rintro e w' ⟨rfl, hb⟩
          exact hK _ _ (hS.trans (hb.mono hS.size)) hb rfl
        · intro a w K hS hB hR hK
          rw [if_pos (wanted_none rfl)]
          have h31 := tmp_is (hR.1)
          have h34 := tmp_is (hR.2.1)
          go_simp
          exact hK (.string (SA ++ (⟨#[58]⟩ : ByteArray) ++ SB)) w hS (Below.refl _ w) rfl
        · intro a w K hS hB hR hK
          rw [if_pos (wanted_none rfl)]
          have h35 := tmp_is (hR.1)
          go_simp
          exact hK (.string (SA ++ (⟨#[58]⟩ : ByteArray) ++ SB)) w hS (Below.refl _ w) rfl
        · intro a w K hS hB hR hK
          rw [if_pos (wanted_none rfl)]
          go_simp
          exact hK (.int .i64 0) w hS (Below.refl _ w) rfl
      case fin =>
        intro a w8 hS8 ha hR
        have hx8 : a.eval (.tmp 2) = .string (SA ++ (⟨#[58]⟩ : ByteArray) ++ SB) := deps_mem _ hR 8 (by decide)
        have hx9 : a.eval (.tmp 3) = .int .i64 0 := deps_mem _ hR 9 (by decide)
        have H8 := Lib.hid hS8
        clear hR hS8 cA cB hcl
        simp only [pin] at ha
        rw [ha]
        simp only [List.setIfInBounds_toArray, List.set_cons_zero, List.set_cons_succ, hx8, hx9]
        clear ha hx8 hx9
        go_wp2
        go_ret2
        refine ⟨_, rfl, ?_, (HA.out.2.2.1 w1 H1.out).trans (H8.out.mono (HA.out.2.2.1 w1 H1.out).size)⟩
        rw [if_pos rfl]
        unfold textL
        rw [if_neg (by decide), if_neg (by decide), if_pos rfl, ← HS.out.1, ← HS.out.2.1]
        simp [ByteArray.data_append]
    · have q3 : (k == 3) = false := beq_eq_false_iff_ne.2 k3
      have q4 : (k == 4) = false := beq_eq_false_iff_ne.2 k4
      have q6 : (k == 6) = false := beq_eq_false_iff_ne.2 k6
      have hT1 := HA.out.2.2.2.2.2.1.below (HA.out.2.2.1 w1 H1.out) HA.out.2.2.2.2.2.1.size
      have HF := Lib.hid (fmtInt_f n hn0 hn1 w1 hT1)
      clear hT1
      go_wp2_with fail
      refine HF.out.mono ?_
      rintro e w2 ⟨rfl, b2⟩
      have H2 := Lib.hid b2
      clear b2
      go_wp2
      go_ret2
      exact ⟨_, rfl, (by rw [if_pos rfl]; unfold textL; rw [if_neg k3, if_neg k4, if_neg k6]), (HA.out.2.2.1 w1 H1.out).trans (H2.out.mono (HA.out.2.2.1 w1 H1.out).size)⟩
end Go.Proofs.YtbclgalocipmfaaDoor
