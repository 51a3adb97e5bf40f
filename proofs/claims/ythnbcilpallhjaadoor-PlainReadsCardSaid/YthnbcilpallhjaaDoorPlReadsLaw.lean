/-
  The law PlainReads.
-/
import Derived.Test.YthnbcilpallhjaaDoorPlAlive
import Derived.Test.YthnbcilpallhjaaDoorPlRRead
import Derived.Test.YthnbcilpallhjaaDoorVaSame13
namespace Go.Proofs.YthnbcilpallhjaaDoor
open Go.RowKit
set_option maxRecDepth 100000
set_option linter.unusedVariables false
def kinds7 (kd : Int) : List Int := [kd, 1, 2, 3, 4, 5, 6]
theorem kinds_at (kd : Int) (w : World) : ∀ k, k < 7 → ∃ x, (kinds7 kd)[k]? = some x ∧ (w.alloc (.cells #[.int .i64 kd, .int .i64 1, .int .i64 2, .int .i64 3, .int .i64 4, .int .i64 5, .int .i64 6] 3)).cell? ⟨w.heap.size, k, none⟩ = some (.int .i64 x) := by
  intro k hk
  have hr := range_newV w #[.int .i64 kd, .int .i64 1, .int .i64 2, .int .i64 3, .int .i64 4, .int .i64 5, .int .i64 6] 3 rfl
  have hl : k < (kinds7 kd).length := hk
  refine ⟨(kinds7 kd)[k]'hl, List.getElem?_eq_getElem hl, ?_⟩
  have h2 := hr k (.int .i64 ((kinds7 kd)[k]'hl)) (by
    rcases (show k = 0 ∨ k = 1 ∨ k = 2 ∨ k = 3 ∨ k = 4 ∨ k = 5 ∨ k = 6 by omega) with rfl | rfl | rfl | rfl | rfl | rfl | rfl <;> rfl)
  rwa [Nat.zero_add] at h2
theorem read_len (k : Int) (s : List UInt8) : (readQ k s).l.length ≤ 200 := by
  unfold readQ
  by_cases h15 : k = 1 ∨ k = 5
  · rw [if_pos h15]
    cases numP s <;> exact Nat.zero_le _
  rw [if_neg h15]
  by_cases h2 : k = 2
  · rw [if_pos h2]
    cases truthQ s <;> exact Nat.zero_le _
  rw [if_neg h2]
  by_cases h3 : k = 3
  · rw [if_pos h3]
    by_cases he : textE s = 0
    · rw [if_pos he]; exact Nat.zero_le _
    · rw [if_neg he]; exact Nat.zero_le _
  rw [if_neg h3]
  by_cases h4 : k = 4
  · rw [if_pos h4]
    by_cases he : (unQ s).2 = 0
    · rw [if_pos he]; exact (un_conv s (unQ s).1 (Prod.ext rfl he)).2
    · rw [if_neg he]; exact Nat.zero_le _
  rw [if_neg h4]
  by_cases h6 : k = 6
  · rw [if_pos h6]
    rcases linkQ s with _ | ⟨a, b⟩ <;> exact Nat.zero_le _
  rw [if_neg h6]
  exact Nat.zero_le _
set_option maxHeartbeats 8000000 in
theorem preads_law (kd : Int) (s : ByteArray) (w : World) (hT : Tab7 w) :
    Calls Tryd.prog 3 #[.int .i64 kd, .string s] w fun e w' => e = .returned (.bool true) ∧ Below w.heap.size w w' := by
  have HT := Lib.hid fun W (h : Below w.heap.size w W) => hT.below h
  clear hT
  by_cases hbig : 1000 < s.size
  · have hI : (1000 : Int) < s.size := by omega
    clear hbig
    go_enter Tryd.func3, Tryd.ntmps3
    go_wp2_with fail
    refine (palive_f w (HT.out w (Below.refl _ _))).mono ?_
    rintro e w1 ⟨rfl, b1⟩
    try dsimp only
    go_wp2
    go_ret
    exact ⟨rfl, b1⟩
  have hI : ¬ (1000 : Int) < s.size := by omega
  have hs5 : s.size ≤ 100000 := by omega
  have hs6 : s.size ≤ 1000000 := by omega
  have HS := Lib.hid (And.intro hs5 hs6)
  clear hs5 hs6 hbig
  go_enter Tryd.func3, Tryd.ntmps3
  go_wp2_with fail
  refine (palive_f w (HT.out w (Below.refl _ _))).mono ?_
  rintro e w1 ⟨rfl, b1⟩
  have H1 := Lib.hid b1
  clear b1
  try dsimp only
  go_wp2
  obtain ⟨W0, hW0⟩ : ∃ W0, w1.alloc (.cells #[.int .i64 kd, .int .i64 1, .int .i64 2, .int .i64 3, .int .i64 4, .int .i64 5, .int .i64 6] 3) = W0 := ⟨_, rfl⟩
  have hz0 : W0.heap.size = w1.heap.size + 1 := by rw [← hW0, alloc_size]
  have hb0 : Below w1.heap.size w1 W0 := by rw [← hW0]; exact alloc_below w1 _
  have hk0 := kinds_at kd w1
  rw [hW0] at hk0
  have HK := Lib.hid (And.intro hk0 (And.intro (H1.out.trans (hb0.mono H1.out.size)) hz0))
  rw [hW0]
  clear hk0 hb0 hz0 hW0
  go_loopw [19] (fun v19 wr => ∃ k : Nat, k ≤ 7 ∧ v19 = .int .i64 (k : Int) ∧ Aside (Below W0.heap.size W0 wr)) (fun v19 _ => 7 - (intOf v19).toNat)
  case atStart => exact ⟨0, by omega, rfl, Below.refl _ _⟩
  case round =>
    obtain ⟨k, hk, rfl, hrel⟩ := hrel
    have HR := Lib.hid hrel.out
    clear hrel
    by_cases hlt : k < 7
    · have hkI : (k : Int) < 7 := by omega
      obtain ⟨x, _, hx0⟩ := HK.out.1 k hlt
      have hx : wr.cell? ⟨w1.heap.size, k, none⟩ = some (.int .i64 x) := (HR.out.cell (p := ⟨w1.heap.size, k, none⟩) (by have := HK.out.2.2; show w1.heap.size < _; omega)).trans hx0
      clear hx0 hlt
      have hbw := HK.out.2.1.trans (HR.out.mono HK.out.2.1.size)
      have hTr := HT.out wr hbw
      have c1 := read_all x s HS.out.2 wr hTr.e hTr.d hTr.u
      have HC := Lib.hid (And.intro c1 (rread_all x s HS.out.1))
      clear c1 hTr hbw
      go_wp2_with fail
      refine HC.out.1.mono ?_
      obtain ⟨q, hq⟩ : ∃ q, readQ x s.data.toList = q := ⟨_, rfl⟩
      have hql : q.l.length ≤ 200 := by rw [← hq]; exact read_len x _
      rw [hq] at HC ⊢
      clear hq
      obtain ⟨qk, qn, qt, ql, qo, qi, qe⟩ := q
      have HQ := Lib.hid hql
      clear hql
      rintro e w2 ⟨t2, A2, m2, c2, rfl, ht2, hmc2, hml2, hbs2, b2⟩
      replace ht2 : t2.data.toList = qt := ht2
      replace hml2 : m2 = ql.length := hml2
      replace hbs2 : Bs w2 w2.heap.size A2 m2 ql := hbs2
      have q2 := alloc_below w2 (.cells #[.int .i64 qk, .int .i64 qn, .string t2, .slice A2 m2 c2, .int .i64 qo, .int .i64 qi] 26)
      have r2 := range_newV w2 #[.int .i64 qk, .int .i64 qn, .string t2, .slice A2 m2 c2, .int .i64 qo, .int .i64 qi] 26 rfl
      have H2 := Lib.hid (And.intro (HR.out.trans ((b2.trans (q2.mono b2.size)).mono HR.out.size)) (And.intro (hbs2.below q2) (And.intro r2 (And.intro ht2 (And.intro hml2 q2.size)))))
      clear q2 r2 ht2 hml2 hbs2 b2 hmc2
      try dsimp only
      go_wp2_with fail
      obtain ⟨W2, hW2⟩ : ∃ W2, w2.alloc (.cells #[.int .i64 qk, .int .i64 qn, .string t2, .slice A2 m2 c2, .int .i64 qo, .int .i64 qi] 26) = W2 := ⟨_, rfl⟩
      have hz2 : W2.heap.size = w2.heap.size + 1 := by rw [← hW2, alloc_size]
      rw [hW2] at H2 ⊢
      have HZ := Lib.hid hz2
      clear hW2 hz2
      refine (HC.out.2 W2).mono ?_
      rintro e w3 ⟨t3, A3, m3, c3, rfl, ht3, hmc3, hml3, hbs3, b3⟩
      replace ht3 : t3.data.toList = qt := ht3
      replace hml3 : m3 = ql.length := hml3
      replace hbs3 : Bs w3 w3.heap.size A3 m3 ql := hbs3
      obtain rfl : t2 = t3 := by
        have h2 := Array.toList_inj.1 (H2.out.2.2.2.1.trans ht3.symm)
        cases t2; cases t3; exact congrArg ByteArray.mk h2
      have q3 := alloc_below w3 (.cells #[.int .i64 qk, .int .i64 qn, .string t2, .slice A3 m3 c3, .int .i64 qo, .int .i64 qi] 26)
      have hb3 : Below W2.heap.size W2 (w3.alloc (.cells #[.int .i64 qk, .int .i64 qn, .string t2, .slice A3 m3 c3, .int .i64 qo, .int .i64 qi] 26)) := b3.trans (q3.mono b3.size)
      obtain ⟨s0, s1, s2_, s3, s4, s5⟩ := six (range_newV w3 #[.int .i64 qk, .int .i64 qn, .string t2, .slice A3 m3 c3, .int .i64 qo, .int .i64 qi] 26 rfl)
      obtain ⟨p0, p1, p2, p3, p4, p5⟩ := six (range_below H2.out.2.2.1 hb3 (by have := HZ.out; omega))
      have hm2 : m2 ≤ 1000000 ∨ True := .inr trivial
      have H3 := Lib.hid (And.intro (H2.out.1.trans (hb3.mono H2.out.1.size)) (And.intro (H2.out.2.1.below' hb3 (by have := HZ.out; omega)) (And.intro (hbs3.below q3) (And.intro q3.size (And.intro hb3.size hml3)))))
      clear q3 hb3 hbs3 b3 hmc3 ht3 hml3 hm2
      have hee : (qe == qe) = true := beq_self_eq_true _
      have hen : (qe != qe) = false := by simp
      try dsimp only
      go_wp2_with fail
      clear p0 p1 p2 p3 p4 p5 s0 s1 s2_ s3 s4 s5
      refine (rsame13_yes qk qn t2 qo qi ql A2 A3 m2 c2 m3 c3 _ _ _ H3.out.2.1 H3.out.2.2.1 (by have := H3.out.2.2.2.2.1; have := HZ.out; omega) H3.out.2.2.2.1 (by have := H2.out.2.2.2.2.1; have : ql.length ≤ 200 := HQ.out; omega)).mono ?_
      rintro e w5 ⟨rfl, b5⟩
      have H5 := Lib.hid (H3.out.1.trans (b5.mono (by have := H3.out.1.size; omega)))
      clear b5
      try dsimp only
      go_wp2
      go_roundw
      case rel => exact ⟨k + 1, by omega, by go_num, H5.out⟩
      case measure => simp [intOf]; omega
    · have hkI : ¬ (k : Int) < 7 := by omega
      clear hlt
      go_wp2
      go_ret
      exact ⟨rfl, HK.out.2.1.trans (HR.out.mono HK.out.2.1.size)⟩
end Go.Proofs.YthnbcilpallhjaaDoor
