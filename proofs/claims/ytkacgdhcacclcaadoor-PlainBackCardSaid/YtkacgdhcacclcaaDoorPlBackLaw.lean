/-
  The law PlainBack.
-/
import Derived.Test.YtkacgdhcacclcaaDoorPlAlive
import Derived.Test.YtkacgdhcacclcaaDoorPlReadAll
import Derived.Test.YtkacgdhcacclcaaDoorVaSame13
import Derived.Deep.QuietTactic
import Derived.BigQuiet
namespace Go.Proofs.YtkacgdhcacclcaaDoor
open Go.RowKit
set_option maxRecDepth 100000
set_option linter.unusedVariables false
theorem textL_len (k n : Int) (S L : List UInt8) (o i : Int) (hS : S.length ≤ 1000) (hL : L.length ≤ 1000) (hn : -9223372036854775808 ≤ n ∧ n ≤ 9223372036854775807) (ho : -9223372036854775808 ≤ o ∧ o ≤ 9223372036854775807) (hi : -9223372036854775808 ≤ i ∧ i ≤ 9223372036854775807) : (textL k n S L o i).length ≤ 1000000 := by
  unfold textL
  have h1 := itoa_len n hn.1 hn.2
  have h2 := itoa_len o ho.1 ho.2
  have h3 := itoa_len i hi.1 hi.2
  have h4 := b64_len L
  split
  · omega
  · split
    · omega
    · split
      · rw [List.length_append, List.length_cons]; omega
      · omega
set_option maxHeartbeats 8000000 in
theorem pback_law (k n : Int) (s : ByteArray) (A : Option Addr) (m c : Nat) (o i : Int) (l : List UInt8) (kd : Int) (s2 : ByteArray) (w : World) (hn : -9223372036854775808 ≤ n ∧ n ≤ 9223372036854775807) (ho : -9223372036854775808 ≤ o ∧ o ≤ 9223372036854775807) (hi : -9223372036854775808 ≤ i ∧ i ≤ 9223372036854775807) (hbs : Bs w w.heap.size A m l) (hc : m ≤ c) (hT : Tab7 w) :
    Calls Tryd.prog 6 #[.agg #[.int .i64 k, .int .i64 n, .string s, .slice A m c, .int .i64 o, .int .i64 i], .int .i64 kd, .string s2] w fun e w' => e = .returned (.bool true) ∧ Below w.heap.size w w' := by
  have hb0 := alloc_below w (.cells #[.int .i64 k, .int .i64 n, .string s, .slice A m c, .int .i64 o, .int .i64 i] 24)
  have hr0 := range_newV w #[.int .i64 k, .int .i64 n, .string s, .slice A m c, .int .i64 o, .int .i64 i] 24 rfl
  have hz0 : w.heap.size < (w.alloc (.cells #[.int .i64 k, .int .i64 n, .string s, .slice A m c, .int .i64 o, .int .i64 i] 24)).heap.size := by rw [alloc_size]; exact Nat.lt_succ_self _
  obtain ⟨W0, hW0⟩ : ∃ W0, w.alloc (.cells #[.int .i64 k, .int .i64 n, .string s, .slice A m c, .int .i64 o, .int .i64 i] 24) = W0 := ⟨_, rfl⟩
  rw [hW0] at hb0 hr0 hz0
  have cA := fun W (hW : Below w.heap.size w W) => palive_f W (hT.below hW)
  have hcl : ∀ W, Below W0.heap.size W0 W → W.rangeAt w.heap.size 0 [.int .i64 k, .int .i64 n, .string s, .slice A m c, .int .i64 o, .int .i64 i] := fun W hW => range_below hr0 hW hz0
  have hup : ∀ W, Below W0.heap.size W0 W → Below w.heap.size w W := fun W hW => hb0.trans (hW.mono (Nat.le_of_lt hz0))
  have HC := Lib.hid (And.intro hcl (And.intro hup (And.intro hbs (And.intro hT (And.intro hc hz0)))))
  have H0 := Lib.hid hb0
  have HN := Lib.hid (And.intro hn (And.intro ho hi))
  have HW := Lib.hid hW0
  clear hb0 hr0 hz0 hW0 hcl hup hbs hT hc hn ho hi
  have HA := Lib.hid cA
  clear cA
  by_cases hbig : 1000 < s.size ∨ 1000 < m ∨ 1000 < s2.size
  · rcases (show (1000 : Int) < s.size ∨ (¬ (1000 : Int) < s.size ∧ (1000 : Int) < m) ∨ (¬ (1000 : Int) < s.size ∧ ¬ (1000 : Int) < m ∧ (1000 : Int) < s2.size) by omega) with h1 | ⟨h1, h2⟩ | ⟨h1, h2, h3⟩
    all_goals
      clear hbig
      go_enter Tryd.func6, Tryd.ntmps6
      go_wp2_with fail
      rw [HW.out]
      refine (HA.out _ H0.out).mono ?_
      rintro e w1 ⟨rfl, b1⟩
      obtain ⟨p0, p1, p2, p3, p4, p5⟩ := six (HC.out.1 w1 b1)
      have H1 := Lib.hid (HC.out.2.1 w1 b1)
      clear b1
      go_wp2
      go_ret
      exact ⟨rfl, H1.out⟩
  have hsI : ¬ (1000 : Int) < s.size := by omega
  have hmI : ¬ (1000 : Int) < m := by omega
  have hs2 : ¬ (1000 : Int) < s2.size := by omega
  have cP := fun W (hW : Below w.heap.size w W) => write13_f k n s A m c o i l W _ (HC.out.2.2.1.below hW) hW.size (by omega) (by omega) HC.out.2.2.2.2.1 (HC.out.2.2.2.1.below hW).d (HC.out.2.2.2.1.below hW).u HN.out.1.1 HN.out.1.2 HN.out.2.1.1 HN.out.2.1.2 HN.out.2.2.1 HN.out.2.2.2
  have cG := fun W (hW : Below w.heap.size w W) => right_f k n s A m c o i W (by omega) (HC.out.2.2.2.1.below hW).u
  obtain ⟨er, her⟩ : ∃ er, txtE k n s.size (okN (runesQ s.data.toList)) m o i = er := ⟨_, rfl⟩
  have hRi : er = 0 → rightB k n s.size (okN (runesQ s.data.toList)) m o i = true := fun e => by
    rw [e] at her
    unfold txtE at her
    split at her
    · cases her
    · split at her
      · assumption
      · cases her
  rw [her] at cP
  have HR := Lib.hid hRi
  clear hRi
  have HP := Lib.hid (And.intro cP cG)
  clear cP cG hbig
  by_cases he0 : er = 0
  · subst he0
    have hR := HR.out rfl
    rw [show s.size = s.data.toList.length from Array.length_toList.symm, ← HC.out.2.2.1.len] at hR
    have HR2 := Lib.hid (right_back k n s.data.toList l o i HN.out.1 hR)
    have HR1 := Lib.hid (HR.out rfl)
    clear hR HR
    go_enter Tryd.func6, Tryd.ntmps6
    go_wp2_with fail
    rw [HW.out]
    refine (HA.out _ H0.out).mono ?_
    rintro e w1 ⟨rfl, b1⟩
    obtain ⟨p0, p1, p2, p3, p4, p5⟩ := six (HC.out.1 w1 b1)
    have H1 := Lib.hid b1
    clear b1
    go_wp2_with fail
    refine (HP.out.1 w1 (HC.out.2.1 w1 H1.out)).mono ?_
    rintro e w2 ⟨t1, rfl, ht1, b2⟩
    have H2 := Lib.hid (And.intro (H1.out.trans (b2.mono H1.out.size)) ht1)
    clear b2 ht1 p0 p1 p2 p3 p4 p5
    obtain ⟨p0, p1, p2, p3, p4, p5⟩ := six (HC.out.1 w2 H2.out.1)
    try dsimp only
    go_wp2_with fail
    have hrd : Calls Tryd.prog 15 #[.int .i64 k, .string t1] w2 (RdRet k n s.data.toList l o i 0 w2) := by
      have hsl : s.data.toList.length = s.size := Array.length_toList
      have hll := HC.out.2.2.1.len
      have e1 : t1.data.toList = textL k n s.data.toList l o i := H2.out.2
      have hz : t1.size ≤ 1000000 := by
        have h3 : t1.data.toList.length = t1.size := Array.length_toList
        rw [← h3, e1]
        exact textL_len k n _ l o i (by omega) (by omega) HN.out.1 HN.out.2.1 HN.out.2.2
      have hb2 := HC.out.2.1 w2 H2.out.1
      have hT2 := HC.out.2.2.2.1.below hb2
      have h := read_all k t1 hz w2 hT2.e hT2.d hT2.u
      rw [e1, HR2.out] at h
      exact h
    refine hrd.mono ?_
    rintro e w3 ⟨t3, A3, m3, c3, rfl, ht3, hmc3, hml3, hbs3, b3⟩
    obtain rfl : t3 = s := by
      have h2 := Array.toList_inj.1 (show t3.data.toList = s.data.toList from ht3)
      cases t3; cases s; exact congrArg ByteArray.mk h2
    have H3 := Lib.hid (And.intro (H2.out.1.trans (b3.mono H2.out.1.size)) (And.intro hbs3 (And.intro hml3 hmc3)))
    clear b3 ht3 hbs3 hml3 hmc3 hrd p0 p1 p2 p3 p4 p5 H2
    try dsimp only
    have q3 := alloc_below w3 (.cells #[.int .i64 k, .int .i64 n, .string t3, .slice A3 m3 c3, .int .i64 o, .int .i64 i] 24)
    obtain ⟨p0, p1, p2, p3, p4, p5⟩ := six (HC.out.1 _ (H3.out.1.trans (q3.mono H3.out.1.size)))
    obtain ⟨s0, s1, s2_, s3, s4, s5⟩ := six (range_newV w3 #[.int .i64 k, .int .i64 n, .string t3, .slice A3 m3 c3, .int .i64 o, .int .i64 i] 24 rfl)
    have H4 := Lib.hid (And.intro (H3.out.1.trans (q3.mono H3.out.1.size)) (H3.out.2.1.below q3))
    clear q3
    go_wp2_with fail
    refine calls_at_world (F := fun W => Below W0.heap.size W0 W ∧ Bs W w3.heap.size A3 m3 l) H4.out fun W4 pw => ?_
    have H5 := Lib.hid pw
    clear pw H4 p0 p1 p2 p3 p4 p5 s0 s1 s2_ s3 s4 s5
    have hb4 := HC.out.2.1 W4 H5.out.1
    refine (rsame13_yes k n t3 o i l A3 A m3 c3 m c W4 _ _ H5.out.2.lt (HC.out.2.2.1.below hb4) (Nat.le_refl _) hb4.size (by have h1 := H3.out.2.2.1; have h2 := HC.out.2.2.1.len; omega)).mono ?_
    rintro e w5 ⟨rfl, b5⟩
    have H6 := Lib.hid (H5.out.1.trans (b5.mono H5.out.1.size))
    clear b5 hb4
    obtain ⟨p0, p1, p2, p3, p4, p5⟩ := six (HC.out.1 w5 H6.out)
    try dsimp only
    go_wp2_with fail
    have hrg := HP.out.2 w5 (HC.out.2.1 w5 H6.out)
    rw [HR1.out] at hrg
    refine hrg.mono ?_
    rintro e w6 ⟨rfl, b6⟩
    have HX := Lib.hid (H6.out.trans (b6.mono H6.out.size))
    clear b6 hrg p0 p1 p2 p3 p4 p5
    try dsimp only
    go_wp2_with fail
    obtain ⟨q0, q1, q2, q3, q4, q5⟩ := six (HC.out.1 w6 HX.out)
    refine (read_all kd s2 (by omega) w6 (HC.out.2.2.2.1.below (HC.out.2.1 w6 HX.out)).e (HC.out.2.2.2.1.below (HC.out.2.1 w6 HX.out)).d (HC.out.2.2.2.1.below (HC.out.2.1 w6 HX.out)).u).mono ?_
    clear q0 q1 q2 q3 q4 q5
    by_cases hz : (readQ kd s2.data.toList).er = 0
    · obtain ⟨n2, t2, l2, o2, i2, hq, hri, htx, hn2, ho2, hi2⟩ := read_conv kd s2.data.toList hz
      rw [hq]
      rintro e w7 ⟨t7, A7, m7, c7, rfl, ht7, hmc7, hml7, hbs7, b7⟩
      replace ht7 : t7.data.toList = t2 := ht7
      replace hml7 : m7 = l2.length := hml7
      obtain rfl := ht7
      rw [← hml7, show t7.data.toList.length = t7.size from Array.length_toList] at hri
      obtain ⟨hsm, hbm, htxE⟩ := right_small hri
      have H7 := Lib.hid (HX.out.trans (b7.mono HX.out.size))
      have q7 := alloc_below w7 (.cells #[.int .i64 kd, .int .i64 n2, .string t7, .slice A7 m7 c7, .int .i64 o2, .int .i64 i2] 24)
      have cr := range_newV w7 #[.int .i64 kd, .int .i64 n2, .string t7, .slice A7 m7 c7, .int .i64 o2, .int .i64 i2] 24 rfl
      obtain ⟨s0, s1, s2_, s3, s4, s5⟩ := six cr
      have hgz : w7.heap.size < (w7.alloc (.cells #[.int .i64 kd, .int .i64 n2, .string t7, .slice A7 m7 c7, .int .i64 o2, .int .i64 i2] 24)).heap.size := by rw [alloc_size]; exact Nat.lt_succ_self _
      have H8 := Lib.hid (And.intro (H7.out.trans (q7.mono H7.out.size)) (And.intro (hbs7.below q7) (And.intro cr (And.intro hgz q7.size))))
      have HQ := Lib.hid (And.intro hri (And.intro htx (And.intro hn2 (And.intro ho2 (And.intro hi2 (And.intro hsm (And.intro hbm (And.intro htxE hmc7))))))))
      clear q7 cr hgz hbs7 b7 hml7 hmc7 hri htx hn2 ho2 hi2 hsm hbm htxE hq hz
      try dsimp only
      go_wp2_with fail
      have hT8 := HC.out.2.2.2.1.below (HC.out.2.1 _ H8.out.1)
      have hwr := write13_f kd n2 t7 A7 m7 c7 o2 i2 l2 _ _ H8.out.2.1 H8.out.2.2.2.2 (by have := HQ.out.2.2.2.2.2.1; omega) (by have := HQ.out.2.2.2.2.2.2.1; omega) HQ.out.2.2.2.2.2.2.2.2 hT8.d hT8.u HQ.out.2.2.1.1 HQ.out.2.2.1.2 (by have := HQ.out.2.2.2.1; omega) (by have := HQ.out.2.2.2.1; omega) (by have := HQ.out.2.2.2.2.1; omega) (by have := HQ.out.2.2.2.2.1; omega)
      rw [HQ.out.2.2.2.2.2.2.2.1] at hwr
      refine hwr.mono ?_
      rintro e w9 ⟨t9, rfl, ht9, b9⟩
      rw [if_pos rfl, HQ.out.2.1] at ht9
      obtain rfl : t9 = s2 := by
        have h2 := Array.toList_inj.1 ht9
        cases t9; cases s2; exact congrArg ByteArray.mk h2
      have H9 := Lib.hid (H8.out.1.trans (b9.mono H8.out.1.size))
      obtain ⟨q0, q1, q2, q3, q4, q5⟩ := six (range_below H8.out.2.2.1 b9 H8.out.2.2.2.1)
      have HR9 := Lib.hid (And.intro (range_below H8.out.2.2.1 b9 H8.out.2.2.2.1) (Nat.lt_of_lt_of_le H8.out.2.2.2.1 b9.size))
      clear b9 ht9 hwr hT8 s0 s1 s2_ s3 s4 s5
      have htt : (t9.toList == t9.toList) = true := beq_self_eq_true _
      have hkk : (kd == kd) = true := beq_self_eq_true _
      try dsimp only
      go_wp2_with fail
      have hrg := right_f kd n2 t7 A7 m7 c7 o2 i2 w9 (by have := HQ.out.2.2.2.2.2.1; omega) (HC.out.2.2.2.1.below (HC.out.2.1 _ H9.out)).u
      rw [HQ.out.1] at hrg
      have c9 := fun W (h : Below w9.heap.size w9 W) => range_below HR9.out.1 h HR9.out.2
      refine hrg.mono ?_
      rintro e w10 ⟨rfl, b10⟩
      have H10 := Lib.hid (H9.out.trans (b10.mono H9.out.size))
      obtain ⟨u0, u1, u2, u3, u4, u5⟩ := six (c9 w10 b10)
      clear b10 c9 hrg q0 q1 q2 q3 q4 q5
      try dsimp only
      go_wp2
      go_ret
      exact ⟨rfl, HC.out.2.1 _ H10.out⟩
    · rw [read_none _ _ hz]
      rintro e w7 ⟨t7, A7, m7, c7, rfl, ht7, hmc7, hml7, hbs7, b7⟩
      have hne : ((readQ kd s2.data.toList).er != 0) = true := bne_iff_ne.2 hz
      obtain ⟨er2, her2⟩ : ∃ er2, (readQ kd s2.data.toList).er = er2 := ⟨_, rfl⟩
      rw [her2] at hne
      replace ht7 : t7.data.toList = [] := ht7
      replace hml7 : m7 = 0 := hml7
      obtain rfl : t7 = ⟨#[]⟩ := by
        have h2 := Array.toList_inj.1 (show t7.data.toList = (#[] : Array UInt8).toList from ht7)
        cases t7; exact congrArg ByteArray.mk h2
      subst hml7
      have H7 := Lib.hid (HX.out.trans (b7.mono HX.out.size))
      have q7 := alloc_below w7 (.cells #[.int .i64 0, .int .i64 0, .string ⟨#[]⟩, .slice A7 0 c7, .int .i64 0, .int .i64 0] 24)
      obtain ⟨s0, s1, s2_, s3, s4, s5⟩ := six (range_newV w7 #[.int .i64 0, .int .i64 0, .string ⟨#[]⟩, .slice A7 0 c7, .int .i64 0, .int .i64 0] 24 rfl)
      have H8 := Lib.hid (H7.out.trans (q7.mono H7.out.size))
      clear q7 b7 hbs7 hmc7 ht7 hz
      simp only [noV, her2]
      try dsimp only
      go_wp2_with fail
      refine (rsame13_yes 0 0 ⟨#[]⟩ 0 0 [] A7 none 0 c7 0 0 _ 0 0 (Bs.empty _ _ _) (Bs.empty _ _ _) (Nat.zero_le _) (Nat.zero_le _) (by decide)).mono ?_
      rintro e w9 ⟨rfl, b9⟩
      have H9 := Lib.hid (H8.out.trans (b9.mono H8.out.size))
      clear b9
      try dsimp only
      go_wp2
      go_ret
      exact ⟨rfl, HC.out.2.1 _ H9.out⟩
  · have hne0 : (er == 0) = false := beq_eq_false_iff_ne.2 he0
    clear HR
    go_enter Tryd.func6, Tryd.ntmps6
    go_wp2_with fail
    rw [HW.out]
    refine (HA.out _ H0.out).mono ?_
    rintro e w1 ⟨rfl, b1⟩
    obtain ⟨p0, p1, p2, p3, p4, p5⟩ := six (HC.out.1 w1 b1)
    have H1 := Lib.hid b1
    clear b1
    go_wp2_with fail
    refine (HP.out.1 w1 (HC.out.2.1 w1 H1.out)).mono ?_
    rintro e w2 ⟨t1, rfl, ht1, b2⟩
    have HX := Lib.hid (H1.out.trans (b2.mono H1.out.size))
    clear b2 ht1 p0 p1 p2 p3 p4 p5
    try dsimp only
    go_wp2_with fail
    obtain ⟨q0, q1, q2, q3, q4, q5⟩ := six (HC.out.1 w2 HX.out)
    refine (read_all kd s2 (by omega) w2 (HC.out.2.2.2.1.below (HC.out.2.1 w2 HX.out)).e (HC.out.2.2.2.1.below (HC.out.2.1 w2 HX.out)).d (HC.out.2.2.2.1.below (HC.out.2.1 w2 HX.out)).u).mono ?_
    clear q0 q1 q2 q3 q4 q5
    by_cases hz : (readQ kd s2.data.toList).er = 0
    · obtain ⟨n2, t2, l2, o2, i2, hq, hri, htx, hn2, ho2, hi2⟩ := read_conv kd s2.data.toList hz
      rw [hq]
      rintro e w7 ⟨t7, A7, m7, c7, rfl, ht7, hmc7, hml7, hbs7, b7⟩
      replace ht7 : t7.data.toList = t2 := ht7
      replace hml7 : m7 = l2.length := hml7
      obtain rfl := ht7
      rw [← hml7, show t7.data.toList.length = t7.size from Array.length_toList] at hri
      obtain ⟨hsm, hbm, htxE⟩ := right_small hri
      have H7 := Lib.hid (HX.out.trans (b7.mono HX.out.size))
      have q7 := alloc_below w7 (.cells #[.int .i64 kd, .int .i64 n2, .string t7, .slice A7 m7 c7, .int .i64 o2, .int .i64 i2] 24)
      have cr := range_newV w7 #[.int .i64 kd, .int .i64 n2, .string t7, .slice A7 m7 c7, .int .i64 o2, .int .i64 i2] 24 rfl
      obtain ⟨s0, s1, s2_, s3, s4, s5⟩ := six cr
      have hgz : w7.heap.size < (w7.alloc (.cells #[.int .i64 kd, .int .i64 n2, .string t7, .slice A7 m7 c7, .int .i64 o2, .int .i64 i2] 24)).heap.size := by rw [alloc_size]; exact Nat.lt_succ_self _
      have H8 := Lib.hid (And.intro (H7.out.trans (q7.mono H7.out.size)) (And.intro (hbs7.below q7) (And.intro cr (And.intro hgz q7.size))))
      have HQ := Lib.hid (And.intro hri (And.intro htx (And.intro hn2 (And.intro ho2 (And.intro hi2 (And.intro hsm (And.intro hbm (And.intro htxE hmc7))))))))
      clear q7 cr hgz hbs7 b7 hml7 hmc7 hri htx hn2 ho2 hi2 hsm hbm htxE hq hz
      try dsimp only
      go_wp2_with fail
      have hT8 := HC.out.2.2.2.1.below (HC.out.2.1 _ H8.out.1)
      have hwr := write13_f kd n2 t7 A7 m7 c7 o2 i2 l2 _ _ H8.out.2.1 H8.out.2.2.2.2 (by have := HQ.out.2.2.2.2.2.1; omega) (by have := HQ.out.2.2.2.2.2.2.1; omega) HQ.out.2.2.2.2.2.2.2.2 hT8.d hT8.u HQ.out.2.2.1.1 HQ.out.2.2.1.2 (by have := HQ.out.2.2.2.1; omega) (by have := HQ.out.2.2.2.1; omega) (by have := HQ.out.2.2.2.2.1; omega) (by have := HQ.out.2.2.2.2.1; omega)
      rw [HQ.out.2.2.2.2.2.2.2.1] at hwr
      refine hwr.mono ?_
      rintro e w9 ⟨t9, rfl, ht9, b9⟩
      rw [if_pos rfl, HQ.out.2.1] at ht9
      obtain rfl : t9 = s2 := by
        have h2 := Array.toList_inj.1 ht9
        cases t9; cases s2; exact congrArg ByteArray.mk h2
      have H9 := Lib.hid (H8.out.1.trans (b9.mono H8.out.1.size))
      obtain ⟨q0, q1, q2, q3, q4, q5⟩ := six (range_below H8.out.2.2.1 b9 H8.out.2.2.2.1)
      have HR9 := Lib.hid (And.intro (range_below H8.out.2.2.1 b9 H8.out.2.2.2.1) (Nat.lt_of_lt_of_le H8.out.2.2.2.1 b9.size))
      clear b9 ht9 hwr hT8 s0 s1 s2_ s3 s4 s5
      have htt : (t9.toList == t9.toList) = true := beq_self_eq_true _
      have hkk : (kd == kd) = true := beq_self_eq_true _
      try dsimp only
      go_wp2_with fail
      have hrg := right_f kd n2 t7 A7 m7 c7 o2 i2 w9 (by have := HQ.out.2.2.2.2.2.1; omega) (HC.out.2.2.2.1.below (HC.out.2.1 _ H9.out)).u
      rw [HQ.out.1] at hrg
      have c9 := fun W (h : Below w9.heap.size w9 W) => range_below HR9.out.1 h HR9.out.2
      refine hrg.mono ?_
      rintro e w10 ⟨rfl, b10⟩
      have H10 := Lib.hid (H9.out.trans (b10.mono H9.out.size))
      obtain ⟨u0, u1, u2, u3, u4, u5⟩ := six (c9 w10 b10)
      clear b10 c9 hrg q0 q1 q2 q3 q4 q5
      try dsimp only
      go_wp2
      go_ret
      exact ⟨rfl, HC.out.2.1 _ H10.out⟩
    · rw [read_none _ _ hz]
      rintro e w7 ⟨t7, A7, m7, c7, rfl, ht7, hmc7, hml7, hbs7, b7⟩
      have hne : ((readQ kd s2.data.toList).er != 0) = true := bne_iff_ne.2 hz
      obtain ⟨er2, her2⟩ : ∃ er2, (readQ kd s2.data.toList).er = er2 := ⟨_, rfl⟩
      rw [her2] at hne
      replace ht7 : t7.data.toList = [] := ht7
      replace hml7 : m7 = 0 := hml7
      obtain rfl : t7 = ⟨#[]⟩ := by
        have h2 := Array.toList_inj.1 (show t7.data.toList = (#[] : Array UInt8).toList from ht7)
        cases t7; exact congrArg ByteArray.mk h2
      subst hml7
      have H7 := Lib.hid (HX.out.trans (b7.mono HX.out.size))
      have q7 := alloc_below w7 (.cells #[.int .i64 0, .int .i64 0, .string ⟨#[]⟩, .slice A7 0 c7, .int .i64 0, .int .i64 0] 24)
      obtain ⟨s0, s1, s2_, s3, s4, s5⟩ := six (range_newV w7 #[.int .i64 0, .int .i64 0, .string ⟨#[]⟩, .slice A7 0 c7, .int .i64 0, .int .i64 0] 24 rfl)
      have H8 := Lib.hid (H7.out.trans (q7.mono H7.out.size))
      clear q7 b7 hbs7 hmc7 ht7 hz
      simp only [noV, her2]
      try dsimp only
      go_wp2_with fail
      refine (rsame13_yes 0 0 ⟨#[]⟩ 0 0 [] A7 none 0 c7 0 0 _ 0 0 (Bs.empty _ _ _) (Bs.empty _ _ _) (Nat.zero_le _) (Nat.zero_le _) (by decide)).mono ?_
      rintro e w9 ⟨rfl, b9⟩
      have H9 := Lib.hid (H8.out.trans (b9.mono H8.out.size))
      clear b9
      try dsimp only
      go_wp2
      go_ret
      exact ⟨rfl, HC.out.2.1 _ H9.out⟩
end Go.Proofs.YtkacgdhcacclcaaDoor
