/-
  The law PlainBytes.
-/
import Derived.Test.YtkacgdhcacclcaaDoorPlAlive
import Derived.Test.YtkacgdhcacclcaaDoorPlReadB
import Derived.Test.YtkacgdhcacclcaaDoorPlBackPure
import Derived.Test.YtkacgdhcacclcaaDoorVaRSame
import Derived.Test.YtkacgdhcacclcaaDoorVaWire
import Derived.Deep.QuietTactic
import Derived.BigQuiet
namespace Go.Proofs.YtkacgdhcacclcaaDoor
open Go.RowKit
set_option maxRecDepth 100000
set_option linter.unusedVariables false
theorem pb_w (A : Option Addr) (m c : Nat) (l : List UInt8) (w : World) (hT : Tab7 w) (B : Nat) (hb : Bs w B A m l) (hB : B ≤ w.heap.size) (hm : m ≤ 200) (hc : m ≤ c) : Calls Tryd.prog 11 #[.agg #[.int .i64 4, .int .i64 0, .string ⟨#[]⟩, .slice A m c, .int .i64 0, .int .i64 0]] w fun e w' => ∃ t : ByteArray, e = .returned (.tuple #[.string t, .int .i64 0]) ∧ t.data.toList = b64Q l ∧ Below w.heap.size w w' := by
  refine (write13_f 4 0 ⟨#[]⟩ A m c 0 0 l w B hb hB (by decide) (by omega) hc hT.d hT.u (by decide) (by decide) (by decide) (by decide) (by decide) (by decide)).mono ?_
  rintro e w' ⟨t, rfl, ht, hbl⟩
  have he : txtE 4 0 (ByteArray.size ⟨#[]⟩) (okN (runesQ (ByteArray.data ⟨#[]⟩).toList)) m 0 0 = 0 := by
    unfold txtE rightB
    rw [if_neg (by decide), show (ByteArray.size ⟨#[]⟩) = 0 from rfl, decide_eq_true (by omega)]
    rfl
  rw [he] at ht ⊢
  rw [if_pos rfl] at ht
  exact ⟨t, rfl, ht, hbl⟩
theorem pb_r (l : List UInt8) (hl : l.length ≤ 200) (t : ByteArray) (ht : t.data.toList = b64Q l) (w : World) : Calls Tryd.prog 15 #[.int .i64 4, .string t] w (RdRet 4 0 [] l 0 0 0 w) := by
  have hs : t.size ≤ 1000000 := by
    have h1 := b64_len l
    have h3 : t.data.toList.length = t.size := Array.length_toList
    rw [ht, h1] at h3
    omega
  have e := un_back l hl
  have h := read_bytes t hs w (by rw [ht, e])
  rw [ht, e] at h
  exact h
theorem wf_u8 {x : Int} (h : (Lit.int .u8 x).wf = true) : 0 ≤ x ∧ x < 256 := by
  have h2 : 0 ≤ x ∧ x ≤ 255 := by simpa [Lit.wf, IntKind.min, IntKind.max, IntKind.signed, IntKind.bits] using h
  omega
theorem and1023c (x : Int) : bits .and .i64 x 1023 = x % 1024 := by
  show IntKind.i64.wrap ((BitVec.ofInt 64 x &&& BitVec.ofInt 64 1023).toNat : Int) = x % 1024
  rw [BitVec.toNat_and, show (BitVec.ofInt 64 1023).toNat = 2 ^ 10 - 1 from rfl, Nat.and_two_pow_sub_one_eq_mod, BitVec.toNat_ofInt, IntWalk.i64_in _ (by omega)]
  omega
set_option maxHeartbeats 8000000 in
theorem pbytes_law (A : Option Addr) (m c : Nat) (l : List UInt8) (at_ by_ : Int) (w : World) (hbs : Bs w w.heap.size A m l) (hc : m ≤ c) (hat : -9223372036854775808 ≤ at_ ∧ at_ ≤ 9223372036854775807) (hby : 0 ≤ by_ ∧ by_ < 256) (hT : Tab7 w) :
    Calls Tryd.prog 7 #[.slice A m c, .int .i64 at_, .int .u8 by_] w fun e w' => e = .returned (.bool true) ∧ Below w.heap.size w w' := by
  have HT := Lib.hid fun W (h : Below w.heap.size w W) => hT.below h
  have HB := Lib.hid (And.intro hbs (And.intro hc (And.intro hat hby)))
  have hlen : l.length = m := hbs.1
  clear hT hbs hc hat hby
  by_cases hm : 200 < m
  · have hI : (200 : Int) < m := by omega
    go_enter Tryd.func7, Tryd.ntmps7
    go_wp2_with (go_at_call 10; refine (palive_f _ (HT.out _ (Below.refl _ _))).mono ?_; rintro e w1 ⟨rfl, b1⟩; have H1 := Lib.hid b1; clear b1)
    go_ret
    exact ⟨rfl, H1.out⟩
  have hI : ¬ (200 : Int) < m := by omega
  go_enter Tryd.func7, Tryd.ntmps7
  go_wp2_with fail
  refine (palive_f w (HT.out w (Below.refl _ _))).mono ?_
  rintro e w1 ⟨rfl, b1⟩
  have H1 := Lib.hid b1
  clear b1
  try dsimp only
  go_wp2_with fail
  refine (pb_w A m c l w1 (HT.out w1 H1.out) w.heap.size (HB.out.1.below H1.out) H1.out.size (by omega) HB.out.2.1).mono ?_
  rintro e w2 ⟨t, rfl, ht, b2⟩
  have H2 := Lib.hid (And.intro (H1.out.trans (b2.mono H1.out.size)) ht)
  clear b2 ht
  try dsimp only
  go_wp2_with fail
  refine (pb_r l (by omega) t H2.out.2 w2).mono ?_
  rintro e w3 ⟨t3, A3, m3, c3, rfl, ht3, hmc3, hml3, hbs3, b3⟩
  have H3 := Lib.hid (And.intro (H2.out.1.trans (b3.mono H2.out.1.size)) (And.intro H2.out.2 (And.intro hmc3 hbs3)))
  clear b3 ht3 hmc3 hbs3 H2
  try dsimp only
  go_wp2_with (rw [show m3 = m by omega]; fail)
  obtain rfl : m3 = m := by omega
  refine calls_at_world (F := fun W => Below w3.heap.size w3 W ∧ W.rangeAt w3.heap.size 0 [.int .i64 4, .int .i64 0, .string t3, .slice A3 m3 c3, .int .i64 0, .int .i64 0] ∧ w3.heap.size < W.heap.size) ⟨alloc_below _ _, range_newV w3 _ _ rfl, by rw [alloc_size]; omega⟩ fun W3 p3 => ?_
  have HP := Lib.hid (And.intro (H3.out.1.trans (p3.1.mono H3.out.1.size)) p3.2)
  have HS := Lib.hid H3.out.2.1
  have hS := same_any A3 A m3 c3 m3 c l l W3 _ _ (H3.out.2.2.2.below p3.1) (HB.out.1.below HP.out.1) (by omega) (by omega)
  rw [decide_eq_true rfl] at hS
  obtain ⟨g3, hg3⟩ : ∃ g3, w3.heap.size = g3 := ⟨_, rfl⟩
  rw [hg3] at HP ⊢
  clear p3 H3 hg3
  refine hS.mono ?_
  rintro e w4 ⟨rfl, k4, hw4⟩
  have b4 : Below W3.heap.size W3 w4 := by rw [hw4]; exact drewN_below _ _ _
  have H4 := Lib.hid (And.intro (HP.out.1.trans (b4.mono HP.out.1.size)) (And.intro (range_below HP.out.2.1 b4 HP.out.2.2) (Nat.lt_of_lt_of_le HP.out.2.2 b4.size)))
  clear b4 HP hw4 hS
  have hq : t.size = (m3 + 2) / 3 * 4 := by
    have h1 := b64_len l
    have h3 : t.data.toList.length = t.size := Array.length_toList
    rw [HS.out, h1, hlen] at h3
    exact h3.symm
  have hqI : ((m3 : Int) + 2).tdiv 3 = ((m3 + 2) / 3 : Nat) := by rw [Int.tdiv_eq_ediv_of_nonneg (by omega)]; omega
  have hq4 : (((m3 + 2) / 3 : Nat) : Int) * 4 = (t.size : Int) := by omega
  have HQ := Lib.hid (And.intro hq hlen)
  clear hq hlen hml3
  have hqn : ((t.size : Int) != (t.size : Int)) = false := by simp
  try dsimp only
  by_cases h0 : t.size = 0
  · have hz : ((t.size : Int) == 0) = true := by rw [h0]; rfl
    have hzI : (t.size : Int) = 0 := by omega
    go_wp2
    go_ret
    exact ⟨rfl, H4.out.1⟩
  have hz : ((t.size : Int) == 0) = false := beq_eq_false_iff_ne.2 (by omega)
  have hzI : ¬ (t.size : Int) = 0 := by omega
  have hem : ¬ t = ByteArray.empty := fun e => h0 (by rw [e]; rfl)
  obtain ⟨cp, W5, hcv, hcp, hnb, b5⟩ := conv_row w4 t
  have hg5 : w4.heap.size < W5.heap.size := by
    obtain ⟨b, off, he, hlt, _⟩ := hnb.1.place (by omega)
    cases he; exact hlt
  obtain ⟨J, hJ⟩ : ∃ J : Nat, at_ % 1024 = J := ⟨(at_ % 1024).toNat, by omega⟩
  have hand : bits .and .i64 at_ 1023 = (J : Int) := (and1023c at_).trans hJ
  obtain ⟨K, hK⟩ : ∃ K, J % t.size = K := ⟨_, rfl⟩
  have hKt : K < t.size := by rw [← hK]; exact Nat.mod_lt _ (by omega)
  have hrem : (J : Int).tmod (t.size : Int) = (K : Int) := by rw [Int.tmod_eq_emod_of_nonneg (by omega), ← hK]; omega
  have hKI : (K : Int) < (t.size : Int) := by omega
  have hK0 : (0 : Int) ≤ (K : Int) := by omega
  obtain ⟨u, hu⟩ : ∃ u, t.data.toList[K]? = some u := ⟨t.data.toList[K]'(by rw [Array.length_toList]; exact hKt), List.getElem?_eq_getElem _⟩
  obtain ⟨g, hg⟩ : ∃ g, w4.heap.size = g := ⟨_, rfl⟩
  rw [hg] at hnb hg5 hcv
  have hcells : ∀ j x, t.data.toList[j]? = some x → W5.cell? ⟨g, j, none⟩ = some (.int .u8 (x.toNat : Int)) := fun j x hx => by
    obtain ⟨b, off, he, _, hc2⟩ := hnb.bs.place (by omega)
    cases he
    have := hc2 j x hx
    rwa [Nat.zero_add] at this
  have hcu := hcells K u hu
  have hfz : W5.frozen? ⟨g, K, none⟩ = false := by
    have := (hnb.there g 0 rfl (by omega) K hKt).2
    rwa [Nat.zero_add] at this
  obtain ⟨v, hv⟩ : ∃ v : UInt8, (v.toNat : Int) = ((u.toNat : Int) + by_) % 256 := ⟨UInt8.ofNat ((((u.toNat : Int) + by_) % 256).toNat), by rw [UInt8.toNat_ofNat']; have := Int.emod_nonneg ((u.toNat : Int) + by_) (show (256 : Int) ≠ 0 by decide); have := Int.emod_lt_of_pos ((u.toNat : Int) + by_) (show (0 : Int) < 256 by decide); omega⟩
  have hvw : IntKind.u8.wrap ((u.toNat : Int) + by_) = (v.toNat : Int) := by
    rw [hv]; unfold IntKind.wrap; simp [IntKind.bits, IntKind.signed]
  obtain ⟨l2, hl2⟩ : ∃ l2, t.data.toList.set K v = l2 := ⟨_, rfl⟩
  have hl2n : l2.length = t.size := by rw [← hl2, List.length_set, Array.length_toList]; rfl
  have hcells2 : ∀ j (hj : j < l2.length), (W5.setCell ⟨g, K, none⟩ (.int .u8 (v.toNat : Int))).cell? (Addr.add ⟨g, 0, none⟩ j) = some (.int .u8 (l2[j].toNat : Int)) := fun j hj => by
    have ea : (Addr.add ⟨g, 0, none⟩ j) = ⟨g, j, none⟩ := by simp [Addr.add]; exact fun h => h.symm
    rw [ea]
    subst hl2
    by_cases hjk : K = j
    · subst hjk
      rw [World.cell?_setCell_same _ _ _ hcu, List.getElem_set_self]
    · rw [World.cell?_setCell_other _ _ _ _ (fun e => by injection e; omega), List.getElem_set_ne hjk]
      exact hcells j _ (List.getElem?_eq_getElem _)
  have hcv2 := run_convert_bytes_back (P := Tryd.prog) (W5.setCell ⟨g, K, none⟩ (.int .u8 (v.toNat : Int))) 22 9 5 ⟨g, 0, none⟩ cp l2 Tryd.underlying22 Tryd.underlying5 Tryd.underlying9 hcells2
  rw [hl2n] at hcv2
  have HK := Lib.hid (And.intro hnb (And.intro b5 (And.intro hg5 (And.intro hcells2 (And.intro hg (And.intro hl2n (And.intro hu hl2)))))))
  clear hJ hK hnb b5 hg5 hm hcells hcells2 hl2 hu hv hg hl2n
  go_wp2_with fail
  refine calls_at_world (F := fun W => Below w4.heap.size w4 W ∧ g < W.heap.size ∧ W.cell? ⟨g, K, none⟩ = some (.int .u8 (v.toNat : Int))) ⟨HK.out.2.1.setCell (by rw [HK.out.2.2.2.2.1]; exact Nat.le_refl _) _, by rw [World.size_setCell]; exact HK.out.2.2.1, World.cell?_setCell_same _ _ _ hcu⟩ fun W6 p6 => ?_
  have H6 := Lib.hid (And.intro (H4.out.1.trans (p6.1.mono H4.out.1.size)) p6.2)
  clear p6 hcv2 hcv hcu hfz
  obtain ⟨t2, ht2⟩ : ∃ t2 : ByteArray, (⟨l2.toArray⟩ : ByteArray) = t2 := ⟨_, rfl⟩
  have ht2l : t2.data.toList = l2 := by rw [← ht2]
  have ht2s : t2.size ≤ 1000000 := by
    have h1 : t2.data.toList.length = t2.size := Array.length_toList
    rw [ht2l, HK.out.2.2.2.2.2.1] at h1
    have h2 := HQ.out.1
    omega
  rw [ht2]
  obtain ⟨⟨L2, er⟩, hun⟩ : ∃ r, unQ t2.data.toList = r := ⟨_, rfl⟩
  by_cases he : er = 0
  · subst he
    have hr := read_bytes t2 ht2s W6 (by rw [hun])
    rw [hun] at hr
    have hcon := un_conv _ _ hun
    refine hr.mono ?_
    rintro e w7 ⟨t7, A7, m7, c7, rfl, ht7, hmc7, hml7, hbs7, b7⟩
    have hq : ∃ q, decide (L2 = l) = q ∧ ((v.toNat : Int) == (u.toNat : Int)) = q := by
      by_cases hvu : v = u
      · have e1 : L2 = l := by
          have h1 := HK.out.2.2.2.2.2.2.2
          have h2 := HK.out.2.2.2.2.2.2.1
          rw [hvu] at h1
          have h3 : t.data.toList.set K u = t.data.toList := by
            apply List.ext_getElem?
            intro n
            by_cases hn : K = n
            · subst hn; rw [List.getElem?_set_self (by rw [Array.length_toList]; exact hKt), h2]
            · rw [List.getElem?_set_ne hn]
          rw [h3, HS.out] at h1
          have h4 := un_back l (by rw [HQ.out.2]; omega)
          rw [h1, ← ht2l, hun] at h4
          exact (Prod.mk.inj h4).1
        exact ⟨true, decide_eq_true e1, by rw [hvu]; exact beq_self_eq_true _⟩
      · have e1 : ¬ L2 = l := fun e => by
          have h1 := HK.out.2.2.2.2.2.2.2
          have h2 := HK.out.2.2.2.2.2.2.1
          have h3 := hcon.1
          rw [e, ht2l, ← HS.out] at h3
          rw [← h1] at h3
          have h4 : (t.data.toList.set K v)[K]? = some v := List.getElem?_set_self (by rw [Array.length_toList]; exact hKt)
          rw [h3, h2] at h4
          exact hvu (Option.some.inj h4).symm
        exact ⟨false, decide_eq_false e1, beq_eq_false_iff_ne.2 (fun e => hvu (UInt8.toNat_inj.1 (by omega)))⟩
    obtain ⟨q, hq1, hq2⟩ := hq
    have hqq : (q == q) = true := beq_self_eq_true _
    have hsi : ∀ W, (Instr.index 9 (.string t) (.int .i64 (K : Int))).run Tryd.prog W = .ok (.int .u8 (u.toNat : Int)) W := fun W => by
      rw [run_index_string W 9 t .i64 (K : Int) (by kernel_rfl), dif_pos ⟨by omega, by omega⟩]
      have h2 := HK.out.2.2.2.2.2.2.1
      rw [Array.getElem?_toList, Array.getElem?_eq_getElem hKt] at h2
      have h5 : t[K]'hKt = u := Option.some.inj h2
      simp only [Int.toNat_natCast, h5]
    have H7 := Lib.hid (H6.out.1.trans (b7.mono H6.out.1.size))
    have hm7 : (m7 : Int) ≤ 9223372036854775807 := by have h1 : m7 = L2.length := hml7; have := hcon.2; omega
    have q7 := alloc_below w7 (.cells #[.int .i64 4, .int .i64 0, .string t7, .slice A7 m7 c7, .int .i64 0, .int .i64 0] 24)
    obtain ⟨s0, s1, s2, s3, s4, s5⟩ := six (range_newV w7 #[.int .i64 4, .int .i64 0, .string t7, .slice A7 m7 c7, .int .i64 0, .int .i64 0] 24 rfl)
    have hcg : (w7.alloc (.cells #[.int .i64 4, .int .i64 0, .string t7, .slice A7 m7 c7, .int .i64 0, .int .i64 0] 24)).cell? ⟨g, K, none⟩ = some (.int .u8 (v.toNat : Int)) :=
      (q7.cell (p := ⟨g, K, none⟩) (Nat.lt_of_lt_of_le H6.out.2.1 b7.size)).trans ((b7.cell (p := ⟨g, K, none⟩) H6.out.2.1).trans H6.out.2.2)
    have H8 := Lib.hid (H7.out.trans (q7.mono H7.out.size))
    have hS : ∀ n, Calls Tryd.prog 20 #[.slice A7 m7 c7, .slice A m3 c] ((w7.alloc (.cells #[.int .i64 4, .int .i64 0, .string t7, .slice A7 m7 c7, .int .i64 0, .int .i64 0] 24)).drewN n) fun e w'' => e = .returned (.bool q) ∧ ∃ m, w'' = (w7.alloc (.cells #[.int .i64 4, .int .i64 0, .string t7, .slice A7 m7 c7, .int .i64 0, .int .i64 0] 24)).drewN m := fun n => by
      have h := same_any A7 A m7 c7 m3 c L2 l ((w7.alloc (.cells #[.int .i64 4, .int .i64 0, .string t7, .slice A7 m7 c7, .int .i64 0, .int .i64 0] 24)).drewN n) _ _ ((hbs7.below q7).drewN n) ((HB.out.1.below H8.out).drewN n) hm7 (by omega)
      rw [hq1] at h
      refine h.mono ?_
      rintro e w' ⟨rfl, k, rfl⟩
      exact ⟨rfl, n + k, World.drewN_drewN _ _ _⟩
    have HZ := Lib.hid hS
    clear hS q7 hq1 hm7 b7 hbs7 hml7 hmc7 ht7 hr hun hcon ht2 ht2l ht2s hand hrem hvw hqI hq4 hqn
    try dsimp only
    go_wp2_with fail
    go_quiet ((go_at_call 20; exact HZ.out _))
    go_wp2
    go_ret
    exact ⟨rfl, H8.out.trans (drewN_below _ _ _)⟩
  · have hne : (er != 0) = true := bne_iff_ne.2 he
    have hr := read_bytes_e t2 ht2s W6 (by rw [hun]; exact he)
    rw [hun] at hr
    refine hr.mono ?_
    rintro e w7 ⟨t7, A7, m7, c7, rfl, ht7, hmc7, hml7, hbs7, b7⟩
    have H7 := Lib.hid (H6.out.1.trans (b7.mono H6.out.1.size))
    clear hbs7 b7 hmc7 hml7 ht7 hr ht2 ht2l ht2s hun
    try dsimp only
    have q7 := alloc_below w7 (.cells #[.int .i64 0, .int .i64 0, .string t7, .slice A7 m7 c7, .int .i64 0, .int .i64 0] 24)
    have H8 := Lib.hid (H7.out.trans (q7.mono H7.out.size))
    clear q7
    go_wp2_with fail
    go_quiet (fail)
    go_wp2
    go_ret
    exact ⟨rfl, H8.out.trans (drewN_below _ _ _)⟩
end Go.Proofs.YtkacgdhcacclcaaDoor
