/-
  BlockBack: a body that is cut and put together is the same.
-/
import Derived.Test.YtdgihhepmmkkpaaBlkAlive
import Derived.Test.YtdgihhepmmkkpaaBlkPure
namespace Go.Proofs.Ytdgihhepmmkkpaa
open Go.RowKit
set_option maxRecDepth 100000
set_option linter.unusedVariables false
theorem ceil_div {len Z K : Nat} (hZ : 16 ≤ Z) (hK : 0 < K) (h1 : K = 1 ∨ (K - 1) * Z < len) (h2 : len ≤ K * Z) : max 1 ((len + Z - 1) / Z) = K := by
  rcases Nat.eq_zero_or_pos len with h0 | h0
  · subst h0
    have : K = 1 := by
      rcases h1 with h | h
      · exact h
      · omega
    subst this
    rw [Nat.div_eq_of_lt (by omega)]; rfl
  · have hd : (len + Z - 1) / Z = K := by
      have e : K * Z = (K - 1) * Z + Z := by
        obtain ⟨k, rfl⟩ : ∃ k, K = k + 1 := ⟨K - 1, by omega⟩
        rw [Nat.succ_mul, Nat.add_sub_cancel]
      have h3 : (K - 1) * Z < len := by
        rcases h1 with h | h
        · subst h; omega
        · exact h
      apply Nat.le_antisymm
      · rw [Nat.div_le_iff_le_mul (by omega)]; omega
      · rw [Nat.le_div_iff_mul_le (by omega)]; omega
    rw [hd]; omega
theorem put_zero (most : Nat) (l d : List UInt8) (wh m : Bool) (z : Int) : jput most l wh ((0 : Nat) : Int) z m d = jput most [] false 0 z m d := by
  unfold jput
  simp
theorem shl16 (s : Nat) (hs : s < 7) : wrap64 ((16 : Int) * 2 ^ s) = ((16 * 2 ^ s : Nat) : Int) := by
  match s, hs with
  | 0, _ | 1, _ | 2, _ | 3, _ | 4, _ | 5, _ | 6, _ => decide +kernel
set_option maxHeartbeats 16000000 in
theorem bback_law (A : Option Addr) (n c : Nat) (l : List UInt8) (sz out : Int) (w : World) (hb : Bs w w.heap.size A n l) (hc : n ≤ c) (hm : c ≤ maxLen) :
    Calls Try.prog 6 #[.slice A n c, .int .i64 sz, .int .i64 out] w fun e w' => e = .returned (.bool true) ∧ Below w.heap.size w w' := by
  have hcI : (c : Int) ≤ 9223372036854775807 := by simp only [maxLen] at hm; omega
  by_cases hn : (4000 : Int) < n
  · clear hm
    go_enter Try.func6, Try.ntmps6
    go_wp2_with (go_at_call 13; refine (balive_any _).mono ?_; rintro e w1 ⟨rfl, b1⟩)
    go_ret
    exact ⟨rfl, b1⟩
  have hl := hb.len
  obtain ⟨r1, hr1, er1⟩ := and1023 sz
  obtain ⟨r2, hr2, er2⟩ := and1023 out
  obtain ⟨s, hs⟩ : ∃ s, r1 % 7 = s := ⟨_, rfl⟩
  have hs7 : s < 7 := by omega
  have hsI : (r1 : Int).tmod 7 = (s : Int) := by rw [Int.tmod_eq_emod_of_nonneg (by omega)]; omega
  have hsI2 : (r1 : Int) % 7 = (s : Int) := by omega
  obtain ⟨Z, hZ⟩ : ∃ Z, Z = 16 * 2 ^ s := ⟨_, rfl⟩
  have hz := size_right hs7 hZ
  have hr1I : (r1 : Int) < 1024 := by omega
  have hshl := shl16 s hs7
  rw [← hZ] at hshl
  have hZ0 : (16 : Int) ≤ Z := by omega
  have hZ1 : (Z : Int) ≤ 1024 := by omega
  have hcut := fun (i : Int) W (b : Below w.heap.size w W) => bcut_f A n c l W _ (hb.below b) b.size hc hcI (by omega) i (Z : Int)
  have HA := Lib.hid (And.intro hcut (And.intro hs7 (And.intro hZ (And.intro hl (And.intro hr2 (And.intro er2 hb))))))
  have hsI7 : (s : Int) < 7 := by omega
  have hnI : (n : Int) ≤ 4000 := by omega
  clear hcut hl hr2 er2 hb hm hs hs7 hz hr1 hZ
  go_enter Try.func6, Try.ntmps6
  go_wp2_with fail
  refine (balive_any _).mono ?_
  rintro e w1 ⟨rfl, b1⟩
  have H1 := Lib.hid b1
  clear b1
  go_wp2_with fail
  rw [hshl]
  clear hshl hsI hsI2 hsI7 hr1I
  refine (newJoin_f (n : Int) w1).mono ?_
  rintro e w2 ⟨rfl, j2, b2, s2⟩
  have hmn : mostN (n : Int) = n := by unfold mostN; omega
  rw [hmn] at j2
  have H2 := Lib.hid (And.intro j2 (And.intro (H1.out.trans (b2.mono H1.out.size)) (show w.heap.size ≤ w1.heap.size from H1.out.size)))
  obtain ⟨jb, hjb⟩ : ∃ jb, w1.heap.size = jb := ⟨_, rfl⟩
  rw [hjb] at H2
  rw [hjb]
  clear j2 b2 s2 hmn hjb H1 er1
  try dsimp only
  go_wp2_with fail
  go_loopw [8] (fun i wr => ∃ (k T : Nat) (v : Value), i = .int .i64 (k : Int) ∧ k ≤ 250 ∧ Aside (k * Z = T ∧ T ≤ n ∧ (k = 0 ∨ T < n) ∧ JnAt wr jb n v (l.take T) false ∧ Below w.heap.size w wr)) (fun i _ => 1000 - (intOf i).toNat)
  case atStart => exact ⟨0, 0, _, rfl, by omega, by omega, by omega, .inl rfl, H2.out.1, H2.out.2.1⟩
  case round =>
    obtain ⟨k, T, v, rfl, hk, hrel⟩ := hrel
    have hkI : (k : Int) ≤ 250 := by omega
    have hci := cut_in (l := l) HA.out.2.1 HA.out.2.2.1 (show k ≤ 1048575 by omega) hrel.out.1 (by have := hrel.out.2.2.1; rw [HA.out.2.2.2.1]; exact this)
    rw [HA.out.2.2.2.1] at hci
    have hpi := put_in (l := l) (most := n) HA.out.2.1 HA.out.2.2.1 (show k ≤ 1048575 by omega) hrel.out.1 (by have := hrel.out.2.2.1; rw [HA.out.2.2.2.1]; exact this) (by rw [HA.out.2.2.2.1]; exact Nat.le_refl _)
    rw [HA.out.2.2.2.1] at hpi
    have hlk : ((l.drop T).take Z).length ≤ 4000 := by rw [List.length_take, List.length_drop, HA.out.2.2.2.1]; omega
    have hbr := blk_round (decide (T + Z < n)) HA.out.2.1 HA.out.2.2.1 (show k ≤ 1048575 by omega)
    obtain ⟨X, hX⟩ : ∃ X, (l.drop T).take Z = X := ⟨_, rfl⟩
    rw [hX] at hci hpi hlk
    have hct := HA.out.1 (k : Int) wr hrel.out.2.2.2.2
    rw [hci] at hct
    obtain ⟨⟨V, ve⟩, hV⟩ : ∃ V, blkW (k : Int) (Z : Int) (decide (T + Z < n)) = V := ⟨_, rfl⟩
    have hwr := fun W => bwrite_f (k : Int) (Z : Int) (decide (T + Z < n)) W
    rw [hV] at hbr hwr
    obtain ⟨hv0, hvR, hvl⟩ := hbr
    dsimp only at hv0 hvR hvl
    subst hv0
    have hmore : (T + Z < n) ∨ ¬ (T + Z < n) := by omega
    have HB := Lib.hid (And.intro hct (And.intro hpi (And.intro hlk (And.intro hvR (And.intro hvl (And.intro hwr hX))))))
    clear hct hpi hlk hvR hvl hwr hX hci hV
    obtain ⟨mr, hmr⟩ : ∃ mr, decide (T + Z < n) = mr := ⟨_, rfl⟩
    rw [hmr] at HB
    have HMR := Lib.hid hmr
    clear hmr hmore
    go_wp2_with fail
    refine HB.out.1.mono ?_
    rintro e w3 ⟨xA, xn, xc, rfl, hxc, hxn, hxb, b3⟩
    have H3 := Lib.hid (And.intro hxb (And.intro hxn (And.intro (hrel.out.2.2.2.1.below b3) (hrel.out.2.2.2.2.trans (b3.mono hrel.out.2.2.2.2.size)))))
    clear hxc hxn hxb b3
    try dsimp only
    go_wp2_with fail
    refine (HB.out.2.2.2.2.2.1 w3).mono ?_
    rintro e w4 ⟨vA, vn, vc, rfl, hvc, hvn, hvb, b4⟩
    have H4 := Lib.hid (And.intro hvb (And.intro ((H3.out.1.below b4).more b4.size) (And.intro (H3.out.2.2.1.below b4) (H3.out.2.2.2.trans (b4.mono H3.out.2.2.2.size)))))
    have HVN := Lib.hid hvn.out
    clear hvc hvn hvb b4
    try dsimp only
    go_wp2_with fail
    have hrd := bread_f vA vn vc V w4 _ H4.out.1 (Nat.le_refl _)
    rw [HB.out.2.2.2.1] at hrd
    refine hrd.mono ?_
    rintro e w5 ⟨rfl, b5⟩
    have H5 := Lib.hid (And.intro ((H4.out.2.1.below b5).more b5.size) (And.intro (H4.out.2.2.1.below b5) (H4.out.2.2.2.trans (b5.mono H4.out.2.2.2.size))))
    clear hrd b5
    try dsimp only
    have r5 := range_box w5 #[.int .i64 (k : Int), .bool mr, .int .i64 (Z : Int)] 37 rfl
    go_wp2_with (refine wpList_load_mid rfl 37 (.tmp 14) rfl w5.heap.size 0 rfl [.int .i64 (k : Int), .bool mr, .int .i64 (Z : Int)] _ r5 Try.underlying37 rfl size_blk ?_)
    clear r5
    refine calls_at_world (F := fun W => Below w5.heap.size w5 W) (alloc_below w5 _) fun W5 p5 => ?_
    have H6 := Lib.hid (And.intro ((H5.out.1.below p5).more p5.size) (And.intro (H5.out.2.1.below p5) (H5.out.2.2.trans (p5.mono H5.out.2.2.size))))
    clear p5
    have hpt := jput_f jb n v (l.take T) false W5 H6.out.2.1 (k : Int) (Z : Int) mr xA xn xc X H6.out.1 (by have := H3.out.2.1.out; have h2 := HB.out.2.2.1; (try dsimp only at this); omega)
    rw [HB.out.2.1] at hpt
    refine hpt.mono ?_
    rintro e w6 ⟨v6, rfl, j6, k6, o6⟩
    have q6 : Below w.heap.size W5 w6 := k6.toBelow H6.out.2.2.size (by have := H2.out.2.2; omega) (fun g e => by have := own_ge H6.out.2.1.row g e; have := H2.out.2.2; omega)
    have H7 := Lib.hid (And.intro j6 (H6.out.2.2.trans q6))
    clear hpt j6 k6 o6 q6
    try dsimp only
    cases mr with
    | true =>
      have hTn := of_decide_eq_true HMR.out
      go_wp2
      go_roundw
      case rel =>
        refine ⟨k + 1, T + Z, v6, by first | rfl | go_num, by have := hrel.out.1; have : 16 * k ≤ k * Z := (by rw [Nat.mul_comm]; exact Nat.mul_le_mul_left k (by omega)); omega, by rw [Nat.succ_mul, hrel.out.1], by omega, .inr hTn, H7.out.1, H7.out.2⟩
      case measure => simp [intOf]; omega
    | false =>
      have hTn := of_decide_eq_false HMR.out
      obtain ⟨K, hK⟩ : ∃ K, k + 1 = K := ⟨_, rfl⟩
      have hKI : (k : Int) + 1 = (K : Int) := by omega
      have hKZ : K * Z = T + Z := by rw [← hK, Nat.succ_mul, hrel.out.1]
      have hKm : K ≤ 251 := by omega
      have hTT := hrel.out.2.2.1
      have hTk := hrel.out.1
      have htk : l.take (T + Z) = l := List.take_of_length_le (by rw [HA.out.2.2.2.1]; omega)
      rw [htk] at H7
      have hco := cut_out (l := l) HA.out.2.1 HA.out.2.2.1 (show K ≤ 1048575 by omega) hKZ (by omega) (by rw [HA.out.2.2.2.1]; omega)
      have hct := HA.out.1 (K : Int) w6 H7.out.2
      rw [hco] at hct
      have hin : ∀ i : Nat, i < K → i = 0 ∨ i * Z < n := fun i hi => by
        rcases hTT with h | h
        · exact .inl (by omega)
        · have h2 : i * Z ≤ k * Z := Nat.mul_le_mul_right Z (by omega)
          exact .inr (by omega)
      have hlast : ∀ i : Nat, i + 1 < K → (i + 1) * Z < n := fun i hi => by
        rcases hin (i + 1) hi with h | h
        · omega
        · exact h
      have hdiv := ceil_div (len := n) (Z := Z) (K := K) (by omega) (by omega) (by
        rcases hTT with h | h
        · exact .inl (by omega)
        · exact .inr (by rw [← hK, Nat.add_sub_cancel, hTk]; exact h)) (by omega)
      obtain ⟨D, hD⟩ : ∃ D, (n + Z - 1) / Z = D := ⟨_, rfl⟩
      rw [hD] at hdiv
      obtain ⟨S1, hS1⟩ : ∃ S1 : Nat, (n : Int) + (Z : Int) = (S1 : Int) := ⟨n + Z, by omega⟩
      obtain ⟨S2, hS2⟩ : ∃ S2 : Nat, (S1 : Int) - 1 = (S2 : Int) := ⟨S1 - 1, by omega⟩
      have hS2n : S2 = n + Z - 1 := by omega
      have hd1 : (S2 : Int) / (Z : Int) = (D : Int) := by rw [hS2n, ← hD]; rfl
      have hd2 : (S2 : Int).tdiv (Z : Int) = (D : Int) := by rw [Int.tdiv_eq_ediv_of_nonneg (by omega)]; exact hd1
      have hmx : max (1 : Int) (D : Int) = (K : Int) := by omega
      obtain ⟨ou, hou⟩ : ∃ ou, r2 % K = ou := ⟨_, rfl⟩
      have hoK : ou < K := by rw [← hou]; exact Nat.mod_lt _ (by omega)
      have ho1 : (r2 : Int) % (K : Int) = (ou : Int) := by rw [← hou]; rfl
      have ho2 : (r2 : Int).tmod (K : Int) = (ou : Int) := by rw [Int.tmod_eq_emod_of_nonneg (by omega)]; exact ho1
      have hKK : ((K : Int) != (K : Int)) = false := by simp
      have HD := Lib.hid (And.intro hct (And.intro hin (And.intro hlast (And.intro hoK (And.intro hd1 (And.intro hd2 (And.intro ho1 (And.intro ho2 hKm))))))))
      have hK1 : (1 : Int) ≤ K := by omega
      have hKmI : (K : Int) ≤ 251 := by omega
      have hS1m : (S1 : Int) ≤ 5024 := by omega
      have hS2m : (S2 : Int) ≤ 5024 := by omega
      have hDm : (D : Int) ≤ 251 := by omega
      have hr2I : (r2 : Int) < 1024 := by have := HA.out.2.2.2.2.1; omega
      have H0 := Lib.hid (And.intro hmx (And.intro hS1 hS2))
      clear hTn hK hKZ hTT hTk htk hco hct hin hlast hdiv hD hS2n hd1 hd2 hou ho1 ho2 hmx hS1 hS2 hrel HMR HB hoK hKm
      go_wp2_with fail
      try rw [hKI]
      clear hKI
      refine HD.out.1.mono ?_
      rintro e w7 ⟨yA, yn, yc, rfl, hyc, hyn, hyb, b7⟩
      have H8 := Lib.hid (And.intro (H7.out.1.below b7) (H7.out.2.trans (b7.mono H7.out.2.size)))
      clear hyc hyn hyb b7
      try dsimp only
      go_wp2_with fail
      refine (jbytes_f jb n v6 l true w7 H8.out.1).mono ?_
      intro e w8 h8
      obtain ⟨A8, n8, c8, rfl, hc8, hn8, hb8, b8⟩ := h8.slice_
      obtain rfl : n8 = n := hn8.out.trans HA.out.2.2.2.1
      have H9 := Lib.hid (And.intro hb8 (H8.out.2.trans (b8.mono H8.out.2.size)))
      clear h8 hn8 hb8 b8 hc8
      try dsimp only
      go_wp2_with fail
      have hsa := same_any A8 A n8 c8 n8 c l l w8 _ _ H9.out.1 (HA.out.2.2.2.2.2.2.below H9.out.2) (by omega) (by omega)
      rw [decide_eq_true rfl] at hsa
      refine hsa.mono ?_
      rintro e w9 ⟨rfl, m9, hw9⟩
      have b9 : Below w8.heap.size w8 w9 := hw9 ▸ drewN_below _ _ m9
      have H10 := Lib.hid (H9.out.2.trans (b9.mono H9.out.2.size))
      clear hsa hw9 b9
      try dsimp only
      have hmx := H0.out.1
      have hS1 := H0.out.2.1
      have hS2 := H0.out.2.2
      have hd1 := HD.out.2.2.2.2.1
      have hd2 := HD.out.2.2.2.2.2.1
      go_wp2_with fail
      clear hmx hS1 hS2 hd1 hd2
      refine (newJoin_f (n8 : Int) w9).mono ?_
      rintro e w10 ⟨rfl, j10, b10, s10⟩
      have hmn : mostN (n8 : Int) = n8 := by unfold mostN; omega
      rw [hmn] at j10
      have H11 := Lib.hid (And.intro j10 (And.intro (H10.out.trans (b10.mono H10.out.size)) (show w.heap.size ≤ w9.heap.size from H10.out.size)))
      obtain ⟨jc, hjc⟩ : ∃ jc, w9.heap.size = jc := ⟨_, rfl⟩
      rw [hjc] at H11
      rw [hjc]
      clear j10 b10 s10 hmn hjc H10
      try dsimp only
      have er2 := HA.out.2.2.2.2.2.1
      have ho1 := HD.out.2.2.2.2.2.2.1
      have ho2 := HD.out.2.2.2.2.2.2.2.1
      go_wp2_with fail
      clear er2 ho1 ho2
      go_loopw [22] (fun x wr => ∃ (i : Nat) (v : Value) (wh : Bool), x = .int .i64 (i : Int) ∧ i ≤ ou + 1 ∧ Aside ((i < K → wh = false) ∧ JnAt wr jc n8 v (l.take (i * Z)) wh ∧ Below w.heap.size w wr)) (fun x _ => 1000 - (intOf x).toNat)
      case atStart => exact ⟨0, _, false, rfl, by omega, fun _ => rfl, by rw [Nat.zero_mul]; exact H11.out.1, H11.out.2.1⟩
      case round =>
        obtain ⟨i, v, wh, rfl, hi, hrel⟩ := hrel
        have hoK := HD.out.2.2.2.1
        have hKm := HD.out.2.2.2.2.2.2.2.2
        by_cases hio : i ≤ ou
        · obtain rfl := hrel.out.1 (by omega)
          obtain ⟨Ti, hTi⟩ : ∃ Ti, i * Z = Ti := ⟨_, rfl⟩
          have hin := HD.out.2.1 i (by omega)
          rw [hTi] at hin
          have hci := cut_in (l := l) HA.out.2.1 HA.out.2.2.1 (show i ≤ 1048575 by omega) hTi (by rw [HA.out.2.2.2.1]; exact hin)
          rw [HA.out.2.2.2.1] at hci
          have hpi := put_in (l := l) (most := n8) HA.out.2.1 HA.out.2.2.1 (show i ≤ 1048575 by omega) hTi (by rw [HA.out.2.2.2.1]; exact hin) (by rw [HA.out.2.2.2.1]; exact Nat.le_refl _)
          rw [HA.out.2.2.2.1] at hpi
          have hlk : ((l.drop Ti).take Z).length ≤ 4000 := by rw [List.length_take, List.length_drop, HA.out.2.2.2.1]; omega
          obtain ⟨X, hX⟩ : ∃ X, (l.drop Ti).take Z = X := ⟨_, rfl⟩
          rw [hX] at hci hpi hlk
          have hct := HA.out.1 (i : Int) wr hrel.out.2.2
          rw [hci] at hct
          have hmr : i + 1 < K → decide (Ti + Z < n8) = true := fun e => decide_eq_true (by have := HD.out.2.2.1 i e; rw [Nat.succ_mul, hTi] at this; exact this)
          obtain ⟨mr, hmre⟩ : ∃ mr, decide (Ti + Z < n8) = mr := ⟨_, rfl⟩
          rw [hmre] at hct hpi hmr
          have hjw := hrel.out.2.1
          rw [hTi] at hjw
          have HB := Lib.hid (And.intro hct (And.intro hpi (And.intro hlk (And.intro hmr (And.intro hTi (And.intro hjw hrel.out.2.2))))))
          have gio : (i : Int) ≤ ou := by omega
          have giK : (i : Int) ≤ 251 := by omega
          clear hct hpi hlk hmr hX hci hmre hjw hrel hTi hin hoK hKm
          go_wp2_with fail
          refine HB.out.1.mono ?_
          rintro e w11 ⟨xA, xn, xc, rfl, hxc, hxn, hxb, b11⟩
          have H12 := Lib.hid (And.intro hxb (And.intro hxn (And.intro (HB.out.2.2.2.2.2.1.below b11) (HB.out.2.2.2.2.2.2.trans (b11.mono HB.out.2.2.2.2.2.2.size)))))
          clear hxc hxn hxb b11
          try dsimp only
          go_wp2_with fail
          have hpt := jput_f jc n8 v (l.take Ti) false w11 H12.out.2.2.1 (i : Int) (Z : Int) mr xA xn xc X H12.out.1 (by have := H12.out.2.1.out; have h2 := HB.out.2.2.1; (try dsimp only at this); omega)
          rw [HB.out.2.1] at hpt
          refine hpt.mono ?_
          rintro e w12 ⟨v12, rfl, j12, k12, o12⟩
          have q12 : Below w.heap.size w11 w12 := k12.toBelow H12.out.2.2.2.size (by have := H11.out.2.2; omega) (fun g e => by have := own_ge H12.out.2.2.1.row g e; have := H11.out.2.2; omega)
          have H13 := Lib.hid (And.intro j12 (H12.out.2.2.2.trans q12))
          clear hpt j12 k12 o12 q12
          try dsimp only
          go_wp2
          go_roundw
          case rel =>
            refine ⟨i + 1, v12, !mr, by first | rfl | go_num, by omega, fun e => by rw [HB.out.2.2.2.1 e]; rfl, ?_, H13.out.2⟩
            rw [Nat.succ_mul, HB.out.2.2.2.2.1]
            exact H13.out.1
          case measure => simp [intOf]; omega
        · obtain rfl : i = ou + 1 := by omega
          obtain ⟨To, hTo⟩ : ∃ To, ou * Z = To := ⟨_, rfl⟩
          have hin := HD.out.2.1 ou hoK
          rw [hTo] at hin
          have hci := cut_in (l := l) HA.out.2.1 HA.out.2.2.1 (show ou ≤ 1048575 by omega) hTo (by rw [HA.out.2.2.2.1]; exact hin)
          rw [HA.out.2.2.2.1] at hci
          have hlk : ((l.drop To).take Z).length ≤ 4000 := by rw [List.length_take, List.length_drop, HA.out.2.2.2.1]; omega
          have hjw := hrel.out.2.1
          rw [Nat.succ_mul, hTo] at hjw
          have hput : (ou = 0 ∧ ∃ R, jput n8 (l.take (To + Z)) wh (ou : Int) (Z : Int) (decide (To + Z < n8)) ((l.drop To).take Z) = (R, !decide (To + Z < n8), 0)) ∨ (0 < ou ∧ jput n8 (l.take (To + Z)) wh (ou : Int) (Z : Int) (decide (To + Z < n8)) ((l.drop To).take Z) = (([], false), false, 4)) := by
            by_cases e : ou = 0
            · subst e
              have hT0 : To = 0 := by omega
              subst hT0
              have hpi := put_in (l := l) (most := n8) (i := 0) HA.out.2.1 HA.out.2.2.1 (by omega) hTo (.inl rfl) (by rw [HA.out.2.2.2.1]; exact Nat.le_refl _)
              rw [HA.out.2.2.2.1] at hpi
              exact .inl ⟨rfl, _, (put_zero _ _ _ _ _ _).trans ((put_zero _ _ _ _ _ _).symm.trans hpi)⟩
            · refine .inr ⟨by omega, put_again HA.out.2.1 HA.out.2.2.1 (by omega) hTo (by omega) ?_⟩
              rw [List.length_take, HA.out.2.2.2.1]
              omega
          obtain ⟨X, hX⟩ : ∃ X, (l.drop To).take Z = X := ⟨_, rfl⟩
          rw [hX] at hci hlk hput
          have hct := HA.out.1 (ou : Int) wr hrel.out.2.2
          rw [hci] at hct
          obtain ⟨mr, hmre⟩ : ∃ mr, decide (To + Z < n8) = mr := ⟨_, rfl⟩
          rw [hmre] at hct hput
          have HB := Lib.hid (And.intro hct (And.intro hlk (And.intro hjw hrel.out.2.2)))
          have gio : ¬ ((ou : Int) + 1 ≤ ou) := by omega
          have gio2 : ¬ (((ou + 1 : Nat) : Int) ≤ ou) := by omega
          have giK : (ou : Int) ≤ 251 := by omega
          have HP := Lib.hid hput
          clear hct hlk hX hci hmre hjw hrel hTo hin hoK hKm hput
          go_wp2_with fail
          refine HB.out.1.mono ?_
          rintro e w11 ⟨xA, xn, xc, rfl, hxc, hxn, hxb, b11⟩
          have H12 := Lib.hid (And.intro hxb (And.intro hxn (And.intro (HB.out.2.2.1.below b11) (HB.out.2.2.2.trans (b11.mono HB.out.2.2.2.size)))))
          clear hxc hxn hxb b11
          try dsimp only
          go_wp2_with fail
          have hpt := jput_f jc n8 v (l.take (To + Z)) wh w11 H12.out.2.2.1 (ou : Int) (Z : Int) mr xA xn xc X H12.out.1 (by have := H12.out.2.1.out; have h2 := HB.out.2.1; (try dsimp only at this); omega)
          rcases HP.out with ⟨h0, R, hR⟩ | ⟨h0, hR⟩
          · subst h0
            rw [hR] at hpt
            refine hpt.mono ?_
            rintro e w12 ⟨v12, rfl, j12, k12, o12⟩
            have q12 : Below w.heap.size w11 w12 := k12.toBelow H12.out.2.2.2.size (by have := H11.out.2.2; omega) (fun g e => by have := own_ge H12.out.2.2.1.row g e; have := H11.out.2.2; omega)
            have H13 := Lib.hid (H12.out.2.2.2.trans q12)
            clear hpt j12 k12 o12 q12 hR
            try dsimp only
            go_wp2
            go_ret
            exact ⟨rfl, H13.out⟩
          · rw [hR] at hpt
            refine hpt.mono ?_
            rintro e w12 ⟨v12, rfl, j12, k12, o12⟩
            have q12 : Below w.heap.size w11 w12 := k12.toBelow H12.out.2.2.2.size (by have := H11.out.2.2; omega) (fun g e => by have := own_ge H12.out.2.2.1.row g e; have := H11.out.2.2; omega)
            have H13 := Lib.hid (And.intro (H12.out.2.2.2.trans q12) (jgot_f jc n8 v12 _ _ w12 j12))
            have g1 : (0 : Int) < ou := by omega
            have g2 : ((ou : Int) == 0) = false := beq_eq_false_iff_ne.2 (by omega)
            clear hpt j12 k12 o12 q12 hR h0
            try dsimp only
            go_wp2_with (go_at_call 26; refine H13.out.2.mono ?_; rintro e w13 ⟨rfl, hw⟩; obtain rfl := hw.symm)
            go_ret
            exact ⟨rfl, H13.out.1⟩
end Go.Proofs.Ytdgihhepmmkkpaa
