/-
  WholeBlocks: a body that is sent in blocks, each a message's, is put together as it was.
-/
import Derived.Test.YtfbddldcbjhmiaaWbSound
import Derived.Test.YtfbddldcbjhmiaaBlkPure
namespace Go.Proofs.Ytfbddldcbjhmiaa
open Go.RowKit
set_option maxRecDepth 100000
set_option linter.unusedVariables false
theorem shl16 (s : Nat) (hs : s < 7) : wrap64 ((16 : Int) * 2 ^ s) = ((16 * 2 ^ s : Nat) : Int) := by
  match s, hs with
  | 0, _ | 1, _ | 2, _ | 3, _ | 4, _ | 5, _ | 6, _ => decide +kernel
theorem wrP_le (ps : List (Int × List UInt8)) : (wrP ps).1.length ≤ 7320 := wrP_len ps
theorem mwr_len (kd cd id : Int) (tok : List UInt8) (ps : List (Int × List UInt8)) (body : List UInt8) : (mwr kd cd id tok ps body).1.length ≤ 9000 := by
  unfold mwr
  split
  · exact Nat.zero_le _
  · split
    · exact Nat.zero_le _
    · rename_i h2
      split
      · exact Nat.zero_le _
      · have := wrP_le ps
        simp only [List.length_append, mwHd, List.length_cons, List.length_nil]
        split
        · simp only [List.length_nil]; omega
        · simp only [List.length_cons]; omega
set_option maxHeartbeats 16000000 in
theorem wblocks_law (A : Option Addr) (n c : Nat) (l : List UInt8) (sz : Int) (tA : Option Addr) (tn tc : Nat) (tok : List UInt8) (w : World) (hb : Bs w w.heap.size A n l) (hc : n ≤ c) (hm : c ≤ maxLen) (ht : Bs w w.heap.size tA tn tok) :
    Calls Try.prog 3 #[.slice A n c, .int .i64 sz, .slice tA tn tc] w fun e w' => e = .returned (.bool true) ∧ Below w.heap.size w w' := by
  have hcI : (c : Int) ≤ 9223372036854775807 := by simp only [maxLen] at hm; omega
  have hml : (1 : Nat) ≤ maxLen := by simp only [maxLen]; omega
  by_cases hn : (3000 : Int) < n
  · clear hm
    go_enter Try.func3, Try.ntmps3
    go_wp2_with (go_at_call 5; refine (sound_any _).mono ?_; rintro e w1 ⟨rfl, b1⟩)
    go_ret
    exact ⟨rfl, b1⟩
  by_cases hn8 : (8 : Int) < tn
  · clear hm
    go_enter Try.func3, Try.ntmps3
    go_wp2_with (go_at_call 5; refine (sound_any _).mono ?_; rintro e w1 ⟨rfl, b1⟩)
    go_ret
    exact ⟨rfl, b1⟩
  have hl := hb.len
  have htl := ht.len
  obtain ⟨r1, hr1, er1⟩ := and1023 sz
  obtain ⟨s, hs⟩ : ∃ s, r1 % 7 = s := ⟨_, rfl⟩
  have hs7 : s < 7 := by omega
  have hsI : (r1 : Int).tmod 7 = (s : Int) := by rw [Int.tmod_eq_emod_of_nonneg (by omega)]; omega
  have hsI2 : (r1 : Int) % 7 = (s : Int) := by omega
  obtain ⟨Z, hZ⟩ : ∃ Z, Z = 16 * 2 ^ s := ⟨_, rfl⟩
  have hz := size_right hs7 hZ
  have hr1I : (r1 : Int) < 1024 := by omega
  have hshl := shl16 s hs7
  rw [← hZ] at hshl
  have hZ0 : (16 : Int) ≤ Z := by omega
  have hZ1 : (Z : Int) ≤ 1024 := by omega
  have hcut := fun (i : Int) W (b : Below w.heap.size w W) => bcut_f A n c l W _ (hb.below b) b.size hc hcI (by omega) i (Z : Int)
  have HA := Lib.hid (And.intro hcut (And.intro hs7 (And.intro hZ (And.intro hl (And.intro ht (And.intro htl hb))))))
  have hsI7 : (s : Int) < 7 := by omega
  have kc := fun (w : World) (C : Array Value) (n c : Nat) => Lib.run_convert_bytes_const (P := Try.prog) w 22 5 C n c Try.underlying22 Try.underlying5
  have hnI : (n : Int) ≤ 3000 := by omega
  have htI : (tn : Int) ≤ 8 := by omega
  clear hcut hl hb hm hs hs7 hz hr1 hZ ht htl
  go_enter Try.func3, Try.ntmps3
  go_wp2_with fail
  refine (sound_any _).mono ?_
  rintro e w1 ⟨rfl, b1⟩
  have H1 := Lib.hid b1
  clear b1
  go_wp2_with fail
  rw [hshl]
  clear hshl hsI hsI2 hsI7 hr1I
  refine (newJoin_f (n : Int) w1).mono ?_
  rintro e w2 ⟨rfl, j2, b2, s2⟩
  have hmn : mostN (n : Int) = n := by unfold mostN; omega
  rw [hmn] at j2
  have H2 := Lib.hid (And.intro j2 (And.intro (H1.out.trans (b2.mono H1.out.size)) (show w.heap.size ≤ w1.heap.size from H1.out.size)))
  obtain ⟨jb, hjb⟩ : ∃ jb, w1.heap.size = jb := ⟨_, rfl⟩
  rw [hjb] at H2
  rw [hjb]
  clear j2 b2 s2 hmn hjb H1 er1
  try dsimp only
  go_wp2_with fail
  go_loopw [9] (fun i wr => ∃ (k T : Nat) (v : Value), i = .int .i64 (k : Int) ∧ k ≤ 250 ∧ Aside (k * Z = T ∧ T ≤ n ∧ (k = 0 ∨ T < n) ∧ JnAt wr jb n v (l.take T) false ∧ Below w.heap.size w wr)) (fun i _ => 1000 - (intOf i).toNat)
  case atStart => exact ⟨0, 0, _, rfl, by omega, by omega, by omega, .inl rfl, H2.out.1, H2.out.2.1⟩
  case round =>
    obtain ⟨k, T, v, rfl, hk, hrel⟩ := hrel
    have hkI : (k : Int) ≤ 250 := by omega
    have hci := cut_in (l := l) HA.out.2.1 HA.out.2.2.1 (show k ≤ 1048575 by omega) hrel.out.1 (by have := hrel.out.2.2.1; rw [HA.out.2.2.2.1]; exact this)
    rw [HA.out.2.2.2.1] at hci
    have hpi := put_in (l := l) (most := n) HA.out.2.1 HA.out.2.2.1 (show k ≤ 1048575 by omega) hrel.out.1 (by have := hrel.out.2.2.1; rw [HA.out.2.2.2.1]; exact this) (by rw [HA.out.2.2.2.1]; exact Nat.le_refl _)
    rw [HA.out.2.2.2.1] at hpi
    have hlk : ((l.drop T).take Z).length ≤ 1024 := by rw [List.length_take]; omega
    have hbr := blk_round (decide (T + Z < n)) HA.out.2.1 HA.out.2.2.1 (show k ≤ 1048575 by omega)
    obtain ⟨X, hX⟩ : ∃ X, (l.drop T).take Z = X := ⟨_, rfl⟩
    rw [hX] at hci hpi hlk
    have hct := HA.out.1 (k : Int) wr hrel.out.2.2.2.2
    rw [hci] at hct
    obtain ⟨⟨V, ve⟩, hV⟩ : ∃ V, blkW (k : Int) (Z : Int) (decide (T + Z < n)) = V := ⟨_, rfl⟩
    have hwr := fun W => bwritec_f (k : Int) (Z : Int) (decide (T + Z < n)) W
    rw [hV] at hbr hwr
    obtain ⟨hv0, hvR, hvl⟩ := hbr
    dsimp only at hv0 hvR hvl
    subst hv0
    have hto : tok.length ≤ 8 := by have := HA.out.2.2.2.2.2.1; omega
    obtain ⟨L, hL, hrdM⟩ := wb_read (k := k) (tok := tok) (V := V) (X := X) (by omega) hto (by omega) (by omega)
    have hLl := mwr_len 0 3 (k : Int) tok [(11, [53]), (27, V)] X
    rw [hL] at hLl
    have HB := Lib.hid (And.intro hct (And.intro hpi (And.intro hlk (And.intro hvR (And.intro hvl (And.intro hwr (And.intro hL (And.intro hrdM hLl))))))))
    clear hct hpi hlk hvR hvl hwr hX hci hV hL hrdM hLl hto
    obtain ⟨mr, hmr⟩ : ∃ mr, decide (T + Z < n) = mr := ⟨_, rfl⟩
    rw [hmr] at HB
    have HMR := Lib.hid hmr
    clear hmr
    go_wp2_with fail
    refine HB.out.1.mono ?_
    rintro e w3 ⟨xA, xn, xc, rfl, hxc, hxn, hxb, b3⟩
    have H3 := Lib.hid (And.intro hxb (And.intro hxn (And.intro (hrel.out.2.2.2.1.below b3) (hrel.out.2.2.2.2.trans (b3.mono hrel.out.2.2.2.2.size)))))
    clear hxc hxn hxb b3
    try dsimp only
    go_wp2_with fail
    refine (HB.out.2.2.2.2.2.1 w3).mono ?_
    rintro e w4 ⟨vA, vn, vc, rfl, hvc, hvn, hvb, b4⟩
    have H4 := Lib.hid (And.intro hvb (And.intro hvc (And.intro (show vn = V.length from hvn.out) (And.intro ((H3.out.1.below b4).more b4.size) (And.intro (H3.out.2.2.1.below b4) (H3.out.2.2.2.trans (b4.mono H3.out.2.2.2.size)))))))
    clear hvc hvn hvb b4
    try dsimp only
    go_wp2_with fail
    refine calls_at_world (F := fun W => Below w4.heap.size w4 W ∧ Os W W.heap.size (some ⟨w4.heap.size + 1, 0, none⟩) 1 [⟨11, some ⟨w4.heap.size, 0, none⟩, 1, 1⟩] [(11, [53])]) ?hW4 fun W4 ⟨p4, o4⟩ => ?_
    case hW4 =>
      refine ⟨(alloc_below w4 _).alloc (by rw [alloc_size]; omega) _, ?_⟩
      have ho := os_one (w4.alloc (.cells #[.int .u8 53] 5 (1, 2))) 36 (0, 0) ⟨11, some ⟨w4.heap.size, 0, none⟩, 1, 1⟩ [53] _ (Bs.lit_ w4 5 #[.int .u8 53] (1, 2) [53] rfl) ⟨Nat.le_refl _, hml⟩ (by rw [alloc_size]; exact Nat.le_refl _)
      rw [alloc_size] at ho
      exact ho.more (by rw [alloc_size, alloc_size]; exact Nat.le_refl _)
    have had := add_f 27 vA vn vc V (some ⟨w4.heap.size + 1, 0, none⟩) 1 1 _ _ W4 _ o4 (Nat.le_refl _) (Nat.le_refl _) hml (by omega) (fun x hx => by obtain rfl := List.mem_singleton.1 hx; simp) ((H4.out.1.below p4).more p4.size) H4.out.2.1.1 H4.out.2.1.2 (by have := H4.out.2.2.1; have := HB.out.2.2.2.2.1; omega)
    rw [wb_add] at had
    have P4 := Lib.hid p4
    clear p4 o4
    refine had.mono ?_
    rintro e w5 ⟨oA, on, oc, ous, rfl, hoc, hon, hos, b5⟩
    obtain rfl : on = 2 := hon.out
    have q5 : Below w4.heap.size w4 w5 := P4.out.trans (b5.mono P4.out.size)
    have H5 := Lib.hid (And.intro hos (And.intro ((H4.out.2.2.2.1.below q5).more q5.size) (And.intro (H4.out.2.2.2.2.1.below q5) (H4.out.2.2.2.2.2.trans (q5.mono H4.out.2.2.2.2.2.size)))))
    clear had hoc hon hos b5 q5 P4
    try dsimp only
    have r5 := range_box w5 #[.int .i64 0, .int .i64 3, .int .i64 (k : Int), .slice tA tn tc, .slice oA 2 oc, .slice xA xn xc] 38 rfl
    go_wp2_with (refine wpList_load_mid rfl 38 (.tmp 15) rfl w5.heap.size 0 rfl [.int .i64 0, .int .i64 3, .int .i64 (k : Int), .slice tA tn tc, .slice oA 2 oc, .slice xA xn xc] _ r5 Try.underlying38 rfl size_msg ?_)
    have P5 := Lib.hid (alloc_below w5 (.cells #[.int .i64 0, .int .i64 3, .int .i64 (k : Int), .slice tA tn tc, .slice oA 2 oc, .slice xA xn xc] 38))
    clear r5
    refine calls_at_world (F := fun W => Below w5.heap.size w5 W) P5.out fun W5 p5 => ?_
    have B5 := H5.out.2.2.2.trans (p5.mono H5.out.2.2.2.size)
    have hwm := mwrite_f 0 3 (k : Int) tA tn tc oA 2 oc xA xn xc _ tok [(11, [53]), (27, V)] X W5 ⟨(HA.out.2.2.2.2.1.below B5).more B5.size, (H5.out.1.below p5).more p5.size, (H5.out.2.1.below p5).more p5.size⟩ (by omega) (by omega) (by have := H3.out.2.1.out; have := HB.out.2.2.1; omega)
    rw [HB.out.2.2.2.2.2.2.1] at hwm
    have H6 := Lib.hid (And.intro (H5.out.2.2.1.below p5) B5)
    clear p5 B5 P5
    refine hwm.mono ?_
    rintro e w6 ⟨A6, n6, c6, rfl, ⟨hc6, hm6⟩, hn6, hb6, b6⟩
    have hrd := mread_f A6 n6 c6 L w6 _ hb6 (Nat.le_refl _) hc6 (by simp only [maxLen] at hm6; omega) (by have h1 := hn6.out; have h2 := HB.out.2.2.2.2.2.2.2.2; dsimp only at h1 h2; omega)
    rw [HB.out.2.2.2.2.2.2.2.1] at hrd
    have H7 := Lib.hid (And.intro hrd (And.intro (H6.out.1.below b6) (H6.out.2.trans (b6.mono H6.out.2.size))))
    clear hwm hc6 hm6 hn6 hb6 b6 hrd
    try dsimp only
    go_wp2_with fail
    refine H7.out.1.mono ?_
    rintro e w7 ⟨tA7, tn7, tc7, oA7, on7, oc7, bA7, bn7, bc7, us7, rfl, hcaps7, hms7, b7⟩
    obtain rfl : on7 = 2 := hms7.o.plen.symm
    have H8 := Lib.hid (And.intro hms7 (And.intro (H7.out.2.1.below b7) (H7.out.2.2.trans (b7.mono H7.out.2.2.size))))
    clear hcaps7 hms7 b7
    try dsimp only
    go_wp2_with fail
    have P8 := Lib.hid (And.intro (alloc_below w7 (.cells #[.int .i64 0, .int .i64 3, .int .i64 (k : Int), .slice tA7 tn7 tc7, .slice oA7 2 oc7, .slice bA7 bn7 bc7] 38)) (And.intro (heap_alloc_new w7 (.cells #[.int .i64 0, .int .i64 3, .int .i64 (k : Int), .slice tA7 tn7 tc7, .slice oA7 2 oc7, .slice bA7 bn7 bc7] 38)) (show w7.heap.size < (w7.alloc (.cells #[.int .i64 0, .int .i64 3, .int .i64 (k : Int), .slice tA7 tn7 tc7, .slice oA7 2 oc7, .slice bA7 bn7 bc7] 38)).heap.size by rw [alloc_size]; omega)))
    refine calls_at_world (F := fun W => Below w7.heap.size w7 W ∧ W.heap[w7.heap.size]? = some (.cells #[.int .i64 0, .int .i64 3, .int .i64 (k : Int), .slice tA7 tn7 tc7, .slice oA7 2 oc7, .slice bA7 bn7 bc7] 38) ∧ w7.heap.size < W.heap.size) P8.out fun W8 p8 => ?_
    have hvm : V.length ≤ 1048576 := by have := HB.out.2.2.2.2.1; omega
    have hgt := get_f 27 oA7 2 oc7 us7 [(11, [53]), (27, V)] W8 _ (H8.out.1.o.below p8.1) p8.1.size (by omega) (fun x hx => by
      simp only [List.mem_cons, List.not_mem_nil, or_false] at hx
      rcases hx with rfl | rfl
      · simp
      · exact hvm)
    rw [wb_get] at hgt
    have H9 := Lib.hid (And.intro ((H8.out.1.b.below p8.1).more p8.1.size) (And.intro (H8.out.2.1.below p8.1) (And.intro (H8.out.2.2.trans (p8.1.mono H8.out.2.2.size)) p8.2)))
    clear p8 P8 hvm
    refine hgt.mono ?_
    rintro e w9 ⟨gA, gn, gc, rfl, hgn, hgb, b9⟩
    have H10 := Lib.hid (And.intro hgb (And.intro ((H9.out.1.below b9).more b9.size) (And.intro (H9.out.2.1.below b9) (And.intro (H9.out.2.2.1.trans (b9.mono H9.out.2.2.1.size)) (And.intro ((b9.block w7.heap.size H9.out.2.2.2.2).trans H9.out.2.2.2.1) (show w7.heap.size < w9.heap.size from Nat.lt_of_lt_of_le H9.out.2.2.2.2 b9.size))))))
    clear hgt hgn hgb b9
    try dsimp only
    go_wp2_with fail
    have hbr := bread_f gA gn gc V w9 _ H10.out.1 (Nat.le_refl _)
    rw [HB.out.2.2.2.1] at hbr
    refine hbr.mono ?_
    rintro e w10 ⟨rfl, b10⟩
    have H11 := Lib.hid (And.intro ((H10.out.2.1.below b10).more b10.size) (And.intro (H10.out.2.2.1.below b10) (And.intro (H10.out.2.2.2.1.trans (b10.mono H10.out.2.2.2.1.size)) (And.intro ((b10.block w7.heap.size H10.out.2.2.2.2.2).trans H10.out.2.2.2.2.1) (show w7.heap.size < w10.heap.size from Nat.lt_of_lt_of_le H10.out.2.2.2.2.2 b10.size)))))
    clear hbr b10
    try dsimp only
    have r10 := range_box w10 #[.int .i64 (k : Int), .bool mr, .int .i64 (Z : Int)] 32 rfl
    have c10 : (w10.alloc (.cells #[.int .i64 (k : Int), .bool mr, .int .i64 (Z : Int)] 32)).cell? ⟨w7.heap.size, 5, none⟩ = some (.slice bA7 bn7 bc7) := ((alloc_below w10 _).cell (p := ⟨w7.heap.size, 5, none⟩) H11.out.2.2.2.2).trans (cell_of_row _ _ _ _ _ _ H11.out.2.2.2.1)
    go_wp2_with (refine wpList_load_mid rfl 32 (.tmp 22) rfl w10.heap.size 0 rfl [.int .i64 (k : Int), .bool mr, .int .i64 (Z : Int)] _ r10 Try.underlying32 rfl size_blk ?_)
    clear r10 c10
    have P11 := Lib.hid (alloc_below w10 (.cells #[.int .i64 (k : Int), .bool mr, .int .i64 (Z : Int)] 32))
    refine calls_at_world (F := fun W => Below w10.heap.size w10 W) P11.out fun W11 p11 => ?_
    have hpt := jput_f jb n v (l.take T) false W11 (H11.out.2.1.below p11) (k : Int) (Z : Int) mr bA7 bn7 bc7 X ((H11.out.1.below p11).more p11.size) (by have h1 := H11.out.1.len; have h2 := HB.out.2.2.1; omega)
    rw [HB.out.2.1] at hpt
    have B11 := H11.out.2.2.1.trans (p11.mono H11.out.2.2.1.size)
    have J11 := H11.out.2.1.below p11
    refine hpt.mono ?_
    rintro e w12 ⟨v12, rfl, j12, k12, o12⟩
    have q12 : Below w.heap.size W11 w12 := k12.toBelow B11.size (by have := H2.out.2.2; omega) (fun g e => by have := own_ge J11.row g e; have := H2.out.2.2; omega)
    have H12 := Lib.hid (And.intro j12 (B11.trans q12))
    clear hpt j12 k12 o12 q12 p11 B11 J11 P11
    try dsimp only
    cases mr with
    | true =>
      have hTn := of_decide_eq_true HMR.out
      go_wp2
      go_roundw
      case rel =>
        refine ⟨k + 1, T + Z, v12, by first | rfl | go_num, by have := hrel.out.1; have : 16 * k ≤ k * Z := (by rw [Nat.mul_comm]; exact Nat.mul_le_mul_left k (by omega)); omega, (show Aside _ from ⟨by rw [Nat.succ_mul, hrel.out.1], by omega, .inr hTn, H12.out.1, H12.out.2⟩)⟩
      case measure => simp [intOf]; omega
    | false =>
      have hTn := of_decide_eq_false HMR.out
      have htk : l.take (T + Z) = l := List.take_of_length_le (by rw [HA.out.2.2.2.1]; omega)
      rw [htk] at H12
      clear hTn htk hrel
      go_wp2_with fail
      refine (jbytes_f jb n v12 l true w12 H12.out.1).mono ?_
      intro e w13 h13
      obtain ⟨A13, n13, c13, rfl, hc13, hn13, hb13, b13⟩ := h13.slice_
      obtain rfl : n13 = n := hn13.out.trans HA.out.2.2.2.1
      have H13 := Lib.hid (And.intro hb13 (H12.out.2.trans (b13.mono H12.out.2.size)))
      clear h13 hn13 hb13 b13 hc13
      try dsimp only
      go_wp2_with fail
      have hsa := same_any A13 A n13 c13 n13 c l l w13 _ _ H13.out.1 (HA.out.2.2.2.2.2.2.below H13.out.2) (by omega) (by omega)
      rw [decide_eq_true rfl] at hsa
      refine hsa.mono ?_
      rintro e w14 ⟨rfl, m14, hw14⟩
      have b14 : Below w13.heap.size w13 w14 := hw14 ▸ drewN_below _ _ m14
      have H14 := Lib.hid (H13.out.2.trans (b14.mono H13.out.2.size))
      clear hsa hw14 b14
      try dsimp only
      go_wp2
      go_ret
      exact ⟨rfl, H14.out⟩
end Go.Proofs.Ytfbddldcbjhmiaa
