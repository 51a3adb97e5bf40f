/-
  MsgEnds: a beginning of a message's bytes is read as none, or as one of fewer options and bytes.
-/
import Derived.Test.YtihicplembaoeaaMsgBackLaw
import Derived.Test.YtihicplembaoeaaMsgCut
namespace Go.Proofs.Ytihicplembaoeaa
open Go.RowKit
set_option maxRecDepth 100000
set_option linter.unusedVariables false
theorem and4095 (x : Int) : bits .and .i64 x 4095 = x % 4096 := by
  show IntKind.i64.wrap ((BitVec.ofInt 64 x &&& BitVec.ofInt 64 4095).toNat : Int) = _
  rw [show BitVec.ofInt 64 4095 = BitVec.ofNat 64 4095 from rfl, BitVec.toNat_and, BitVec.toNat_ofNat, show 4095 % 2 ^ 64 = 2 ^ 12 - 1 from rfl, Nat.and_two_pow_sub_one_eq_mod, BitVec.toNat_ofInt, IntKind.wrap_i64]
  omega
theorem cut_walk (x : Int) (n : Nat) (hn : 0 < n) (h : n ≤ 9000) : ∃ k : Nat, k < n ∧ (bits .and .i64 x 4095).tmod (n : Int) = (k : Int) := by
  rw [and4095]
  obtain ⟨y, hy⟩ := Int.eq_ofNat_of_zero_le (show 0 ≤ x % 4096 by omega)
  rw [hy]
  exact ⟨y % n, Nat.mod_lt _ hn, by rw [Int.tmod_eq_emod_of_nonneg (Int.natCast_nonneg y)]; rfl⟩
theorem Os.take_ {w : World} {B n : Nat} {A A' : Option Addr} {vs : List Sv} {ps : List (Int × List UInt8)} (h : Os w B A n vs ps) {j c : Nat} (hj : j ≤ n) (hc : n ≤ c) (hA : A' = if c = 0 then A else A.map (·.add 0)) : Os w B A' j (vs.take j) (ps.take j) := by
  have hs := h.sh.cut (lo := 0) (hi := j) (c := c) (Nat.zero_le _) hj hc (A' := A') (by rw [hA])
  rw [Nat.sub_zero, List.drop_zero] at hs
  exact ⟨hs, h.dp.sub fun s hs => List.mem_of_mem_take hs, by rw [List.map_take, h.eq]⟩
theorem Bs.pre {w : World} {B n : Nat} {A A' : Option Addr} {l : List UInt8} (h : Bs w B A n l) {j c : Nat} (hj : j ≤ n) (hc : n ≤ c) (hA : A' = if c = 0 then A else A.map (·.add 0)) : Bs w B A' j (l.take j) := by
  have hs := h.cut (lo := 0) (hi := j) (c := c) (Nat.zero_le _) hj hc (A' := A') hA
  rwa [Nat.sub_zero, List.drop_zero] at hs
/-- What each operation of the last line leaves. -/
def EnR (R b : Nat) (yA : Option Addr) (yn yc : Nat) (A6 : Option Addr) (n6 c6 : Nat) (zA : Option Addr) (zn zc : Nat) (bA : Option Addr) (bn bc : Nat) (i : Nat) (w : World) (v : Value) : Prop :=
  match i with
  | 0 | 3 => v = .pointer (some ⟨R, 4, none⟩)
  | 1 | 4 => v = .slice yA yn yc
  | 2 => v = .slice A6 n6 c6
  | 5 => v = .int .i64 (yn : Int)
  | 6 => v = .slice A6 yn c6
  | 9 | 13 => v = .pointer (some ⟨R, 5, none⟩)
  | 10 | 14 => v = .slice zA zn zc
  | 11 => v = .pointer (some ⟨b, 5, none⟩)
  | 12 => v = .slice bA bn bc
  | 15 => v = .int .i64 (zn : Int)
  | 16 => v = .slice bA zn bc
  | _ => v = .bool true
theorem map0 (A : Option Addr) (c : Nat) : A = if c = 0 then A else A.map (·.add 0) := by
  have h : A.map (·.add 0) = A := by
    cases A with
    | none => rfl
    | some p =>
      obtain ⟨b, o, s⟩ := p
      show some (Addr.add ⟨b, o, s⟩ 0) = _
      cases s <;> simp [Addr.add]
  rw [h]; simp
theorem drew_below7 (w : World) : Below w.heap.size w w.drew := Below.drew (Below.refl _ _)
set_option maxHeartbeats 4000000 in
theorem mends_law (kd cd id : Int) (tA : Option Addr) (tn tc : Nat) (oA : Option Addr) (on oc : Nat) (bA : Option Addr) (bn bc : Nat) (vs : List Sv) (tok : List UInt8) (ps : List (Int × List UInt8)) (body : List UInt8) (cut : Int) (w : World)
    (hm : Ms w w.heap.size tA tn oA on vs bA bn tok ps body) (hon : on ≤ maxLen) (hbc : bn ≤ bc) :
    Calls Try.prog 12 #[.agg #[.int .i64 kd, .int .i64 cd, .int .i64 id, .slice tA tn tc, .slice oA on oc, .slice bA bn bc], .int .i64 cut] w fun e w' => e = .returned (.bool true) ∧ Below w.heap.size w w' := by
  have hb0 := alloc_below w (.cells #[.int .i64 kd, .int .i64 cd, .int .i64 id, .slice tA tn tc, .slice oA on oc, .slice bA bn bc] 51)
  obtain ⟨W0, hW0⟩ : ∃ W0, w.alloc (.cells #[.int .i64 kd, .int .i64 cd, .int .i64 id, .slice tA tn tc, .slice oA on oc, .slice bA bn bc] 51) = W0 := ⟨_, rfl⟩
  have hs0 : W0.heap.size = w.heap.size + 1 := by rw [← hW0, alloc_size]
  have hr0 : W0.rangeAt w.heap.size 0 [.int .i64 kd, .int .i64 cd, .int .i64 id, .slice tA tn tc, .slice oA on oc, .slice bA bn bc] := hW0 ▸ range_newA w _ 51 rfl
  rw [hW0] at hb0
  have hal := malive_any W0
  have hrg : ∀ W, Below W0.heap.size W0 W → W.rangeAt w.heap.size 0 [.int .i64 kd, .int .i64 cd, .int .i64 id, .slice tA tn tc, .slice oA on oc, .slice bA bn bc] := fun W h => range_below hr0 h (by omega)
  have hms := fun W (h : Below W0.heap.size W0 W) => (hm.below (hb0.trans (h.mono (by omega)))).more (show w.heap.size ≤ W.heap.size by have := h.size; omega)
  have hfew := fun W (h : Below W0.heap.size W0 W) => few9_f kd cd id tA tn tc oA on oc bA bn bc vs tok ps body W (hms W h) (by simp only [maxLen] at hon; omega)
  have hlen := And.intro hm.t.len (And.intro hm.o.plen hm.b.len)
  have hcl := fun W (h : Below W0.heap.size W0 W) => hb0.trans (h.mono (show w.heap.size ≤ W0.heap.size by omega))
  obtain ⟨fw, hfw⟩ : ∃ fw, fewM ⟨kd, cd, id, tok, ps, body⟩ = fw := ⟨_, rfl⟩
  rw [hfw] at hfew
  have HA := Lib.hid (And.intro hal (And.intro hrg (And.intro hfew hcl)))
  have HW := Lib.hid hW0
  have HB := Lib.hid (And.intro hms (And.intro hlen (And.intro hfw (And.intro hs0 hbc))))
  clear hb0 hW0 hs0 hr0 hal hrg hfew hfw hm hon hms hlen hcl hbc
  cases fw with
  | false =>
    go_enter Try.func12, Try.ntmps12
    go_wp2_with fail
    rw [HW.out]
    refine HA.out.1.mono ?_
    rintro e w1 ⟨rfl, b1⟩
    obtain ⟨c0, c1, c2, c3', c4, c5⟩ := six (HA.out.2.1 w1 b1)
    have H1 := Lib.hid b1
    clear b1
    go_wp2_with fail
    refine (HA.out.2.2.1 w1 H1.out).mono ?_
    rintro e w2 ⟨rfl, b2⟩
    have H2 := Lib.hid (H1.out.trans (b2.mono H1.out.size))
    clear b2 c0 c1 c2 c3' c4 c5
    go_wp2
    go_ret
    exact ⟨rfl, HA.out.2.2.2 w2 H2.out⟩
  | true =>
    have hq := fewM_iff HB.out.2.2.1
    dsimp only at hq
    have hl1 := HB.out.2.1
    have hll := mwr_len kd cd id tok ps body
    have hw1 := fun W (h : Below W0.heap.size W0 W) => mwrite_f kd cd id tA tn tc oA on oc bA bn bc vs tok ps body W (HB.out.1 W h) (by omega) (by omega) (by omega)
    have hcut := fun h k hk => ends_cut (kd := kd) (cd := cd) (id := id) (tok := tok) (ps := ps) (body := body) h k hk
    have hok := fun h => mwr_ok (kd := kd) (cd := cd) (id := id) (tok := tok) (ps := ps) (body := body) h
    have hso := fun W (h : Below W0.heap.size W0 W) => rsorted_f oA on oc vs ps W (HB.out.1 W h).o (by omega) (fun x hx => Nat.le_trans (hq.2.2.2 x hx) (by decide))
    have hsl : (sortP ps).length = on := by rw [sortP_len]; exact hl1.2.1
    have hsm : ∀ x ∈ sortP ps, x.2.length ≤ 400 := fun x hx => hq.2.2.2 x (sortP_mem ps x hx)
    have hpos : (mwr kd cd id tok ps body).2 = 0 → 0 < (mwr kd cd id tok ps body).1.length := fun h => by
      obtain ⟨_, _, _, _, _, hm⟩ := hok h
      rw [hm]
      simp [mwHd]
    obtain ⟨P, hP⟩ : ∃ P, sortP ps = P := ⟨_, rfl⟩
    rw [hP] at hsl hsm
    simp only [hP] at hcut hso
    obtain ⟨⟨L, er⟩, hL⟩ : ∃ r, mwr kd cd id tok ps body = r := ⟨_, rfl⟩
    rw [hL] at hw1 hll hpos
    simp only [hL] at hcut
    dsimp only at hll hpos hcut
    by_cases her : er = 0
    · subst her
      have hp := hpos rfl
      obtain ⟨N, hN⟩ : ∃ N, L.length = N := ⟨_, rfl⟩
      rw [hN] at hp hll hcut
      obtain ⟨kx, hkx, hkw⟩ := cut_walk cut N hp hll
      have hN0 : ((N : Int) == 0) = false := beq_eq_false_iff_ne.2 (by omega)
      have hkxI : (kx : Int) < N := by omega
      have hct := hcut rfl kx hkx
      have HC := Lib.hid (And.intro hw1 (And.intro hct (And.intro hso (And.intro hsl (And.intro hsm (And.intro hN (And.intro hl1 hq)))))))
      clear hq hl1 hw1 hcut hok hso hsl hsm hpos hP hL hct hN hp
      go_enter Try.func12, Try.ntmps12
      go_wp2_with fail
      rw [HW.out]
      refine HA.out.1.mono ?_
      rintro e w1 ⟨rfl, b1⟩
      obtain ⟨c0, c1, c2, c3', c4, c5⟩ := six (HA.out.2.1 w1 b1)
      have H1 := Lib.hid b1
      clear b1
      go_wp2_with fail
      refine (HA.out.2.2.1 w1 H1.out).mono ?_
      rintro e w2 ⟨rfl, b2⟩
      have H2 := Lib.hid (H1.out.trans (b2.mono H1.out.size))
      clear b2 c0 c1 c2 c3' c4 c5
      obtain ⟨c0, c1, c2, c3', c4, c5⟩ := six (HA.out.2.1 w2 H2.out)
      go_wp2_with fail
      refine (HC.out.1 w2 H2.out).mono ?_
      rintro e w3 ⟨A3, n3, c3, rfl, ⟨hc3, hm3⟩, hn3, hb3, b3⟩
      obtain rfl : n3 = N := (show n3 = L.length from hn3.out).trans HC.out.2.2.2.2.2.1
      obtain ⟨pb, po, rfl, _, _⟩ := hb3.place (by omega)
      have hncI : (kx : Int) ≤ c3 := by omega
      have hrd := mread_f (some ⟨pb, po, none⟩) kx c3 (L.take kx) w3 _ (hb3.take_ kx (by omega)) (Nat.le_refl _) (by omega) (by simp only [maxLen] at hm3; omega) (by omega)
      have H3 := Lib.hid (And.intro (H2.out.trans (b3.mono H2.out.size)) hrd)
      clear hc3 hm3 hn3 hb3 b3 c0 c1 c2 c3' c4 c5 hrd
      try dsimp only
      rcases HC.out.2.1 with ⟨ee, hee, hct⟩ | ⟨j, i, hj, hi, hct⟩
      · have hne : (ee != 0) = true := bne_iff_ne.2 hee
        have hrd := H3.out.2
        rw [hct] at hrd
        have HR := Lib.hid hrd
        clear hct hrd hee
        go_wp2_with fail
        refine HR.out.mono ?_
        rintro e w4 ⟨xA, xn, xc, yA, yn, yc, zA, zn, zc, us, rfl, hcaps, hms4, b4⟩
        obtain rfl : xn = 0 := hms4.t.len.symm
        obtain rfl : yn = 0 := hms4.o.plen.symm
        obtain rfl : zn = 0 := hms4.b.len.symm
        have H4 := Lib.hid (H3.out.1.trans (b4.mono H3.out.1.size))
        clear hcaps hms4 b4
        try dsimp only
        go_wp2
        go_ret
        exact ⟨rfl, HA.out.2.2.2 _ (H4.out.alloc H4.out.size _)⟩
      · have hrd := H3.out.2
        rw [hct] at hrd
        have HR := Lib.hid hrd
        clear hct hrd
        go_wp2_with fail
        refine HR.out.mono ?_
        rintro e w4 ⟨xA, xn, xc, yA, yn, yc, zA, zn, zc, us, rfl, hcaps, hms4, b4⟩
        obtain rfl : xn = tn := hms4.t.len.symm.trans HC.out.2.2.2.2.2.2.1.1
        obtain rfl : yn = j := by have := hms4.o.plen; rw [List.length_take] at this; omega
        obtain ⟨iz, hiz⟩ : ∃ iz, (body.take i).length = iz := ⟨_, rfl⟩
        obtain rfl : zn = iz := hms4.b.len.symm.trans hiz
        have hjn : yn ≤ on := by have := HC.out.2.2.2.1; omega
        have hib : zn ≤ bn := by rw [List.length_take] at hiz; have := HC.out.2.2.2.2.2.2.1.2.2; omega
        have hbt : body.take i = body.take zn := by rw [← hiz, List.length_take]; rcases Nat.le_total i body.length with h | h; rw [Nat.min_eq_left h]; rw [Nat.min_eq_right h, List.take_of_length_le h, List.take_length]
        have B4 := H3.out.1.trans (b4.mono H3.out.1.size)
        have H4 := Lib.hid (And.intro hms4 (And.intro hbt B4))
        have c4a := fun o => (six (HA.out.2.1 (w4.alloc o) (B4.alloc B4.size o))).2.2.2.2.1
        clear hcaps hms4 b4 B4 hiz hbt
        try dsimp only
        go_wp2_with fail
        refine calls_at_world (F := fun W => Below w4.heap.size w4 W ∧ w4.heap.size + 1 ≤ W.heap.size ∧ W.rangeAt w4.heap.size 0 [.int .i64 kd, .int .i64 cd, .int .i64 id, .slice xA xn xc, .slice yA yn yc, .slice zA zn zc]) ⟨alloc_below w4 _, by rw [alloc_size]; exact Nat.le_refl _, range_newA w4 _ _ rfl⟩ fun W5 ⟨b5, s5, r5⟩ => ?_
        have B5 := H4.out.2.2.trans (b5.mono H4.out.2.2.size)
        have H5 := Lib.hid (And.intro b5 (And.intro s5 (And.intro r5 B5)))
        clear b5 s5 r5 B5 c4a
        refine (HC.out.2.2.1 W5 H5.out.2.2.2).mono ?_
        rintro e w6 ⟨A6, n6, c6, us6, rfl, ⟨hc6, hm6⟩, hn6, hos6, b6⟩
        obtain rfl : n6 = on := (show n6 = P.length from hn6.out).trans HC.out.2.2.2.1
        have B6 := H5.out.2.2.2.trans (b6.mono H5.out.2.2.2.size)
        have b46 := H5.out.1.trans (b6.mono H5.out.1.size)
        have r6 := range_below H5.out.2.2.1 b6 (by have := H5.out.2.1; omega)
        have hsz6 : w4.heap.size + 1 ≤ w6.heap.size := by have := b6.size; have := H5.out.2.1; omega
        obtain ⟨c0, c1, c2, c3', c4, c5⟩ := six (HA.out.2.1 w6 B6)
        obtain ⟨d0, d1, d2, d3, d4, d5⟩ := six r6
        have hsa := same_any xA tA xn xc xn tc tok tok w6 _ _ (H4.out.1.t.below b46) (HB.out.1 w6 B6).t (by have := HC.out.2.2.2.2.2.2; omega) (by have := HC.out.2.2.2.2.2.2; omega)
        rw [decide_eq_true rfl] at hsa
        have hk1 : (kd != kd) = false := bne_self_eq_false _
        have hi1 : (id != id) = false := bne_self_eq_false _
        have hjI : ¬ (n6 : Int) < yn := by omega
        have hiI : ¬ (bn : Int) < zn := by omega
        have H6 := Lib.hid (And.intro hos6 (And.intro hc6 (And.intro hm6 (And.intro r6 (And.intro B6 (And.intro b46 (And.intro hsz6 hsa)))))))
        clear hn6 hos6 hc6 hm6 b6 B6 b46 r6 hsz6 hsa
        go_wp2_with fail
        refine H6.out.2.2.2.2.2.2.2.mono ?_
        rintro e w7 ⟨rfl, m7, hw7⟩
        have b7 : Below w6.heap.size w6 w7 := hw7 ▸ drewN_below _ _ m7
        have B7 := H6.out.2.2.2.2.1.trans (b7.mono H6.out.2.2.2.2.1.size)
        have r7 := range_below H6.out.2.2.2.1 b7 (by have := H6.out.2.2.2.2.2.2.1; omega)
        have H7 := Lib.hid (And.intro B7 (And.intro r7 (And.intro b7 (show w4.heap.size + 1 ≤ w7.heap.size by have := b7.size; have := H6.out.2.2.2.2.2.2.1; omega))))
        clear hw7 b7 B7 r7 c0 c1 c2 c3' c4 c5 d0 d1 d2 d3 d4 d5
        go_wp2_with fail
        have hcc : n6 ≤ c6 ∧ bn ≤ bc := ⟨H6.out.2.1, HB.out.2.2.2.2⟩
        have hjc : (yn : Int) ≤ c6 := by omega
        have hzc : (zn : Int) ≤ bc := by omega
        have hyI : (yn : Int) ≤ 40 := by have := HC.out.2.2.2.2.2.2; omega
        have hzI : (zn : Int) ≤ 2000 := by have := HC.out.2.2.2.2.2.2; omega
        have HF := Lib.hid fun W (h : Below w7.heap.size w7 W) =>
          have b4 := H6.out.2.2.2.2.2.1.trans ((H7.out.2.2.1.trans (h.mono H7.out.2.2.1.size)).mono H6.out.2.2.2.2.2.1.size)
          have b6 := H7.out.2.2.1.trans (h.mono H7.out.2.2.1.size)
          And.intro ((H4.out.1.o.below b4).more b4.size) (And.intro ((H6.out.1.below b6).more b6.size) (And.intro (((H4.out.2.1 ▸ H4.out.1.b : Bs w4 w4.heap.size zA zn (body.take zn)).below b4).more b4.size) (HB.out.1 W (H7.out.1.trans (h.mono H7.out.1.size))).b))
        refine wp_region_rel (fun w' => Below w7.heap.size w7 w') (fun w w' => Below w.heap.size w w') (EnR w4.heap.size w.heap.size yA yn yc A6 n6 c6 zA zn zc bA bn bc) [(7, .pointer (some ⟨w4.heap.size, 0, none⟩)), (9, .slice A6 n6 c6), (2, .pointer (some ⟨w.heap.size, 0, none⟩))] (by kernel_rfl) (by kernel_rfl) (by kernel_rfl) ?base (drew_below7 w7) (fun i w w' v _ h => h) ?steps ?fin
        case base =>
          intro x hx
          simp only [List.mem_cons, List.not_mem_nil, or_false] at hx
          rcases hx with rfl | rfl | rfl <;> exact ⟨rfl, rfl⟩
        case steps =>
          refine steps_cons ?_ (steps_cons ?_ (steps_cons ?_ (steps_cons ?_ (steps_cons ?_ (steps_cons ?_ (steps_cons ?_ (steps_cons ?_ (steps_cons ?_ (steps_cons ?_ (steps_cons ?_ (steps_cons ?_ (steps_cons ?_ (steps_cons ?_ (steps_cons ?_ (steps_cons ?_ (steps_cons ?_ (steps_cons ?_ (steps_cons ?_ (steps_cons ?_ steps_nil)))))))))))))))))))
          · intro a w K hS hB hR hK
            rw [if_pos (wanted_none rfl)]
            have h7 := tmp_is (hB.1)
            go_simp
            exact hK (.pointer (some ⟨w4.heap.size, 4, none⟩)) w hS (Below.refl _ w) rfl
          · intro a w K hS hB hR hK
            rw [if_pos (wanted_none rfl)]
            have h85 := tmp_is (hR.1)
            obtain ⟨d0, d1, d2, d3, d4, d5⟩ := six (range_below H7.out.2.1 hS (by have := H7.out.2.2.2; omega))
            go_simp
            exact hK (.slice yA yn yc) w hS (Below.refl _ w) rfl
          · intro a w K hS hB hR hK
            rw [if_pos (wanted_none rfl)]
            have h9 := tmp_is (hB.2.1)
            go_simp
            exact hK (.slice A6 n6 c6) w hS (Below.refl _ w) rfl
          · intro a w K hS hB hR hK
            rw [if_pos (wanted_none rfl)]
            have h7 := tmp_is (hB.1)
            go_simp
            exact hK (.pointer (some ⟨w4.heap.size, 4, none⟩)) w hS (Below.refl _ w) rfl
          · intro a w K hS hB hR hK
            rw [if_pos (wanted_none rfl)]
            have h88 := tmp_is (hR.1)
            obtain ⟨d0, d1, d2, d3, d4, d5⟩ := six (range_below H7.out.2.1 hS (by have := H7.out.2.2.2; omega))
            go_simp
            exact hK (.slice yA yn yc) w hS (Below.refl _ w) rfl
          · intro a w K hS hB hR hK
            rw [if_pos (wanted_none rfl)]
            have h89 := tmp_is (hR.1)
            go_simp
            exact hK (.int .i64 (yn : Int)) w hS (Below.refl _ w) rfl
          · intro a w K hS hB hR hK
            rw [if_pos (wanted_none rfl)]
            have h87 := tmp_is (hR.1)
            have h90 := tmp_is (hR.2.1)
            go_simp
            exact hK (.slice A6 yn c6) w hS (Below.refl _ w) rfl
          · intro a w K hS hB hR hK
            rw [if_pos (wanted_none rfl)]
            have h86 := tmp_is (hR.1)
            have h91 := tmp_is (hR.2.1)
            go_simp
            have hF := HF.out _ hS
            refine (osame_yes w yA A6 yn yc c6 us (us6.take yn) (P.take yn) hF.1 (hF.2.1.take_ hjn hcc.1 (map0 _ _)) (Int.le_trans hyI (by decide)) (fun x hx => Nat.le_trans (HC.out.2.2.2.2.1 x (List.mem_of_mem_take hx)) (by decide))).mono ?_
            rintro e w' ⟨rfl, hb⟩
            exact hK _ _ (hS.trans (hb.mono hS.size)) hb rfl
          · intro a w K hS hB hR hK
            rw [if_pos (wanted_none rfl)]
            have h92 := tmp_is (hR.1)
            go_simp
            exact hK (.bool true) w hS (Below.refl _ w) rfl
          · intro a w K hS hB hR hK
            rw [if_pos (wanted_some rfl (hR.1))]
            have h7 := tmp_is (hB.1)
            go_simp
            exact hK (.pointer (some ⟨w4.heap.size, 5, none⟩)) w hS (Below.refl _ w) rfl
          · intro a w K hS hB hR hK
            rw [if_pos (wanted_some rfl (hR.2.1))]
            have h94 := tmp_is (hR.1)
            obtain ⟨d0, d1, d2, d3, d4, d5⟩ := six (range_below H7.out.2.1 hS (by have := H7.out.2.2.2; omega))
            go_simp
            exact hK (.slice zA zn zc) w hS (Below.refl _ w) rfl
          · intro a w K hS hB hR hK
            rw [if_pos (wanted_some rfl (hR.1))]
            have h2 := tmp_is (hB.2.2.1)
            go_simp
            exact hK _ w hS (Below.refl _ w) rfl
          · intro a w K hS hB hR hK
            rw [if_pos (wanted_some rfl (hR.2.1))]
            have h96 := tmp_is (hR.1)
            obtain ⟨d0, d1, d2, d3, d4, d5⟩ := six (HA.out.2.1 w (H7.out.1.trans (hS.mono H7.out.1.size)))
            go_simp
            exact hK (.slice bA bn bc) w hS (Below.refl _ w) rfl
          · intro a w K hS hB hR hK
            rw [if_pos (wanted_some rfl (hR.1))]
            have h7 := tmp_is (hB.1)
            go_simp
            exact hK (.pointer (some ⟨w4.heap.size, 5, none⟩)) w hS (Below.refl _ w) rfl
          · intro a w K hS hB hR hK
            rw [if_pos (wanted_some rfl (hR.2.1))]
            have h98 := tmp_is (hR.1)
            obtain ⟨d0, d1, d2, d3, d4, d5⟩ := six (range_below H7.out.2.1 hS (by have := H7.out.2.2.2; omega))
            go_simp
            exact hK (.slice zA zn zc) w hS (Below.refl _ w) rfl
          · intro a w K hS hB hR hK
            rw [if_pos (wanted_some rfl (hR.2.1))]
            have h99 := tmp_is (hR.1)
            go_simp
            exact hK (.int .i64 (zn : Int)) w hS (Below.refl _ w) rfl
          · intro a w K hS hB hR hK
            rw [if_pos (wanted_some rfl (hR.2.2.1))]
            have h97 := tmp_is (hR.1)
            have h100 := tmp_is (hR.2.1)
            go_simp
            exact hK (.slice bA zn bc) w hS (Below.refl _ w) rfl
          · intro a w K hS hB hR hK
            rw [if_pos (wanted_some rfl (hR.2.2.1))]
            have h95 := tmp_is (hR.1)
            have h101 := tmp_is (hR.2.1)
            go_simp
            have hF := HF.out _ hS
            have hsa := same_any zA bA zn zc zn bc (body.take zn) (body.take zn) w _ _ hF.2.2.1 (hF.2.2.2.pre hib hcc.2 (map0 _ _)) (Int.le_trans hzI (by decide)) (Int.le_trans hzI (by decide))
            rw [decide_eq_true rfl] at hsa
            refine hsa.mono ?_
            rintro e w' ⟨rfl, m', hw'⟩
            have hb : Below w.heap.size w w' := hw' ▸ drewN_below _ _ m'
            exact hK _ _ (hS.trans (hb.mono hS.size)) hb rfl
          · intro a w K hS hB hR hK
            rw [if_pos (wanted_none rfl)]
            have h93 := tmp_is (hR.1)
            have h102 := tmp_is (hR.2.1)
            go_simp
            exact hK (.bool true) w hS (Below.refl _ w) rfl
          · intro a w K hS hB hR hK
            rw [if_pos (wanted_none rfl)]
            have h103 := tmp_is (hR.1)
            go_simp
            exact hK (.bool true) w hS (Below.refl _ w) rfl
        case fin =>
          intro a w8 hS8 ha hR
          have h19 : a.eval (.tmp 4) = .bool true := deps_mem _ hR 19 (by decide)
          have H8 := Lib.hid hS8
          clear hR hS8
          simp only [pin] at ha
          rw [ha]
          simp only [List.setIfInBounds_toArray, List.set_cons_zero, List.set_cons_succ, h19]
          clear ha h19
          go_wp2
          go_ret
          exact ⟨rfl, HA.out.2.2.2 w8 (H7.out.1.trans (H8.out.mono H7.out.1.size))⟩
    · have hne : (er != 0) = true := bne_iff_ne.2 her
      have HC := Lib.hid hw1
      clear hq hl1 hw1 hcut hok hso hsl hsm hpos hP hL her hll
      go_enter Try.func12, Try.ntmps12
      go_wp2_with fail
      rw [HW.out]
      refine HA.out.1.mono ?_
      rintro e w1 ⟨rfl, b1⟩
      obtain ⟨c0, c1, c2, c3', c4, c5⟩ := six (HA.out.2.1 w1 b1)
      have H1 := Lib.hid b1
      clear b1
      go_wp2_with fail
      refine (HA.out.2.2.1 w1 H1.out).mono ?_
      rintro e w2 ⟨rfl, b2⟩
      have H2 := Lib.hid (H1.out.trans (b2.mono H1.out.size))
      clear b2 c0 c1 c2 c3' c4 c5
      obtain ⟨c0, c1, c2, c3', c4, c5⟩ := six (HA.out.2.1 w2 H2.out)
      go_wp2_with fail
      refine (HC.out w2 H2.out).mono ?_
      rintro e w3 ⟨A3, n3, c3, rfl, hc3, hn3, hb3, b3⟩
      have H3 := Lib.hid (H2.out.trans (b3.mono H2.out.size))
      clear hc3 hn3 hb3 b3
      try dsimp only
      go_wp2
      go_ret
      exact ⟨rfl, HA.out.2.2.2 w3 H3.out⟩
end Go.Proofs.Ytihicplembaoeaa
