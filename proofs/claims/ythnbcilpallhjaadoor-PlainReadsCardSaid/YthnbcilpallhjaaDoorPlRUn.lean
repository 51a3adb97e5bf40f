/-
  The document's Unbase64.
-/
import Derived.Test.YthnbcilpallhjaaDoorPlUnG
namespace Go.Proofs.YthnbcilpallhjaaDoor
open Go.RowKit
set_option maxRecDepth 100000
set_option linter.unusedVariables false
theorem and4095b (x : Int) : bits .and .i64 x 4095 = x % 4096 := by
  show IntKind.i64.wrap ((BitVec.ofInt 64 x &&& BitVec.ofInt 64 4095).toNat : Int) = x % 4096
  rw [BitVec.toNat_and, show (BitVec.ofInt 64 4095).toNat = 2 ^ 12 - 1 from rfl, Nat.and_two_pow_sub_one_eq_mod, BitVec.toNat_ofInt, IntWalk.i64_in _ (by omega)]
  omega
theorem tw_get : ∀ (l : List UInt8) (k : Nat), k < (l.takeWhile (· != 61)).length → ∃ u, l[k]? = some u ∧ (l.takeWhile (· != 61))[k]? = some u ∧ u ≠ 61
  | [], k, h => absurd h (by simp)
  | c :: l, k, h => by
    rw [List.takeWhile_cons] at h ⊢
    by_cases hc : (c != 61) = true
    · rw [if_pos hc] at h ⊢
      cases k with
      | zero => exact ⟨c, rfl, rfl, bne_iff_ne.1 hc⟩
      | succ k =>
        rw [List.getElem?_cons_succ, List.getElem?_cons_succ]
        exact tw_get l k (by simpa using h)
    · rw [if_neg hc] at h; exact absurd h (by simp)
theorem tw_end : ∀ (l : List UInt8), (l.takeWhile (· != 61)).length < l.length → l[(l.takeWhile (· != 61)).length]? = some 61
  | [], h => absurd h (by simp)
  | c :: l, h => by
    rw [List.takeWhile_cons] at h ⊢
    by_cases hc : (c != 61) = true
    · rw [if_pos hc] at h ⊢
      rw [List.length_cons, List.getElem?_cons_succ]
      exact tw_end l (by simpa using h)
    · rw [if_neg hc]
      have : c = 61 := by simpa using hc
      rw [this]; rfl
theorem tw_le (l : List UInt8) : (l.takeWhile (· != 61)).length ≤ l.length := (List.takeWhile_prefix _).length_le
/-- What is returned of a text of signs. -/
def RuRet (o : Option (List UInt8)) (w : World) (e : Ending) (w' : World) : Prop :=
  match o with
  | none => e = .returned (.tuple #[.slice none 0 0, .bool false]) ∧ Below w.heap.size w w'
  | some l => ∃ A n c, e = .returned (.tuple #[.slice A n c, .bool true]) ∧ n ≤ c ∧ n = l.length ∧ Bs w' w'.heap.size A n l ∧ Below w.heap.size w w' ∧ ∀ ad, A = some ad → w.heap.size ≤ ad.block
theorem RuRet.no {w w' : World} (h : Below w.heap.size w w') : RuRet none w (.returned (.tuple #[.slice none 0 0, .bool false])) w' := ⟨rfl, h⟩
set_option maxHeartbeats 16000000 in
theorem runb_f (s : ByteArray) (hs : s.size ≤ 100000) (w : World) :
    Calls Tryd.prog 44 #[.string s] w (RuRet (ruQ s.data.toList) w) := by
  obtain ⟨i0, hi0, hz0, hz1, hz2⟩ := info_parts info_u8
  have hsl : s.data.toList.length = s.size := Array.length_toList
  obtain ⟨RES, hRES⟩ : ∃ RES, ruQ s.data.toList = RES := ⟨_, rfl⟩
  rw [hRES]
  unfold ruQ at hRES
  have hget := tw_get s.data.toList
  have hend := tw_end s.data.toList
  have hle := tw_le s.data.toList
  obtain ⟨T, hT⟩ : ∃ T, s.data.toList.takeWhile (· != 61) = T := ⟨_, rfl⟩
  rw [hT] at hRES hget hend hle
  obtain ⟨K, hK⟩ : ∃ K, T.length = K := ⟨_, rfl⟩
  rw [hK] at hget hend hle
  rw [hsl] at hend hle
  obtain ⟨G, hG⟩ : ∃ G, unG T (0, 0, []) = G := ⟨_, rfl⟩
  rw [hG] at hRES
  have HA := Lib.hid (And.intro hRES (And.intro hget (And.intro hend (And.intro hK (And.intro hG hsl)))))
  clear hRES hget hend hT hK hG hsl
  have hleI : (K : Int) ≤ s.size := by omega
  have hsI : (s.size : Int) ≤ 100000 := by omega
  go_enter Tryd.func44, Tryd.ntmps44
  go_wp2
  go_loopw [4, 5, 6, 7] (fun v4 v5 v6 v7 wr => ∃ (k B n N c : Nat) (A : Option Addr), v4 = .slice A N c ∧ v5 = .int .i64 (B : Int) ∧ v6 = .int .i64 (n : Int) ∧ v7 = .int .i64 (k : Int) ∧ k ≤ K ∧ (n = 0 ∨ n = 2 ∨ n = 4 ∨ n = 6) ∧ B < 4096 ∧ N ≤ k ∧ Aside (∃ out, unG (T.drop k) (B % 2 ^ n, n, out) = G ∧ out.length = N ∧ wr.ownsRow w.heap.size 5 1 (.slice A N c) N (U8 out) ∧ Below w.heap.size w wr)) (fun _ _ _ v7 _ => s.size - (intOf v7).toNat)
  case atStart => exact ⟨0, 0, 0, 0, _, _, rfl, rfl, rfl, rfl, Nat.zero_le _, .inl rfl, by omega, Nat.le_refl _, (show Aside _ from ⟨[], HA.out.2.2.2.2.1, rfl, World.ownsRow_lit w #[] 0 (Nat.le_refl _) (by simp [maxLen]) rfl, (Below.refl _ _).alloc (Nat.le_refl _) _⟩)⟩
  case round =>
    obtain ⟨k, B, n, N, c, A, rfl, rfl, rfl, rfl, hk, hn, hB, hN, hrel⟩ := hrel
    obtain ⟨out, hgo, hol, hown, hbel⟩ := hrel.out
    clear hrel
    by_cases hlt : k < K
    · obtain ⟨u, hu, huT, hne⟩ := HA.out.2.1 k hlt
      have hks : k < s.size := by omega
      have hksI : (k : Int) < s.size := by omega
      have hsu : s[k]'hks = u := by
        have h1 : s.data.toList[k]? = some (s[k]'hks) := by rw [Array.getElem?_toList, Array.getElem?_eq_getElem hks]; rfl
        rw [h1] at hu
        exact Option.some.inj hu
      have hkT : k < T.length := by rw [HA.out.2.2.2.1]; exact hlt
      have hTk : T[k]'hkT = u := by rw [List.getElem?_eq_getElem hkT] at huT; exact Option.some.inj huT
      rw [List.drop_eq_getElem_cons hkT, hTk] at hgo
      replace hgo : (if sixI u.toNat < 0 then none else unG (T.drop (k + 1)) (unT (B % 2 ^ n, n, out) (sixI u.toNat).toNat)) = G := hgo
      have hu61 : ((u.toNat : Int) == 61) = false := beq_eq_false_iff_ne.2 (fun e => hne (UInt8.toNat_inj.1 (by show u.toNat = 61; omega)))
      have hu61n : ¬ (u.toNat : Int) = 61 := fun e => hne (UInt8.toNat_inj.1 (by show u.toNat = 61; omega))
      have hsx := sixI_lt u.toNat
      have c6 := fun W => six_f u.toNat u.toNat_lt W
      obtain ⟨un, hun⟩ : ∃ un, u.toNat = un := ⟨_, rfl⟩
      rw [hun] at hu61 hu61n hsx c6 hgo
      have hsun : (s[k]'hks).toNat = un := by rw [hsu]; exact hun
      obtain ⟨sx, hsxe⟩ : ∃ sx, sixI un = sx := ⟨_, rfl⟩
      rw [hsxe] at hsx c6 hgo
      have H6 := Lib.hid c6
      have HX := Lib.hid (And.intro hown (And.intro hbel (And.intro hbel.size hol)))
      clear c6 hown hbel hol hu huT hne hsu hkT hTk hun hsxe
      rcases hsx with ⟨_, rfl⟩ | ⟨hs0, hs64⟩
      · rw [if_pos (by decide)] at hgo
        have hr := HA.out.1
        rw [← hgo] at hr
        replace hr : none = RES := hr
        subst hr
        clear hgo hn
        go_wp2_with fail
        refine (H6.out wr).mono ?_
        rintro e w1 ⟨rfl, m1, rfl⟩
        try dsimp only
        go_wp2
        go_ret2
        exact RuRet.no (HX.out.2.1.trans (drewN_below wr _ _))
      · obtain ⟨S6, rfl⟩ := Int.eq_ofNat_of_zero_le hs0
        rw [if_neg (by omega), Int.toNat_natCast] at hgo
        have hS0 : ¬ (S6 : Int) < 0 := by omega
        have hS64 : S6 < 64 := by omega
        clear hs0 hs64
        have hst := bits_step (B := B) (R := B % 2 ^ n) hn rfl hS64 out
        obtain ⟨V, hV⟩ : ∃ V, (B * 64 + S6) % 4096 = V := ⟨_, rfl⟩
        rw [hV] at hst
        have hVm : V < 4096 := by omega
        have HVm := Lib.hid hVm
        have hVI : ((B : Int) * 64 + (S6 : Int)) % 4096 = (V : Int) := by omega
        have HV := Lib.hid hVI
        have hBI : (B : Int) < 4096 := by omega
        have hSI : (S6 : Int) < 64 := by omega
        clear hV hVI
        have hand : bits .and .i64 ((B : Int) * 64 + (S6 : Int)) 4095 = (V : Int) := by rw [and4095b]; exact HV.out
        rcases hn with rfl | rfl | rfl | rfl
        · have hgo2 := hst.1 rfl
          rw [hgo2] at hgo
          have H2 := Lib.hid hgo
          clear hVm hgo hst hgo2
          go_wp2_with fail
          refine (H6.out wr).mono ?_
          rintro e w1 ⟨rfl, m1, rfl⟩
          try dsimp only
          go_wp2
          go_roundw
          case rel => exact ⟨k + 1, V, 6, N, c, A, rfl, by first | rfl | go_num, by first | rfl | go_num, by go_num, by omega, .inr (.inr (.inr rfl)), HVm.out, by omega, (show Aside _ from ⟨out, H2.out, HX.out.2.2.2, rk_below HX.out.1 (drewN_below wr _ _), HX.out.2.1.trans (drewN_below wr _ _)⟩)⟩
          case measure => simp [intOf]; omega
        · have hgo2 := hst.2 (by decide)
          rw [show 2 - 2 = 0 from rfl, show (2 : Nat) ^ 0 = 1 from rfl] at hgo2
          rw [hgo2] at hgo
          obtain ⟨q, hq⟩ : ∃ q, UInt8.ofNat (V / 1) = q := ⟨_, rfl⟩
          rw [hq] at hgo
          have hqI : (V : Int) % 256 = (q.toNat : Int) := by rw [← hq, UInt8.toNat_ofNat']; omega
          have H2 := Lib.hid hgo
          clear hVm hgo hst hgo2 hq
          go_wp2_with fail
          refine (H6.out wr).mono ?_
          rintro e w1 ⟨rfl, m1, rfl⟩
          have hown1 := rk_below HX.out.1 (drewN_below wr _ m1)
          have hb1 := HX.out.2.1.trans (drewN_below wr _ m1)
          have hz1_ := hb1.size
          have HY := Lib.hid (And.intro hown1 (And.intro hb1 hz1_))
          clear hown1 hb1 hz1_
          try dsimp only
          go_wp2_with (at_builtin; refine wpList_append_bs _ rfl (.tmp 39) (.tmp 44) 24 rfl w.heap.size 5 i0 Tryd.underlying24 hi0 hz0 hz1 hz2 (.slice A N c) N _ rfl (HY.out.1.alloc _) ((wr.drewN m1).heap.size + 1) (some ⟨(wr.drewN m1).heap.size, 0, none⟩) 1 1 [q] rfl (Bs.lit_ (wr.drewN m1) 5 _ _ [q] rfl) (by omega) (by rw [alloc_size]; have := HY.out.2.2; omega) ?_; intro v2 w2 hown3 hgrow3; obtain ⟨A3, c3, rfl, hc3⟩ := own_slice (l := out ++ [q]) (by rw [U8_append]; exact hown3); have HO := Lib.hid (And.intro hown3 hgrow3); clear hown3 hgrow3 hc3)
          go_roundw
          case rel =>
            refine ⟨k + 1, V, 0, N + 1, c3, A3, rfl, by first | rfl | go_num, by first | rfl | go_num, by go_num, by omega, by omega, HVm.out, by omega, (show Aside _ from ⟨out ++ [q], H2.out, by rw [List.length_append, HX.out.2.2.2]; rfl, by rw [U8_append]; exact HO.out.1, ?_⟩)⟩
            exact (HY.out.2.1.alloc HY.out.2.2 _).grown HO.out.2 (by have := HY.out.2.2; rw [alloc_size]; omega) (own_ge HY.out.1)
          case measure => simp [intOf]; omega
        · have hgo2 := hst.2 (by decide)
          rw [show 4 - 2 = 2 from rfl, show (2 : Nat) ^ 2 = 4 from rfl] at hgo2
          rw [hgo2] at hgo
          obtain ⟨q, hq⟩ : ∃ q, UInt8.ofNat (V / 4) = q := ⟨_, rfl⟩
          rw [hq] at hgo
          have hqI : (V : Int) / 4 % 256 = (q.toNat : Int) := by rw [← hq, UInt8.toNat_ofNat']; omega
          have H2 := Lib.hid hgo
          clear hVm hgo hst hgo2 hq
          go_wp2_with fail
          refine (H6.out wr).mono ?_
          rintro e w1 ⟨rfl, m1, rfl⟩
          have hown1 := rk_below HX.out.1 (drewN_below wr _ m1)
          have hb1 := HX.out.2.1.trans (drewN_below wr _ m1)
          have hz1_ := hb1.size
          have HY := Lib.hid (And.intro hown1 (And.intro hb1 hz1_))
          clear hown1 hb1 hz1_
          try dsimp only
          go_wp2_with (at_builtin; refine wpList_append_bs _ rfl (.tmp 39) (.tmp 44) 24 rfl w.heap.size 5 i0 Tryd.underlying24 hi0 hz0 hz1 hz2 (.slice A N c) N _ rfl (HY.out.1.alloc _) ((wr.drewN m1).heap.size + 1) (some ⟨(wr.drewN m1).heap.size, 0, none⟩) 1 1 [q] rfl (Bs.lit_ (wr.drewN m1) 5 _ _ [q] rfl) (by omega) (by rw [alloc_size]; have := HY.out.2.2; omega) ?_; intro v2 w2 hown3 hgrow3; obtain ⟨A3, c3, rfl, hc3⟩ := own_slice (l := out ++ [q]) (by rw [U8_append]; exact hown3); have HO := Lib.hid (And.intro hown3 hgrow3); clear hown3 hgrow3 hc3)
          go_roundw
          case rel =>
            refine ⟨k + 1, V, 2, N + 1, c3, A3, rfl, by first | rfl | go_num, by first | rfl | go_num, by go_num, by omega, by omega, HVm.out, by omega, (show Aside _ from ⟨out ++ [q], H2.out, by rw [List.length_append, HX.out.2.2.2]; rfl, by rw [U8_append]; exact HO.out.1, ?_⟩)⟩
            exact (HY.out.2.1.alloc HY.out.2.2 _).grown HO.out.2 (by have := HY.out.2.2; rw [alloc_size]; omega) (own_ge HY.out.1)
          case measure => simp [intOf]; omega
        · have hgo2 := hst.2 (by decide)
          rw [show 6 - 2 = 4 from rfl, show (2 : Nat) ^ 4 = 16 from rfl] at hgo2
          rw [hgo2] at hgo
          obtain ⟨q, hq⟩ : ∃ q, UInt8.ofNat (V / 16) = q := ⟨_, rfl⟩
          rw [hq] at hgo
          have hqI : (V : Int) / 16 % 256 = (q.toNat : Int) := by rw [← hq, UInt8.toNat_ofNat']; omega
          have H2 := Lib.hid hgo
          clear hVm hgo hst hgo2 hq
          go_wp2_with fail
          refine (H6.out wr).mono ?_
          rintro e w1 ⟨rfl, m1, rfl⟩
          have hown1 := rk_below HX.out.1 (drewN_below wr _ m1)
          have hb1 := HX.out.2.1.trans (drewN_below wr _ m1)
          have hz1_ := hb1.size
          have HY := Lib.hid (And.intro hown1 (And.intro hb1 hz1_))
          clear hown1 hb1 hz1_
          try dsimp only
          go_wp2_with (at_builtin; refine wpList_append_bs _ rfl (.tmp 39) (.tmp 44) 24 rfl w.heap.size 5 i0 Tryd.underlying24 hi0 hz0 hz1 hz2 (.slice A N c) N _ rfl (HY.out.1.alloc _) ((wr.drewN m1).heap.size + 1) (some ⟨(wr.drewN m1).heap.size, 0, none⟩) 1 1 [q] rfl (Bs.lit_ (wr.drewN m1) 5 _ _ [q] rfl) (by omega) (by rw [alloc_size]; have := HY.out.2.2; omega) ?_; intro v2 w2 hown3 hgrow3; obtain ⟨A3, c3, rfl, hc3⟩ := own_slice (l := out ++ [q]) (by rw [U8_append]; exact hown3); have HO := Lib.hid (And.intro hown3 hgrow3); clear hown3 hgrow3 hc3)
          go_roundw
          case rel =>
            refine ⟨k + 1, V, 4, N + 1, c3, A3, rfl, by first | rfl | go_num, by first | rfl | go_num, by go_num, by omega, by omega, HVm.out, by omega, (show Aside _ from ⟨out ++ [q], H2.out, by rw [List.length_append, HX.out.2.2.2]; rfl, by rw [U8_append]; exact HO.out.1, ?_⟩)⟩
            exact (HY.out.2.1.alloc HY.out.2.2 _).grown HO.out.2 (by have := HY.out.2.2; rw [alloc_size]; omega) (own_ge HY.out.1)
          case measure => simp [intOf]; omega
    · have hkK : k = K := by omega
      subst hkK
      have hgo2 : some (B % 2 ^ n, n, out) = G := by
        rw [← hgo, List.drop_of_length_le (by rw [HA.out.2.2.2.1]; exact Nat.le_refl _)]; rfl
      have hr := HA.out.1
      rw [← hgo2] at hr
      replace hr : (if b64Q out = s.data.toList then some out else none) = RES := hr
      obtain ⟨A2, c2, e2, hc2, hbs2⟩ := Bs.of_own (l := out) (n := N) hown
      injection e2 with g1 g2 g3
      subst g1 g3
      have hNs : N ≤ 1000000 := by omega
      have hcall := rbase_f A N c out wr _ hbs2 (Nat.le_refl _) hNs
      obtain ⟨t, ht⟩ : ∃ t : ByteArray, ⟨(b64Q out).toArray⟩ = t := ⟨_, rfl⟩
      rw [ht] at hcall
      have htd : t.data.toList = b64Q out := by rw [← ht]
      rw [← htd] at hr
      have HC := Lib.hid (And.intro hcall (And.intro hown (And.intro hbel (And.intro hol hc2))))
      have HR := Lib.hid hr
      have hE := HA.out.2.2.1
      clear hcall hown hbel hol hc2 hbs2 hgo hgo2 hr ht htd g2
      have hkI : (k : Int) ≤ s.size := by omega
      by_cases hks : k < s.size
      · have h61 := hE hks
        have hsu : s[k]'hks = 61 := by
          have h1 : s.data.toList[k]? = some (s[k]'hks) := by rw [Array.getElem?_toList, Array.getElem?_eq_getElem hks]; rfl
          rw [h1] at h61
          exact Option.some.inj h61
        have hsun : (s[k]'hks).toNat = 61 := by rw [hsu]; rfl
        have hksI : (k : Int) < s.size := by omega
        clear hsu h61 hE hlt hn
        go_wp2_with fail
        refine HC.out.1.mono ?_
        rintro e w1 ⟨rfl, b1⟩
        have hown1 := rk_below HC.out.2.1 b1
        have H1 := Lib.hid (And.intro (HC.out.2.2.1.trans (b1.mono HC.out.2.2.1.size)) hown1)
        clear b1 hown1
        try dsimp only
        by_cases hq : t.data.toList = s.data.toList
        · obtain rfl : t = s := by
            have h2 := Array.toList_inj.1 hq
            cases t; cases s; exact congrArg ByteArray.mk h2
          have hr := HR.out
          rw [if_pos rfl] at hr
          subst hr
          have hss : (t.toList == t.toList) = true := beq_self_eq_true _
          clear hq
          go_wp2
          go_ret2
          obtain ⟨A3, c3, e3, hc3, hbs3⟩ := Bs.of_own (l := out) (n := N) H1.out.2
          injection e3 with g1 g2 g3
          subst g1 g3
          exact ⟨A, N, c, rfl, hc3, HC.out.2.2.2.1.symm, hbs3, H1.out.1, fun ad e => (H1.out.2.lt ad.block (by subst e; rfl)).1⟩
        · have hts : ¬ t.toList = s.toList := fun h => hq (by rw [← ByteArray.toList_eq, ← ByteArray.toList_eq]; exact h)
          have hr := HR.out
          rw [if_neg hq] at hr
          subst hr
          have hss : (t.toList == s.toList) = false := beq_eq_false_iff_ne.2 hts
          clear hq hts
          go_wp2
          go_ret2
          exact RuRet.no H1.out.1
      · have hksI : ¬ (k : Int) < s.size := by omega
        clear hE hlt hn
        go_wp2_with fail
        refine HC.out.1.mono ?_
        rintro e w1 ⟨rfl, b1⟩
        have hown1 := rk_below HC.out.2.1 b1
        have H1 := Lib.hid (And.intro (HC.out.2.2.1.trans (b1.mono HC.out.2.2.1.size)) hown1)
        clear b1 hown1
        try dsimp only
        by_cases hq : t.data.toList = s.data.toList
        · obtain rfl : t = s := by
            have h2 := Array.toList_inj.1 hq
            cases t; cases s; exact congrArg ByteArray.mk h2
          have hr := HR.out
          rw [if_pos rfl] at hr
          subst hr
          have hss : (t.toList == t.toList) = true := beq_self_eq_true _
          clear hq
          go_wp2
          go_ret2
          obtain ⟨A3, c3, e3, hc3, hbs3⟩ := Bs.of_own (l := out) (n := N) H1.out.2
          injection e3 with g1 g2 g3
          subst g1 g3
          exact ⟨A, N, c, rfl, hc3, HC.out.2.2.2.1.symm, hbs3, H1.out.1, fun ad e => (H1.out.2.lt ad.block (by subst e; rfl)).1⟩
        · have hts : ¬ t.toList = s.toList := fun h => hq (by rw [← ByteArray.toList_eq, ← ByteArray.toList_eq]; exact h)
          have hr := HR.out
          rw [if_neg hq] at hr
          subst hr
          have hss : (t.toList == s.toList) = false := beq_eq_false_iff_ne.2 hts
          clear hq hts
          go_wp2
          go_ret2
          exact RuRet.no H1.out.1
end Go.Proofs.YthnbcilpallhjaaDoor
