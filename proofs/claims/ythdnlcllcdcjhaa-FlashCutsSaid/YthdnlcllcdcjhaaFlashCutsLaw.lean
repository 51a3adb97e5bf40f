/-
  FlashCuts: a program that the power cuts has turned just its first bytes, an erase likewise.
-/
import Derived.Test.YthdnlcllcdcjhaaFlashAgainLaw
namespace Go.Proofs.Ythdnlcllcdcjhaa
open Go.RowKit
/-- Is byte i one that a program has turned? -/
def hit (p : Int) (n N i : Nat) (ec : Int) : Prop := 0 ≤ p ∧ p ≤ (i : Int) ∧ (i : Int) - p < (n : Int) ∧ (i : Int) - p < (N : Int) ∧ (ec = 0 ∨ ec = 30)
instance (p : Int) (n N i : Nat) (ec : Int) : Decidable (hit p n N i ec) := by unfold hit; exact inferInstance
theorem prog_cut (w : World) (g bb wb : Nat) (F : Fl) (p : Int) (A : Option Addr) (n c N : Nat) (b : List UInt8) (h : FlashAt w g bb wb F) (hb : Bs w w.heap.size A n b) (hoff : 0 < n → Off g A ∧ Off bb A ∧ Off wb A) (hcap : n ≤ c)
    (hd : F.down = false) (hc : F.cut = true) (hr : F.rest = (N : Int)) (hp1 : -9223372036854775808 ≤ p) (hp2 : p ≤ 9223372036854775807) :
    Calls Try.prog 18 #[.pointer (some ⟨g, 0, none⟩), .int .i64 p, .slice A n c] w fun e w' => ∃ ec G, e = .returned (.int .i64 ec) ∧ FlashAt w' g bb wb G ∧ But3 w.heap.size g bb wb w w' ∧ G.dat.length = F.dat.length ∧ G.sec = F.sec ∧ G.wear = F.wear ∧ G.down = decide (ec = 30) ∧
      ∀ i, i < F.dat.length → G.dat[i]? = if hit p n N i ec then b[((i : Int) - p).toNat]? else F.dat[i]? := by
  have hlb := hb.len
  by_cases hck : ck F p n = 0
  · obtain ⟨_, p0, _, pn⟩ := ck_zero hck
    obtain ⟨q, rfl⟩ : ∃ q : Nat, p = (q : Int) := ⟨p.toNat, by omega⟩
    refine (prog_yes w g bb wb F q A n c b h hb hoff hck hcap (fun _ => by rw [hr]; omega)).mono fun e w' he => ?_
    rcases he with ⟨_, h2, h3⟩ | ⟨_, h2, h3, h4⟩
    · subst h3
      refine ⟨31, F, h2, h, But3.refl _ _ _ _ _, rfl, rfl, rfl, by rw [hd]; rfl, fun i _ => ?_⟩
      rw [if_neg (fun e => by rcases e.2.2.2.2 with e | e <;> cases e)]
    · have hlast : lasts F n = min n N := by
        unfold lasts
        rw [hc, hr]
        split
        · rename_i e; have := e.2; rw [Int.toNat_natCast]; omega
        · rename_i e
          have : ¬ (N : Int) < (n : Int) := fun x => e ⟨rfl, x⟩
          omega
      have hg : gone F n = decide (N < n) := by
        unfold gone
        rw [hc, hr, decide_eq_decide]
        constructor
        · intro e; have := e.2; omega
        · intro e; exact ⟨rfl, by omega⟩
      have hbl : (b.take (min n N)).length = min n N := by rw [List.length_take]; omega
      have hdat : (progBy F q b).dat = patch F.dat q (b.take (min n N)) := by
        show patch F.dat q (b.take (lasts F b.length)) = _
        rw [hlb, hlast]
      rw [hg] at h2
      refine ⟨_, _, h2, h3, h4, by rw [hdat]; exact patch_length _ _ _ (by rw [hbl]; omega), rfl, rfl, ?_, fun i hi => ?_⟩
      · show (F.down || gone F b.length) = _
        rw [hd, hlb, hg]
        by_cases e : N < n <;> simp [e]
      · rw [hdat, patch_get _ _ _ (by rw [hbl]; omega), hbl]
        by_cases e : N < n
        · rw [show (if decide (N < n) = true then (30 : Int) else 0) = 30 by rw [decide_eq_true e]; rfl]
          by_cases hi2 : q ≤ i ∧ i < q + min n N
          · rw [if_pos hi2, if_pos ⟨by omega, by omega, by omega, by omega, .inr rfl⟩, List.getElem?_take, if_pos (by omega)]
            congr 1; omega
          · rw [if_neg hi2, if_neg (fun x => hi2 ⟨by have := x.2.1; omega, by have := x.2.2.1; have := x.2.2.2.1; omega⟩)]
        · rw [show (if decide (N < n) = true then (30 : Int) else 0) = 0 by rw [decide_eq_false e]; rfl]
          by_cases hi2 : q ≤ i ∧ i < q + min n N
          · rw [if_pos hi2, if_pos ⟨by omega, by omega, by omega, by omega, .inl rfl⟩, List.getElem?_take, if_pos (by omega)]
            congr 1; omega
          · rw [if_neg hi2, if_neg (fun x => hi2 ⟨by have := x.2.1; omega, by have := x.2.2.1; have := x.2.2.2.1; omega⟩)]
  · have hc1 : ck F p n = 1 := by
      unfold ck at hck ⊢
      rw [hd, if_neg (by decide)] at hck ⊢
      split
      · rfl
      · rename_i h; rw [if_neg h] at hck; exact absurd rfl hck
    refine (prog_no w g bb wb F p A n c h hp1 hp2 hck).mono fun e w' ⟨h2, h3⟩ => ?_
    subst h3
    rw [hc1] at h2
    refine ⟨1, F, h2, h, But3.refl _ _ _ _ _, rfl, rfl, rfl, by rw [hd]; rfl, fun i _ => ?_⟩
    rw [if_neg (fun e => by rcases e.2.2.2.2 with e | e <;> cases e)]
theorem and127i (n : Int) : ∃ N : Nat, bits .and .i64 n 127 = (N : Int) ∧ N ≤ 127 := ⟨(n % 128).toNat, by rw [i64_and127]; omega, by omega⟩
theorem and3i (n : Int) : ∃ S : Nat, bits .and .i64 n 3 = (S : Int) ∧ S ≤ 3 := by
  have h3 : (BitVec.ofInt 64 3).toNat = 2 ^ 2 - 1 := by decide
  have key : (BitVec.ofInt 64 n &&& BitVec.ofInt 64 3).toNat = (n % ((2 ^ 64 : Nat) : Int)).toNat % 2 ^ 2 := by
    rw [BitVec.toNat_and, BitVec.toNat_ofInt, h3, Nat.and_two_pow_sub_one_eq_mod]
  have e : bits .and .i64 n 3 = n % 4 := by
    show IntKind.i64.wrap ((BitVec.ofInt 64 n &&& BitVec.ofInt 64 3).toNat : Nat) = n % 4
    rw [key, IntKind.wrap_i64]
    omega
  exact ⟨(n % 4).toNat, by rw [e]; omega, by omega⟩
theorem FlashAt.eqs {w : World} {g bb wb : Nat} {F G : Fl} (h : FlashAt w g bb wb F) (e : F = G) : FlashAt w g bb wb G := e ▸ h
/-- Bytes off the flash stand as they stood. -/
theorem Bs.over {w w' : World} {g bb wb I n : Nat} {l : List UInt8} (h : Bs w w.heap.size (some ⟨I, 0, none⟩) n l) (hb : But3 w.heap.size g bb wb w w') (h1 : I ≠ g) (h2 : I ≠ bb) (h3 : I ≠ wb) : Bs w' w'.heap.size (some ⟨I, 0, none⟩) n l := by
  have hs := hb.size
  refine ⟨h.len, fun hn => ?_⟩
  obtain ⟨b, o, e, hlt', hc'⟩ := h.place hn
  injection e with e
  injection e with e1 e2 _
  subst e1 e2
  exact ⟨I, 0, rfl, by omega, fun k u hu => (hb.cell (p := ⟨I, 0 + k, none⟩) hlt' h1 h2 h3).trans (hc' k u hu)⟩
set_option maxRecDepth 100000 in
set_option maxHeartbeats 2000000 in
theorem cuts_small (size p sector nn : Int) (A1 : Option Addr) (n1 c1 : Nat) (l1 : List UInt8) (A : Option Addr) (n c : Nat) (b : List UInt8) (w : World) (hw1 : Bs w w.heap.size A1 n1 l1) (hb : Bs w w.heap.size A n b) (hcap : n ≤ c) (hs : size ≤ 64) (hn : n ≤ 300) (hn1 : n1 ≤ 400) (hp1 : -9223372036854775808 ≤ p) (hp2 : p ≤ 9223372036854775807) :
    Calls Try.prog 4 #[.int .i64 size, .slice A1 n1 c1, .int .i64 p, .slice A n c, .int .i64 sector, .int .i64 nn] w fun e w' => e = .returned (.bool true) ∧ Below w.heap.size w w' := by
  obtain ⟨m, hm⟩ : ∃ m : Nat, min (max size 16) 4096 = (m : Int) := ⟨(min (max size 16) 4096).toNat, by omega⟩
  have m1 : 16 ≤ m := by omega
  have m2 : m ≤ 64 := by omega
  obtain ⟨N, hN, hN1⟩ := and127i nn
  obtain ⟨S, hS, hS1⟩ := and3i sector
  have hnew := fun w => new_f w 4 size 4 m (by decide) hm
  have hll := hb.len
  have h2i : (n : Int) ≤ 300 := by omega
  have h3i : (n1 : Int) ≤ 400 := by omega
  obtain ⟨F0, hF0⟩ : ∃ F, fresh 4 m = F := ⟨_, rfl⟩
  have fl : F0.dat.length = 4 * m := by rw [← hF0]; simp [fresh]
  have fs : F0.sec = m := by rw [← hF0]; rfl
  have fw : F0.wear = List.replicate 4 0 := by rw [← hF0]; rfl
  rw [hF0] at hnew
  obtain ⟨F1, hF1⟩ : ∃ F, { F0 with dat := patch F0.dat 0 (l1.take (min n1 F0.dat.length)), cut := false, down := false } = F := ⟨_, rfl⟩
  have fl1 : F1.dat.length = 4 * m := by rw [← hF1, ← fl]; exact patch_length _ _ _ (by rw [List.length_take]; omega)
  have fs1 : F1.sec = m := by rw [← hF1]; exact fs
  have fw1 : F1.wear = List.replicate 4 0 := by rw [← hF1]; exact fw
  have fd1 : F1.down = false := by rw [← hF1]
  obtain ⟨F2, hF2⟩ : ∃ F, { F1 with cut := decide ((0 : Int) ≤ (N : Int)), rest := (N : Int) } = F := ⟨_, rfl⟩
  have fl2 : F2.dat = F1.dat := by rw [← hF2]
  have fs2 : F2.sec = m := by rw [← hF2]; exact fs1
  have fw2 : F2.wear = List.replicate 4 0 := by rw [← hF2]; exact fw1
  have fd2 : F2.down = false := by rw [← hF2]; exact fd1
  have fc2 : F2.cut = true := by rw [← hF2]; show decide ((0 : Int) ≤ (N : Int)) = true; exact decide_eq_true (Int.natCast_nonneg N)
  have fr2 : F2.rest = (N : Int) := by rw [← hF2]
  obtain ⟨L, hL⟩ : ∃ L, F1.dat.length = L := ⟨_, rfl⟩
  have hLi : (L : Int) ≤ 256 := by omega
  have HH := Lib.hid (And.intro hll (And.intro hN1 (And.intro hS1 (And.intro m1 (And.intro m2 (And.intro fl1 (And.intro fl2 (And.intro fs2 fw2))))))))
  have HL := Lib.hid hL
  clear hm m1 m2 fl fs fw fs1 fw1 fd1 hN1 hS1 hll fl1 hL
  go_enter Try.func4, Try.ntmps4
  go_wp2_with fail
  refine (alive_any w).mono ?_
  rintro e u1 ⟨rfl, B1⟩
  go_wp2_with fail
  refine (hnew u1).mono ?_
  rintro e u2 ⟨g, bb, wb, rfl, f2, b2, g0, g1, g2⟩
  have B2 := B1.trans (b2.mono B1.size)
  have s1 := B1.size
  have hof : 0 < n → Off g A ∧ Off bb A ∧ Off wb A := fun hn => ⟨hb.offs hn (by omega), hb.offs hn (by omega), hb.offs hn (by omega)⟩
  clear hnew b2 B1
  go_wp2_with fail
  refine (load_f u2 g bb wb F0 A1 n1 c1 l1 f2 (hw1.below B2).lt).mono ?_
  rintro e u3 ⟨rfl, f3, b3⟩
  replace f3 := f3.eqs hF1
  have B3 := B2.trans (b3.toBelow B2.size (by omega) (by omega) (by omega))
  clear f2 b3 B2
  go_wp2_with fail
  refine (image_f u3 g bb wb F1 f3).mono ?_
  rw [HL.out]
  rintro e u4 ⟨rfl, r4, b4, s4, _⟩
  have f4 := f3.below b4
  have B4 := B3.trans (b4.mono B3.size)
  have hlt := f3.lt
  generalize hI : u3.heap.size = I at *
  clear f3 b4 B3
  go_wp2_with fail
  refine (cut_f u4 g bb wb F1 N f4 (by omega) (by have := HH.out.2.1; omega)).mono ?_
  rintro e u5 ⟨rfl, f5, o5⟩
  replace f5 := f5.eqs hF2
  have b5 : But3 u4.heap.size g bb wb u4 u5 := But3.only1 o5
  have B5 := B4.trans (b5.toBelow B4.size (by omega) (by omega) (by omega))
  have s5 := b5.size
  have r5 : Bs u5 u5.heap.size (some ⟨I, 0, none⟩) L F1.dat := by
    refine (Bs.lt (B := u4.heap.size) ⟨r4.len, fun hn => ?_⟩)
    obtain ⟨b, o, e, hlt', hc'⟩ := r4.place hn
    injection e with e
    injection e with e1 e2 _
    subst e1 e2
    exact ⟨I, 0, rfl, hlt', fun k u hu => (b5.cell (p := ⟨I, 0 + k, none⟩) hlt' (by show I ≠ _; omega) (by show I ≠ _; omega) (by show I ≠ _; omega)).trans (hc' k u hu)⟩
  clear f4 o5 b5 B4 r4
  go_wp2_with fail
  refine (prog_cut u5 g bb wb F2 p A n c N b f5 (hb.below B5).lt hof hcap fd2 fc2 fr2 hp1 hp2).mono ?_
  rintro e u6 ⟨ec, F3, rfl, f6, b6, fl3, fs3, fw3, fd3, hspec⟩
  have B6 := B5.trans (b6.toBelow B5.size (by omega) (by omega) (by omega))
  have s6 := b6.size
  have r6 : Bs u6 u6.heap.size (some ⟨I, 0, none⟩) L F1.dat := by
    refine (Bs.lt (B := u5.heap.size) ⟨r5.len, fun hn => ?_⟩)
    obtain ⟨b, o, e, hlt', hc'⟩ := r5.place hn
    injection e with e
    injection e with e1 e2 _
    subst e1 e2
    exact ⟨I, 0, rfl, hlt', fun k u hu => (b6.cell (p := ⟨I, 0 + k, none⟩) hlt' (by show I ≠ _; omega) (by show I ≠ _; omega) (by show I ≠ _; omega)).trans (hc' k u hu)⟩
  clear f5 b6 B5 r5
  have fl3L : F3.dat.length = L := by rw [fl3, HH.out.2.2.2.2.2.2.1, HL.out]
  have HF := Lib.hid (And.intro fl3 (And.intro fs3 (And.intro fw3 (And.intro fd3 hspec))))
  clear fl3 fs3 fw3 fd3 hspec
  go_wp2_with fail
  refine (image_f u6 g bb wb F3 f6).mono ?_
  rw [fl3L]
  replace fl3L := Lib.hid fl3L
  rintro e u7 ⟨rfl, r7, b7, s7, _⟩
  have f7 := f6.below b7
  have B7 := B6.trans (b7.mono B6.size)
  have i7 := (r6.below b7).lt
  have hlt6 := f6.lt
  generalize hJ : u6.heap.size = J at *
  clear f6 b7 B6 r6
  have hp3 : 0 ≤ p ∨ p < 0 := by omega
  go_wp2_with fail
  go_loop [59] (fun i => ∃ k : Nat, (k : Int) ≤ (L : Int) ∧ i = .int .i64 k) (fun i => L - (intOf i).toNat)
  case atStart => exact ⟨0, by omega, rfl⟩
  case round =>
    obtain ⟨k, hk, rfl⟩ := hrel
    by_cases hlt : (k : Int) < (L : Int)
    · have hkL : k < L := by omega
      have hbl : b.length = n := HH.out.1
      have sp := HF.out.2.2.2.2 k (by rw [HH.out.2.2.2.2.2.2.1, HL.out]; exact hkL)
      rw [HH.out.2.2.2.2.2.2.1] at sp
      obtain ⟨v, hv⟩ := byte_get (l := F1.dat) (k := k) (by rw [HL.out]; omega)
      obtain ⟨u, hu⟩ := byte_get (l := F3.dat) (k := k) (by rw [fl3L.out]; omega)
      have x1 := i7.at_ k v hv
      have x2 := r7.at_ k u hu
      rw [Nat.zero_add] at x1 x2
      rw [hv, hu] at sp
      obtain ⟨d, hd⟩ : ∃ d, IntKind.i64.wrap ((k : Int) - p) = d := ⟨_, rfl⟩
      clear hv hu hbl
      by_cases hh : hit p n N k ec
      · obtain ⟨h0, h1, h2, h3, h4⟩ := id hh
        rw [if_pos hh] at sp
        obtain ⟨j, hj⟩ : ∃ j : Nat, (k : Int) - p = (j : Int) := ⟨((k : Int) - p).toNat, by omega⟩
        rw [hj, Int.toNat_natCast] at sp
        obtain rfl : d = (j : Int) := by rw [← hd, hj, IntKind.wrap_i64]; omega
        have rb := hb.below B7
        obtain ⟨b0, o0, rfl, _, hp⟩ := rb.place (by omega)
        have x3 := hp j u sp.symm
        clear hp sp rb hh
        have j0 : (0 : Int) ≤ (j : Int) := by omega
        have j1 : (j : Int) < (n : Int) := by omega
        have j2 : (j : Int) < (N : Int) := by omega
        clear h1 h2 h3 hj
        rcases h4 with rfl | rfl
        · go_wp2
          go_round
          case rel => exact ⟨k + 1, by omega, by go_num⟩
          case measure => simp [intOf]; omega
        · go_wp2
          go_round
          case rel => exact ⟨k + 1, by omega, by go_num⟩
          case measure => simp [intOf]; omega
      · rw [if_neg hh] at sp
        injection sp with sp
        subst sp
        by_cases h0 : 0 ≤ p
        · obtain hdv : d = (k : Int) - p := by rw [← hd, IntKind.wrap_i64]; omega
          by_cases h1 : 0 ≤ d
          · by_cases h2 : d < (n : Int)
            · by_cases h3 : d < (N : Int)
              · have e0 : ¬ ec = 0 := fun e => hh ⟨h0, by omega, by omega, by omega, .inl e⟩
                have e1 : ¬ ec = 30 := fun e => hh ⟨h0, by omega, by omega, by omega, .inr e⟩
                clear hh hdv
                have q0 : (ec == 0) = false := beq_false_of_ne e0
                have q1 : (ec == 30) = false := beq_false_of_ne e1
                go_wp2
                go_round
                case rel => exact ⟨k + 1, by omega, by go_num⟩
                case measure => simp [intOf]; omega
              · clear hh hdv
                go_wp2
                go_round
                case rel => exact ⟨k + 1, by omega, by go_num⟩
                case measure => simp [intOf]; omega
            · clear hh hdv
              go_wp2
              go_round
              case rel => exact ⟨k + 1, by omega, by go_num⟩
              case measure => simp [intOf]; omega
          · clear hh hdv
            go_wp2
            go_round
            case rel => exact ⟨k + 1, by omega, by go_num⟩
            case measure => simp [intOf]; omega
        · clear hh
          go_wp2
          go_round
          case rel => exact ⟨k + 1, by omega, by go_num⟩
          case measure => simp [intOf]; omega
    · clear hp1 hp2 hp3 i7
      go_wp2_with fail
      refine (down_f u7 g bb wb F3 f7).mono ?_
      rw [show F3.down = (ec == 30) from HF.out.2.2.2.1]
      rintro e u8 ⟨rfl, hw⟩
      obtain rfl := hw.symm
      go_wp2_with fail
      refine (restore_f u7 g bb wb F3 f7).mono ?_
      rintro e u8 ⟨rfl, f8, o8⟩
      have b8 : But3 u7.heap.size g bb wb u7 u8 := But3.only1 o8
      have B8 := B7.trans (b8.toBelow B7.size (by omega) (by omega) (by omega))
      have s8 := b8.size
      have r8 := r7.over b8 (by omega) (by omega) (by omega)
      clear f7 o8 b8 B7 r7
      go_wp2_with fail
      refine (cut_f u8 g bb wb _ N f8 (by omega) (by have := HH.out.2.1; omega)).mono ?_
      rintro e u9 ⟨rfl, f9, o9⟩
      obtain ⟨F5, hF5⟩ : ∃ F : Fl, { { F3 with cut := false, down := false } with cut := decide ((0 : Int) ≤ (N : Int)), rest := (N : Int) } = F := ⟨_, rfl⟩
      replace f9 := f9.eqs hF5
      have b9 : But3 u8.heap.size g bb wb u8 u9 := But3.only1 o9
      have B9 := B8.trans (b9.toBelow B8.size (by omega) (by omega) (by omega))
      have s9 := b9.size
      have r9 := r8.over b9 (by omega) (by omega) (by omega)
      clear f8 o9 b9 B8 r8
      have fd5 : F5.down = false := by rw [← hF5]
      have fc5 : F5.cut = true := by rw [← hF5]; show decide ((0 : Int) ≤ (N : Int)) = true; exact decide_eq_true (Int.natCast_nonneg N)
      have fr5 : F5.rest = (N : Int) := by rw [← hF5]
      have fw5 : F5.wear = List.replicate 4 0 := by rw [← hF5]; exact HF.out.2.2.1.trans HH.out.2.2.2.2.2.2.2.2
      have fs5 : F5.sec = m := by rw [← hF5]; exact HF.out.2.1.trans HH.out.2.2.2.2.2.2.2.1
      have fl5 : F5.dat = F3.dat := by rw [← hF5]
      clear hF5
      obtain ⟨gc, hgc⟩ : ∃ gc : Int, (if gone F5 F5.sec = true then 30 else 0) = gc := ⟨_, rfl⟩
      have herase := fun h => erase_yes u9 g bb wb F5 S f9 fd5 (by rw [fw5]; have := HH.out.2.2.1; simp; omega) h
      rw [hgc] at herase
      have HG := Lib.hid (And.intro hgc (And.intro fc5 (And.intro fr5 (And.intro fw5 (And.intro fs5 fl5)))))
      clear hgc fd5 fc5 fr5 fw5 fs5 fl5 f9
      go_wp2_with fail
      refine (herase (fun _ => by rw [HG.out.2.2.1]; omega)).mono ?_
      rintro e u10 ⟨rfl, f10, b10⟩
      obtain ⟨F6, hF6⟩ : ∃ F : Fl, eraseBy F5 S = F := ⟨_, rfl⟩
      rw [hF6] at f10
      have B10 := B9.trans (b10.toBelow B9.size (by omega) (by omega) (by omega))
      have s10 := b10.size
      have r10 := r9.over b10 (by omega) (by omega) (by omega)
      have fs6 : F6.sec = m := by rw [← hF6]; exact HG.out.2.2.2.2.1
      have hm := HH.out.2.2.2.1
      have hm' := HH.out.2.2.2.2.1
      have hLm : L = 4 * m := by rw [← HL.out]; exact HH.out.2.2.2.2.2.1
      have hSm : S * m + m ≤ L := by
        have h3 := HH.out.2.2.1
        have : S * m ≤ 3 * m := Nat.mul_le_mul_right m h3
        omega
      have fl6 : F6.dat.length = L := by rw [← hF6]; show (setAll F5.dat _ _).length = L; rw [setAll_length, HG.out.2.2.2.2.2, fl3L.out]
      have fw6 : wearS F6 (S : Int) = 1 := by
        have h3 := HH.out.2.2.1
        have e : F6.wear = (List.replicate 4 0).set S 1 := by
          rw [← hF6]
          show F5.wear.set S (min (F5.wear.getD S 0 + 1) 1073741824) = _
          rw [HG.out.2.2.2.1]
          obtain rfl | rfl | rfl | rfl : S = 0 ∨ S = 1 ∨ S = 2 ∨ S = 3 := by omega
          all_goals rfl
        unfold wearS hasS
        rw [e]
        obtain rfl | rfl | rfl | rfl : S = 0 ∨ S = 1 ∨ S = 2 ∨ S = 3 := by omega
        all_goals decide
      have hlast : lasts F5 m = min m N := by
        unfold lasts
        rw [HG.out.2.1, HG.out.2.2.1]
        split
        · rename_i e; have := e.2; rw [Int.toNat_natCast]; omega
        · rename_i e
          have : ¬ (N : Int) < (m : Int) := fun x => e ⟨rfl, x⟩
          omega
      have hsp : ∀ i, i < L → F6.dat[i]? = if S * m ≤ i ∧ i < S * m + min m N then some 255 else F3.dat[i]? := by
        intro i hi
        rw [← hF6]
        show (setAll F5.dat (S * F5.sec) (lasts F5 F5.sec))[i]? = _
        rw [HG.out.2.2.2.2.1, hlast, HG.out.2.2.2.2.2]
        exact setAll_get _ _ _ _ (by rw [fl3L.out]; omega)
      have hgc : gc = if N < m then 30 else 0 := by
        rw [← HG.out.1]
        unfold gone
        rw [HG.out.2.1, HG.out.2.2.1, HG.out.2.2.2.2.1]
        by_cases e : N < m
        · rw [if_pos e, if_pos (decide_eq_true ⟨rfl, by omega⟩)]
        · rw [if_neg e, if_neg (fun x => e (by have := (of_decide_eq_true x).2; omega))]
      clear herase hF6 hlast b10 B9 r9 hLm
      have HS := Lib.hid (And.intro fw6 (And.intro hgc hsp))
      clear fw6 hgc hsp
      go_wp2_with fail
      refine (image_f u10 g bb wb F6 f10).mono ?_
      rw [fl6]
      replace fl6 := Lib.hid fl6
      rintro e u11 ⟨rfl, r11, b11, s11, _⟩
      have f11 := f10.below b11
      have B11 := B10.trans (b11.mono B10.size)
      have i11 := (r10.below b11).lt
      generalize hK : u10.heap.size = K at *
      clear f10 b11 B10 r10
      obtain ⟨Z, hZ⟩ : ∃ Z, S * m = Z := ⟨_, rfl⟩
      rw [hZ] at hSm
      rw [hZ] at HS
      have hZi : (S : Int) * (m : Int) = (Z : Int) := by rw [← hZ]; push_cast; rfl
      clear hZ
      go_wp2_with fail
      go_loop [124] (fun i => ∃ k : Nat, (k : Int) ≤ (L : Int) ∧ i = .int .i64 k) (fun i => L - (intOf i).toNat)
      case atStart => exact ⟨0, by omega, rfl⟩
      case round =>
        obtain ⟨k, hk, rfl⟩ := hrel
        by_cases hlt : (k : Int) < (L : Int)
        · have hkL : k < L := by omega
          have sp := HS.out.2.2 k hkL
          obtain ⟨v, hv⟩ := byte_get (l := F3.dat) (k := k) (by rw [fl3L.out]; omega)
          obtain ⟨u, hu⟩ := byte_get (l := F6.dat) (k := k) (by rw [fl6.out]; omega)
          have x1 := i11.at_ k v hv
          have x2 := r11.at_ k u hu
          rw [Nat.zero_add] at x1 x2
          rw [hv, hu] at sp
          clear hv hu
          by_cases h1 : (0 : Int) ≤ (k : Int) - (Z : Int)
          · by_cases h2 : (k : Int) - (Z : Int) < (m : Int)
            · by_cases h3 : (k : Int) - (Z : Int) < (N : Int)
              · rw [if_pos ⟨by omega, by omega⟩] at sp
                injection sp with sp
                subst sp
                go_wp2_with fail
                refine (sector_f u11 g bb wb F6 f11).mono ?_
                rw [fs6]
                rintro e u12 ⟨rfl, hw⟩
                obtain rfl := hw.symm
                go_wp2_with fail
                refine (sector_f u11 g bb wb F6 f11).mono ?_
                rw [fs6]
                rintro e u12 ⟨rfl, hw⟩
                obtain rfl := hw.symm
                go_wp2
                go_round
                case rel => exact ⟨k + 1, by omega, by go_num⟩
                case measure => simp [intOf]; omega
              · rw [if_neg (fun x => by omega)] at sp
                injection sp with sp
                subst sp
                go_wp2_with fail
                refine (sector_f u11 g bb wb F6 f11).mono ?_
                rw [fs6]
                rintro e u12 ⟨rfl, hw⟩
                obtain rfl := hw.symm
                go_wp2_with fail
                refine (sector_f u11 g bb wb F6 f11).mono ?_
                rw [fs6]
                rintro e u12 ⟨rfl, hw⟩
                obtain rfl := hw.symm
                go_wp2
                go_round
                case rel => exact ⟨k + 1, by omega, by go_num⟩
                case measure => simp [intOf]; omega
            · rw [if_neg (fun x => by omega)] at sp
              injection sp with sp
              subst sp
              go_wp2_with fail
              refine (sector_f u11 g bb wb F6 f11).mono ?_
              rw [fs6]
              rintro e u12 ⟨rfl, hw⟩
              obtain rfl := hw.symm
              go_wp2_with fail
              refine (sector_f u11 g bb wb F6 f11).mono ?_
              rw [fs6]
              rintro e u12 ⟨rfl, hw⟩
              obtain rfl := hw.symm
              go_wp2
              go_round
              case rel => exact ⟨k + 1, by omega, by go_num⟩
              case measure => simp [intOf]; omega
          · rw [if_neg (fun x => by omega)] at sp
            injection sp with sp
            subst sp
            go_wp2_with fail
            refine (sector_f u11 g bb wb F6 f11).mono ?_
            rw [fs6]
            rintro e u12 ⟨rfl, hw⟩
            obtain rfl := hw.symm
            go_wp2
            go_round
            case rel => exact ⟨k + 1, by omega, by go_num⟩
            case measure => simp [intOf]; omega
        · have hgc := HS.out.2.1
          have fw6 := HS.out.1
          by_cases e : N < m
          · rw [if_pos e] at hgc
            subst hgc
            have ei : (N : Int) < (m : Int) := by omega
            go_wp2_with fail
            refine (sector_f u11 g bb wb F6 f11).mono ?_
            rw [fs6]
            rintro e u12 ⟨rfl, hw⟩
            obtain rfl := hw.symm
            go_wp2_with fail
            refine (wear_f u11 g bb wb F6 S f11).mono ?_
            rw [fw6]
            rintro e u12 ⟨rfl, hw⟩
            obtain rfl := hw.symm
            go_wp2
            go_ret
            exact ⟨rfl, B11⟩
          · rw [if_neg e] at hgc
            subst hgc
            have ei : ¬ (N : Int) < (m : Int) := by omega
            go_wp2_with fail
            refine (sector_f u11 g bb wb F6 f11).mono ?_
            rw [fs6]
            rintro e u12 ⟨rfl, hw⟩
            obtain rfl := hw.symm
            go_wp2_with fail
            refine (wear_f u11 g bb wb F6 S f11).mono ?_
            rw [fw6]
            rintro e u12 ⟨rfl, hw⟩
            obtain rfl := hw.symm
            go_wp2
            go_ret
            exact ⟨rfl, B11⟩
set_option maxRecDepth 100000 in
theorem cuts_law (size p sector nn : Int) (A1 : Option Addr) (n1 c1 : Nat) (l1 : List UInt8) (A : Option Addr) (n c : Nat) (b : List UInt8) (w : World) (hw1 : Bs w w.heap.size A1 n1 l1) (hb : Bs w w.heap.size A n b) (hcap : n ≤ c) (hp1 : -9223372036854775808 ≤ p) (hp2 : p ≤ 9223372036854775807) :
    Calls Try.prog 4 #[.int .i64 size, .slice A1 n1 c1, .int .i64 p, .slice A n c, .int .i64 sector, .int .i64 nn] w fun e w' => e = .returned (.bool true) ∧ Below w.heap.size w w' := by
  by_cases h1 : size ≤ 64
  · by_cases h2 : n ≤ 300
    · by_cases h3 : n1 ≤ 400
      · exact cuts_small size p sector nn A1 n1 c1 l1 A n c b w hw1 hb hcap h1 h2 h3 hp1 hp2
      · have h2i : (n : Int) ≤ 300 := by omega
        have h3i : ¬ (n1 : Int) ≤ 400 := by omega
        clear hp1 hp2
        go_enter Try.func4, Try.ntmps4
        go_wp2_with fail
        refine (alive_any w).mono ?_
        rintro e u1 ⟨rfl, B1⟩
        go_wp2
        go_ret
        exact ⟨rfl, B1⟩
    · have h2i : ¬ (n : Int) ≤ 300 := by omega
      clear hp1 hp2
      go_enter Try.func4, Try.ntmps4
      go_wp2_with fail
      refine (alive_any w).mono ?_
      rintro e u1 ⟨rfl, B1⟩
      go_wp2
      go_ret
      exact ⟨rfl, B1⟩
  · clear hp1 hp2
    go_enter Try.func4, Try.ntmps4
    go_wp2_with fail
    refine (alive_any w).mono ?_
    rintro e u1 ⟨rfl, B1⟩
    go_wp2
    go_ret
    exact ⟨rfl, B1⟩
end Go.Proofs.Ythdnlcllcdcjhaa
