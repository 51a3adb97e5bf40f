/-
  FlashAgain: bytes that are programmed once more are there as they were.
-/
import Derived.StillTailTactics
import Derived.Deep.QuietTactic
import Derived.Test.YthdnlcllcdcjhaaFlashAlive
namespace Go.Proofs.Ythdnlcllcdcjhaa
open Go.RowKit
set_option maxHeartbeats 400000 in
theorem same_yes (w : World) (A1 A2 : Option Addr) (n c1 c2 : Nat) (l : List UInt8) (h1 : Bs w w.heap.size A1 n l) (h2 : Bs w w.heap.size A2 n l) (hs : (n : Int) ≤ 262144) :
    Calls Try.prog 25 #[.slice A1 n c1, .slice A2 n c2] w fun e w' => e = .returned (.bool true) ∧ Below w.heap.size w w' := by
  have hl := Lib.hid h1.len
  go_enter Try.func25, Try.ntmps25
  go_wp2
  go_loopw [5] (fun i wr => ∃ k : Nat, (k : Int) ≤ (n : Int) ∧ i = .int .i64 k ∧ Below w.heap.size w wr) (fun i _ => n - (intOf i).toNat)
  case atStart => exact ⟨0, by omega, rfl, Below.refl _ _⟩
  case round =>
    obtain ⟨k, hk, rfl, hbel⟩ := hrel
    by_cases hlt : (k : Int) < (n : Int)
    · have r1 := h1.below hbel
      have r2 := h2.below hbel
      obtain ⟨b1, o1, rfl, _, hp1⟩ := r1.place (by omega)
      obtain ⟨b2, o2, rfl, _, hp2⟩ := r2.place (by omega)
      obtain ⟨u, hu⟩ := byte_get (l := l) (k := k) (by rw [hl.out]; omega)
      have x1 := hp1 k u hu
      have x2 := hp2 k u hu
      clear hp1 hp2 hu r1 r2
      have hk0 : (0 : Int) ≤ (k : Int) := by omega
      go_wp2
      go_quiet (fail)
      go_wp2
      go_roundw
      case rel => exact ⟨k + 1, by omega, by go_num, hbel.trans (drewN_below _ _ _)⟩
      case measure => simp [intOf]; omega
    · go_wp2
      go_ret
      exact ⟨rfl, hbel⟩
theorem Bs.offs {w : World} {B n g : Nat} {A : Option Addr} {l : List UInt8} (h : Bs w B A n l) (hn : 0 < n) (hg : B ≤ g) : Off g A := fun a ha => by
  obtain ⟨b, o, e, hb, _⟩ := h.place hn
  rw [ha] at e
  injection e with e
  subst e
  show b ≠ g
  omega
theorem lasts_nocut {F : Fl} (h : F.cut = false) (n : Nat) : lasts F n = n := by unfold lasts; rw [if_neg (fun e => by rw [h] at e; cases e.1)]
theorem gone_nocut {F : Fl} (h : F.cut = false) (n : Nat) : gone F n = false := decide_eq_false (fun e => by rw [h] at e; cases e.1)
theorem progBy_dat {F : Fl} (h : F.cut = false) (p : Nat) (l : List UInt8) : (progBy F p l).dat = patch F.dat p l := by
  show patch F.dat p (l.take (lasts F l.length)) = _
  rw [lasts_nocut h, List.take_of_length_le (Nat.le_refl _)]
theorem piece_patch (d l : List UInt8) (p : Nat) (h : p + l.length ≤ d.length) : ((patch d p l).drop p).take l.length = l := by
  refine List.ext_getElem? fun i => ?_
  rw [List.getElem?_take]
  by_cases hi : i < l.length
  · rw [if_pos hi, List.getElem?_drop, patch_get d p l h, if_pos (by omega)]
    congr 1; omega
  · rw [if_neg hi, List.getElem?_eq_none (by omega)]
theorem patch_twice (d l : List UInt8) (p : Nat) (h : p + l.length ≤ d.length) : patch (patch d p l) p l = patch d p l := by
  refine List.ext_getElem? fun i => ?_
  rw [patch_get _ _ _ (by rw [patch_length _ _ _ h]; exact h), patch_get d p l h]
  split <;> rfl
theorem okBits_same (l : List UInt8) : okBits l l = true := List.all_eq_true.2 fun _ _ => clr_same _
theorem okBits_255 (n : Nat) (l : List UInt8) (h : l.length ≤ n) : okBits (List.replicate n 255) l = true := List.all_eq_true.2 fun j hj => by
  have := List.mem_range.1 hj
  have e : (List.replicate n (255 : UInt8)).getD j 0 = 255 := by rw [List.getD_eq_getElem?_getD, List.getElem?_replicate, if_pos (by omega)]; rfl
  rw [e]; exact clr_255 _
theorem piece_fresh (n m p k : Nat) (h : p + k ≤ n * m) : piece (fresh n m) p k = List.replicate k 255 := by
  unfold piece fresh
  simp only [List.drop_replicate, List.take_replicate]
  rw [show min k (n * m - p) = k by omega]
set_option maxRecDepth 100000 in
set_option maxHeartbeats 1000000 in
theorem again_small (size p : Int) (A : Option Addr) (n c : Nat) (l : List UInt8) (w : World) (hb : Bs w w.heap.size A n l) (hcap : n ≤ c) (h1 : size ≤ 64) (h2 : n ≤ 200) (hp1 : -9223372036854775808 ≤ p) (hp2 : p ≤ 9223372036854775807) :
    Calls Try.prog 6 #[.int .i64 size, .int .i64 p, .slice A n c] w fun e w' => e = .returned (.bool true) ∧ Below w.heap.size w w' := by
  obtain ⟨m, hm⟩ : ∃ m : Nat, min (max size 16) 4096 = (m : Int) := ⟨(min (max size 16) 4096).toNat, by omega⟩
  have m1 : 16 ≤ m := by omega
  have m2 : m ≤ 64 := by omega
  have hnew := fun w => new_f w 4 size 4 m (by decide) hm
  have hll := hb.len
  have h2i : (n : Int) ≤ 200 := by omega
  obtain ⟨F, hF⟩ : ∃ F, fresh 4 m = F := ⟨_, rfl⟩
  have fl : F.dat.length = 4 * m := by rw [← hF]; simp [fresh]
  have fd : F.down = false := by rw [← hF]; rfl
  have fc : F.cut = false := by rw [← hF]; rfl
  have ft : F.turned = 0 := by rw [← hF]; rfl
  rw [hF] at hnew
  by_cases hck : ck F p n = 0
  · obtain ⟨_, p0, _, pn⟩ := ck_zero hck
    obtain ⟨q, rfl⟩ : ∃ q : Nat, p = (q : Int) := ⟨p.toNat, by omega⟩
    have hql : q + l.length ≤ F.dat.length := by omega
    have k0 : okBits (piece F q n) l = true := by rw [← hF, piece_fresh 4 m q n (by omega)]; exact okBits_255 n l (by omega)
    have e0 : (if gone F n = true then (30 : Int) else 0) = 0 := by rw [gone_nocut fc]; rfl
    obtain ⟨G, hG⟩ : ∃ G, progBy F q l = G := ⟨_, rfl⟩
    have gd : G.dat = patch F.dat q l := by rw [← hG]; exact progBy_dat fc q l
    have gl : G.dat.length = F.dat.length := by rw [gd]; exact patch_length _ _ _ hql
    have gc : G.cut = false := by rw [← hG]; exact fc
    have gdn : G.down = false := by rw [← hG]; show (F.down || gone F l.length) = false; rw [fd, gone_nocut fc]; rfl
    have gt : G.turned = n := by rw [← hG]; show min (F.turned + lasts F l.length) 1073741824 = n; rw [ft, lasts_nocut fc]; omega
    have gck : ck G (q : Int) n = 0 := by
      unfold ck; rw [gdn, gl, if_neg (by decide), if_neg (by omega)]
    have gp : piece G q n = l := by unfold piece; rw [gd, ← hll]; exact piece_patch _ _ _ hql
    have k1 : okBits (piece G q n) l = true := by rw [gp]; exact okBits_same l
    have e1 : (if gone G n = true then (30 : Int) else 0) = 0 := by rw [gone_nocut gc]; rfl
    obtain ⟨K, hK⟩ : ∃ K, progBy G q l = K := ⟨_, rfl⟩
    have kd : K.dat = G.dat := by rw [← hK, progBy_dat gc, gd]; exact patch_twice _ _ _ hql
    have kc : K.cut = false := by rw [← hK]; exact gc
    have kdn : K.down = false := by rw [← hK]; show (G.down || gone G l.length) = false; rw [gdn, gone_nocut gc]; rfl
    have kt : K.turned = 2 * n := by rw [← hK]; show min (G.turned + lasts G l.length) 1073741824 = 2 * n; rw [gt, lasts_nocut gc]; omega
    have kck : ck K (q : Int) n = 0 := by
      unfold ck; rw [kdn, kd, gl, if_neg (by decide), if_neg (by omega)]
    have kp : piece K q n = l := by unfold piece; rw [kd]; exact gp
    have hsz : F.dat.length ≤ 256 := by omega
    have HSZ := Lib.hid hsz
    have HGL := Lib.hid gl
    clear fl ft fd gdn kdn gt hql pn hm m1 m2 hsz gd gl
    go_enter Try.func6, Try.ntmps6
    go_wp2_with fail
    refine (alive_any w).mono ?_
    rintro e u1 ⟨rfl, B1⟩
    go_wp2_with fail
    refine (hnew u1).mono ?_
    rintro e u2 ⟨g, bb, wb, rfl, f2, b2, g0, g1, g2⟩
    have B2 := B1.trans (b2.mono B1.size)
    have s1 := B1.size
    have hof : 0 < n → Off g A ∧ Off bb A ∧ Off wb A := fun hn => ⟨hb.offs hn (by omega), hb.offs hn (by omega), hb.offs hn (by omega)⟩
    clear hnew b2 B1
    go_wp2_with fail
    refine (prog_ok q A n c l 0 f2 (hb.below B2).lt hof hck hcap (fun h => by rw [fc] at h; cases h) k0 e0).mono ?_
    rw [hG]
    rintro e u3 ⟨rfl, f3, b3⟩
    have B3 := B2.trans (b3.toBelow B2.size (by omega) (by omega) (by omega))
    clear f2 b3 B2
    go_wp2_with fail
    refine (image_f u3 g bb wb G f3).mono ?_
    rintro e u4 ⟨rfl, r4, b4, s4, _⟩
    have f4 := f3.below b4
    have B4 := B3.trans (b4.mono B3.size)
    have hlt := f3.lt
    generalize hI : u3.heap.size = I at *
    clear f3 b4 B3
    go_wp2_with fail
    refine (prog_ok q A n c l 0 f4 (hb.below B4).lt hof gck hcap (fun h => by rw [gc] at h; cases h) k1 e1).mono ?_
    rw [hK]
    rintro e u5 ⟨rfl, f5, b5⟩
    have B5 := B4.trans (b5.toBelow B4.size (by omega) (by omega) (by omega))
    have s5 := b5.size
    have r5 : Bs u5 u5.heap.size (some ⟨I, 0, none⟩) G.dat.length G.dat := by
      refine (Bs.lt (B := u4.heap.size) ⟨r4.len, fun hn => ?_⟩)
      obtain ⟨b, o, e, hlt', hc'⟩ := r4.place hn
      injection e with e
      injection e with e1 e2 _
      subst e1 e2
      exact ⟨I, 0, rfl, hlt', fun k u hu => (b5.cell (p := ⟨I, 0 + k, none⟩) hlt' (by show I ≠ _; omega) (by show I ≠ _; omega) (by show I ≠ _; omega)).trans (hc' k u hu)⟩
    clear f4 b5 B4 r4
    go_wp2_with fail
    refine (read_c (q : Int) (n : Int) q n rfl rfl f5 kck).mono ?_
    rintro e u6 ⟨rfl, r6, b6, s6, _⟩
    rw [kp] at r6
    have f6 := f5.below b6
    have B6 := B5.trans (b6.mono B5.size)
    have i6 := (r5.below b6).lt
    clear f5 b6 B5 r5
    go_wp2_with fail
    refine (same_yes u6 _ A n n c l r6 (hb.below B6).lt (by omega)).mono ?_
    rintro e u7 ⟨rfl, b7⟩
    have f7 := f6.below b7
    have B7 := B6.trans (b7.mono B6.size)
    have i7 := (i6.below b7).lt
    clear f6 b7 B6 r6 i6
    go_wp2_with fail
    refine (image_f u7 g bb wb K f7).mono ?_
    rintro e u8 ⟨rfl, r8, b8, s8, _⟩
    rw [kd] at r8
    have f8 := f7.below b8
    have B8 := B7.trans (b8.mono B7.size)
    have i8 := (i7.below b8).lt
    rw [kd]
    clear f7 b8 B7 i7
    go_wp2_with fail
    refine (same_yes u8 _ _ _ _ _ G.dat r8 i8 (by have := HSZ.out; have := HGL.out; omega)).mono ?_
    rintro e u9 ⟨rfl, b9⟩
    have f9 := f8.below b9
    have B9 := B8.trans (b9.mono B8.size)
    clear f8 b9 B8 r8 i8
    go_wp2_with fail
    refine (turned_f u9 g bb wb K f9).mono ?_
    rw [kt]
    rintro e u10 ⟨rfl, hw⟩
    obtain rfl := hw.symm
    obtain ⟨r, hr⟩ : ∃ r, 2 * n = r := ⟨_, rfl⟩
    rw [hr]
    have hmul : (2 : Int) * (n : Int) = (r : Int) := by omega
    have hrw : IntKind.i64.wrap (r : Int) = (r : Int) := by rw [IntKind.wrap_i64]; omega
    clear hr
    go_wp2
    go_ret
    exact ⟨rfl, B9⟩
  · have hc1 : ck F p n = 1 := by
      unfold ck at hck ⊢
      rw [fd, if_neg (by decide)] at hck ⊢
      split
      · rfl
      · rename_i h; rw [if_neg h] at hck; exact absurd rfl hck
    have hwhy : p < 0 ∨ (F.dat.length : Int) - p < (n : Int) := by
      unfold ck at hck
      rw [fd, if_neg (by decide)] at hck
      by_cases h : p < 0 ∨ (n : Int) < 0 ∨ (F.dat.length : Int) - p < n
      · omega
      · rw [if_neg h] at hck; exact absurd rfl hck
    obtain ⟨L, hL⟩ : ∃ L, F.dat.length = L := ⟨_, rfl⟩
    rw [hL] at hwhy
    have HL := Lib.hid hL
    have HB := Lib.hid (show L ≤ 256 by omega)
    clear hL fl fd hm m1 m2
    rcases hwhy with hp | hq
    · go_enter Try.func6, Try.ntmps6
      go_wp2_with fail
      refine (alive_any w).mono ?_
      rintro e u1 ⟨rfl, B1⟩
      go_wp2_with fail
      refine (hnew u1).mono ?_
      rintro e u2 ⟨g, bb, wb, rfl, f2, b2, g0, g1, g2⟩
      have B2 := B1.trans (b2.mono B1.size)
      go_wp2_with fail
      refine (prog_no u2 g bb wb F p A n c f2 hp1 hp2 hck).mono ?_
      rw [hc1]
      rintro e u3 ⟨rfl, hw⟩
      obtain rfl := hw.symm
      go_wp2_with fail
      refine (turned_f u2 g bb wb F f2).mono ?_
      rw [ft]
      rintro e u3 ⟨rfl, hw⟩
      obtain rfl := hw.symm
      go_wp2
      go_ret
      exact ⟨rfl, B2⟩
    · by_cases hp : p < 0
      · go_enter Try.func6, Try.ntmps6
        go_wp2_with fail
        refine (alive_any w).mono ?_
        rintro e u1 ⟨rfl, B1⟩
        go_wp2_with fail
        refine (hnew u1).mono ?_
        rintro e u2 ⟨g, bb, wb, rfl, f2, b2, g0, g1, g2⟩
        have B2 := B1.trans (b2.mono B1.size)
        go_wp2_with fail
        refine (prog_no u2 g bb wb F p A n c f2 hp1 hp2 hck).mono ?_
        rw [hc1]
        rintro e u3 ⟨rfl, hw⟩
        obtain rfl := hw.symm
        go_wp2_with fail
        refine (turned_f u2 g bb wb F f2).mono ?_
        rw [ft]
        rintro e u3 ⟨rfl, hw⟩
        obtain rfl := hw.symm
        go_wp2
        go_ret
        exact ⟨rfl, B2⟩
      · by_cases hpL : (L : Int) < p
        · go_enter Try.func6, Try.ntmps6
          go_wp2_with fail
          refine (alive_any w).mono ?_
          rintro e u1 ⟨rfl, B1⟩
          go_wp2_with fail
          refine (hnew u1).mono ?_
          rintro e u2 ⟨g, bb, wb, rfl, f2, b2, g0, g1, g2⟩
          have B2 := B1.trans (b2.mono B1.size)
          go_wp2_with fail
          refine (prog_no u2 g bb wb F p A n c f2 hp1 hp2 hck).mono ?_
          rw [hc1]
          rintro e u3 ⟨rfl, hw⟩
          obtain rfl := hw.symm
          go_wp2_with fail
          refine (turned_f u2 g bb wb F f2).mono ?_
          rw [ft]
          rintro e u3 ⟨rfl, hw⟩
          obtain rfl := hw.symm
          go_wp2_with fail
          refine (size_f u2 g bb wb F f2).mono ?_
          rw [HL.out]
          rintro e u3 ⟨rfl, hw⟩
          obtain rfl := hw.symm
          go_wp2
          go_ret
          exact ⟨rfl, B2⟩
        · have hw : IntKind.i64.wrap ((L : Int) - p) = (L : Int) - p := by rw [IntKind.wrap_i64]; have := HB.out; omega
          go_enter Try.func6, Try.ntmps6
          go_wp2_with fail
          refine (alive_any w).mono ?_
          rintro e u1 ⟨rfl, B1⟩
          go_wp2_with fail
          refine (hnew u1).mono ?_
          rintro e u2 ⟨g, bb, wb, rfl, f2, b2, g0, g1, g2⟩
          have B2 := B1.trans (b2.mono B1.size)
          go_wp2_with fail
          refine (prog_no u2 g bb wb F p A n c f2 hp1 hp2 hck).mono ?_
          rw [hc1]
          rintro e u3 ⟨rfl, hw⟩
          obtain rfl := hw.symm
          go_wp2_with fail
          refine (turned_f u2 g bb wb F f2).mono ?_
          rw [ft]
          rintro e u3 ⟨rfl, hw⟩
          obtain rfl := hw.symm
          go_wp2_with fail
          refine (size_f u2 g bb wb F f2).mono ?_
          rw [HL.out]
          rintro e u3 ⟨rfl, hw⟩
          obtain rfl := hw.symm
          go_wp2_with fail
          refine (size_f u2 g bb wb F f2).mono ?_
          rw [HL.out]
          rintro e u3 ⟨rfl, hw⟩
          obtain rfl := hw.symm
          go_wp2
          go_ret
          exact ⟨rfl, B2⟩
set_option maxRecDepth 100000 in
theorem again_law (size p : Int) (A : Option Addr) (n c : Nat) (l : List UInt8) (w : World) (hb : Bs w w.heap.size A n l) (hcap : n ≤ c) (hp1 : -9223372036854775808 ≤ p) (hp2 : p ≤ 9223372036854775807) :
    Calls Try.prog 6 #[.int .i64 size, .int .i64 p, .slice A n c] w fun e w' => e = .returned (.bool true) ∧ Below w.heap.size w w' := by
  by_cases h1 : size ≤ 64
  · by_cases h2 : n ≤ 200
    · exact again_small size p A n c l w hb hcap h1 h2 hp1 hp2
    · have h2i : ¬ (n : Int) ≤ 200 := by omega
      clear hp1 hp2
      go_enter Try.func6, Try.ntmps6
      go_wp2_with fail
      refine (alive_any w).mono ?_
      rintro e u1 ⟨rfl, B1⟩
      go_wp2
      go_ret
      exact ⟨rfl, B1⟩
  · clear hp1 hp2
    go_enter Try.func6, Try.ntmps6
    go_wp2_with fail
    refine (alive_any w).mono ?_
    rintro e u1 ⟨rfl, B1⟩
    go_wp2
    go_ret
    exact ⟨rfl, B1⟩
end Go.Proofs.Ythdnlcllcdcjhaa
