/-
  PartApart: what is written to a part isn't seen by another one.
-/
import Derived.Test.YthdnlcllcdcjhaaPartAlive
namespace Go.Proofs.Ythdnlcllcdcjhaa
open Go.RowKit
theorem endOf_ones (l : List UInt8) (k : Nat) (h : ∀ i, i < k → l.getD i 0 = 255) : endOf l k = 0 := by
  induction k with
  | zero => rfl
  | succ k ih =>
    show (if l.getD k 0 = 255 then endOf l k else k + 1) = 0
    rw [if_pos (h k (Nat.lt_succ_self k))]
    exact ih fun i hi => h i (by omega)
theorem piece_is (K : Fl) (l : List UInt8) (p n : Nat) (hl : l.length = n) (h : ∀ i : Nat, i < n → K.dat[p + i]? = l[i]?) : piece K p n = l := by
  refine List.ext_getElem? fun i => ?_
  unfold piece
  rw [List.getElem?_take]
  split
  · rename_i hi
    rw [List.getElem?_drop, h i hi]
  · rw [List.getElem?_eq_none (by omega)]
theorem blank_is (K : Fl) (p n : Nat) (h : ∀ i : Nat, i < n → K.dat[p + i]? = some 255) : (((endOf (piece K p n) n : Nat) : Int) == 0) = true := by
  rw [endOf_ones (piece K p n) n fun i hi => by
    unfold piece
    rw [List.getD_eq_getElem?_getD, List.getElem?_take, if_pos hi, List.getElem?_drop, h i hi]
    rfl]
  rfl
theorem pck_ok (K : Fl) (s n : Nat) (hd : K.down = false) (h : n ≤ s) : pck K s ((0 : Nat) : Int) (n : Int) = 0 := by
  unfold pck; rw [hd, if_neg (by decide), if_neg (by omega)]
set_option maxRecDepth 100000 in
set_option maxHeartbeats 1000000 in
theorem apart_small (size : Int) (A1 : Option Addr) (n1 c1 : Nat) (l1 : List UInt8) (A2 : Option Addr) (n2 c2 : Nat) (l2 : List UInt8) (clear_ : Bool) (w : World) (hb1 : Bs w w.heap.size A1 n1 l1) (hc1 : n1 ≤ c1) (hb2 : Bs w w.heap.size A2 n2 l2) (hc2 : n2 ≤ c2) (hs : size ≤ 64) (h1 : n1 ≤ 32) (h2 : n2 ≤ 32) :
    Calls Try.prog 8 #[.int .i64 size, .slice A1 n1 c1, .slice A2 n2 c2, .bool clear_] w fun e w' => e = .returned (.bool true) ∧ Below w.heap.size w w' := by
  obtain ⟨m, hm⟩ : ∃ m : Nat, min (max size 16) 4096 = (m : Int) := ⟨(min (max size 16) 4096).toNat, by omega⟩
  have m1 : 16 ≤ m := by omega
  have m2 : m ≤ 64 := by omega
  have hnew := fun w => new_f w 6 size 6 m (by decide) hm
  have hl1 := hb1.len
  have hl2 := hb2.len
  have i1 : (n1 : Int) ≤ 32 := by omega
  have i2 : (n2 : Int) ≤ 32 := by omega
  obtain ⟨F0, hF0⟩ : ∃ F, fresh 6 m = F := ⟨_, rfl⟩
  have fl : F0.dat.length = 6 * m := by rw [← hF0]; simp [fresh]
  have fd : F0.down = false := by rw [← hF0]; rfl
  have fc : F0.cut = false := by rw [← hF0]; rfl
  have fs : F0.sec = m := by rw [← hF0]; rfl
  have fw : F0.wear.length = 6 := by rw [← hF0]; rfl
  have k0 : okBits (piece F0 0 n1) l1 = true := by rw [← hF0, piece_fresh 6 m 0 n1 (by omega)]; exact okBits_255 n1 l1 (by omega)
  have e0 : (if gone F0 n1 = true then (30 : Int) else 0) = 0 := by rw [gone_nocut fc]; rfl
  have t0 : F0.cut = true → 0 ≤ F0.rest := fun x => by rw [fc] at x; cases x
  have y0 : pck F0 (2 * m) ((0 : Nat) : Int) (n1 : Int) = 0 := by unfold pck; rw [fd, if_neg (by decide), if_neg (by omega)]
  obtain ⟨F1, hF1⟩ : ∃ F, progBy F0 0 l1 = F := ⟨_, rfl⟩
  have d1 : F1.dat = patch F0.dat 0 l1 := by rw [← hF1]; exact progBy_dat fc 0 l1
  have fl1 : F1.dat.length = 6 * m := by rw [d1, patch_length _ _ _ (by omega), fl]
  have fc1 : F1.cut = false := by rw [← hF1]; exact fc
  have fd1 : F1.down = false := by rw [← hF1]; show (F0.down || gone F0 l1.length) = false; rw [fd, gone_nocut fc]; rfl
  have fs1 : F1.sec = m := by rw [← hF1]; exact fs
  have fw1 : F1.wear.length = 6 := by rw [← hF1]; exact fw
  have g1 : ∀ i : Nat, i < 6 * m → F1.dat[i]? = if i < n1 then l1[i]? else some 255 := fun i hi => by
    rw [d1, patch_get _ _ _ (by omega), ← hF0]
    simp only [Nat.zero_le, true_and, Nat.zero_add, Nat.sub_zero, hl1]
    split
    · rfl
    · show (List.replicate (6 * m) (255 : UInt8))[i]? = some 255
      rw [List.getElem?_replicate, if_pos hi]
  have p1 : piece F1 (2 * m + 0) n2 = List.replicate n2 255 := by
    refine List.ext_getElem? fun i => ?_
    unfold piece
    rw [List.getElem?_take, List.getElem?_replicate]
    split
    · rw [List.getElem?_drop, g1 _ (by omega), if_neg (by omega)]
    · rfl
  have k1 : okBits (piece F1 (2 * m + 0) n2) l2 = true := by rw [p1]; exact okBits_255 n2 l2 (by omega)
  have e1 : (if gone F1 n2 = true then (30 : Int) else 0) = 0 := by rw [gone_nocut fc1]; rfl
  have t1 : F1.cut = true → 0 ≤ F1.rest := fun x => by rw [fc1] at x; cases x
  have y1 : pck F1 (3 * m) ((0 : Nat) : Int) (n2 : Int) = 0 := by unfold pck; rw [fd1, if_neg (by decide), if_neg (by omega)]
  obtain ⟨F2, hF2⟩ : ∃ F, progBy F1 (2 * m + 0) l2 = F := ⟨_, rfl⟩
  have d2 : F2.dat = patch F1.dat (2 * m + 0) l2 := by rw [← hF2]; exact progBy_dat fc1 _ l2
  have fl2 : F2.dat.length = 6 * m := by rw [d2, patch_length _ _ _ (by omega), fl1]
  have fc2 : F2.cut = false := by rw [← hF2]; exact fc1
  have fd2 : F2.down = false := by rw [← hF2]; show (F1.down || gone F1 l2.length) = false; rw [fd1, gone_nocut fc1]; rfl
  have fs2 : F2.sec = m := by rw [← hF2]; exact fs1
  have fw2 : F2.wear.length = 6 := by rw [← hF2]; exact fw1
  have g2 : ∀ i : Nat, i < 6 * m → F2.dat[i]? = if 2 * m ≤ i ∧ i < 2 * m + n2 then l2[i - 2 * m]? else if i < n1 then l1[i]? else some 255 := fun i hi => by
    rw [d2, patch_get _ _ _ (by omega), hl2, g1 i hi]
    rfl
  have HD := Lib.hid (And.intro hl1 (And.intro hl2 (And.intro m1 (And.intro m2 (And.intro fl2 (And.intro fc2 (And.intro fd2 (And.intro fs2 fw2))))))))
  have HG := Lib.hid g2
  have hL0 : 6 * m = F0.dat.length := fl.symm
  have hL1 : 6 * m = F1.dat.length := fl1.symm
  have o0 : PartOk F0 0 2 (0 * m) (2 * m) := ⟨by decide, by rw [fw]; decide, by rw [fs], by rw [fs]⟩
  rw [hF0] at hnew
  obtain ⟨M2, hM2⟩ : ∃ M, 2 * m = M := ⟨_, rfl⟩
  obtain ⟨M3, hM3⟩ : ∃ M, 3 * m = M := ⟨_, rfl⟩
  have sz0 : 0 + M2 ≤ F0.dat.length := by omega
  have sz1 : M2 + M3 ≤ F1.dat.length := by omega
  have sz2 : M2 + M3 ≤ F2.dat.length := by omega
  have sz20 : 0 + M2 ≤ F2.dat.length := by omega
  rw [hM2] at y0 k1 hF2
  rw [hM3] at y1
  have HM := Lib.hid (And.intro hM2 (And.intro hM3 (And.intro sz2 sz20)))
  have hin0 : 0 + 2 ≤ F0.wear.length := by rw [fw]; decide
  have hin1 : 2 + 3 ≤ F0.wear.length := by rw [fw]; decide
  clear hm m1 m2 fl fd fc fw g1 p1 d1 d2 fl1 fc1 fd1 fw1 fl2 fc2 fd2 fs2 fw2 g2 hl1 hl2 hL0 hL1 o0 sz2 sz20 hF0
  go_enter Try.func8, Try.ntmps8
  go_wp2_with fail
  refine (alive4 w).mono ?_
  rintro e u1 ⟨rfl, B1⟩
  go_wp2_with fail
  refine (hnew u1).mono ?_
  rintro e u2 ⟨g, bb, wb, rfl, f2, b2, g0, g1, g2⟩
  have B2 := B1.trans (b2.mono B1.size)
  have s1 := B1.size
  have hlt := f2.lt
  have of1 : 0 < n1 → Off g A1 ∧ Off bb A1 ∧ Off wb A1 := fun hn => ⟨hb1.offs hn (by omega), hb1.offs hn (by omega), hb1.offs hn (by omega)⟩
  have of2 : 0 < n2 → Off g A2 ∧ Off bb A2 ∧ Off wb A2 := fun hn => ⟨hb2.offs hn (by omega), hb2.offs hn (by omega), hb2.offs hn (by omega)⟩
  clear hnew b2 B1
  go_wp2_with fail
  refine (pnew_yes u2 g bb wb F0 0 2 f2 (by decide) hin0).mono ?_
  rintro e u3 ⟨pp, be, si, rfl, q3, ok3, b3, hpp⟩
  obtain rfl : be = 0 := by rw [ok3.be, Nat.zero_mul]
  obtain rfl : M2 = si := by rw [ok3.si, fs, HM.out.1]
  have f3 := f2.below b3
  have B3 := B2.trans (b3.mono B2.size)
  have s3 := b3.size
  have hq3 := q3.lt
  clear f2 B2 b3 ok3
  go_wp2_with fail
  refine (pnew_yes u3 g bb wb F0 2 3 f3 (by decide) hin1).mono ?_
  rintro e u4 ⟨qq, be, si, rfl, r4, ok4, b4, hqq⟩
  obtain rfl : M2 = be := by rw [ok4.be, fs, HM.out.1]
  obtain rfl : M3 = si := by rw [ok4.si, fs, HM.out.2.1]
  have f4 := f3.below b4
  have q4 := q3.below b4
  have B4 := B3.trans (b4.mono B3.size)
  have s4 := b4.size
  have hpg : pp ≠ g ∧ pp ≠ bb ∧ pp ≠ wb := by omega
  have hqg : qq ≠ g ∧ qq ≠ bb ∧ qq ≠ wb := by omega
  clear f3 B3 b4 ok4 q3
  go_wp2_with fail
  refine (pwrite_ok u4 pp g bb wb 0 2 0 M2 F0 0 A1 n1 c1 l1 0 q4 f4 sz0 y0 (hb1.below B4).lt of1 hc1 t0 k0 e0).mono ?_
  rw [show progBy F0 (0 + 0) l1 = F1 from hF1]
  rintro e u5 ⟨rfl, f5, b5⟩
  have B5 := B4.trans (b5.toBelow B4.size (by omega) (by omega) (by omega))
  have q5 := q4.over b5 hpg.1 hpg.2.1 hpg.2.2
  have r5 := r4.over b5 hqg.1 hqg.2.1 hqg.2.2
  clear f4 B4 q4 r4 b5
  go_wp2_with fail
  refine (pwrite_ok u5 qq g bb wb 2 3 M2 M3 F1 0 A2 n2 c2 l2 0 r5 f5 sz1 y1 (hb2.below B5).lt of2 hc2 t1 k1 e1).mono ?_
  rw [hF2]
  rintro e u6 ⟨rfl, f6, b6⟩
  have B6 := B5.trans (b6.toBelow B5.size (by omega) (by omega) (by omega))
  have q6 := q5.over b6 hpg.1 hpg.2.1 hpg.2.2
  have r6 := r5.over b6 hqg.1 hqg.2.1 hqg.2.2
  clear f5 B5 q5 r5 b6 hF1 hF2
  cases clear_ with
  | true =>
    go_wp2_with fail
    refine (pclear_f u6 pp g bb wb 0 2 0 M2 F2 q6 ⟨by decide, by rw [HD.out.2.2.2.2.2.2.2.2]; decide, by rw [Nat.zero_mul], by rw [HD.out.2.2.2.2.2.2.2.1, HM.out.1]⟩ f6 (fun x => by rw [HD.out.2.2.2.2.2.1] at x; cases x) hpg).mono ?_
    rintro e u7 ⟨ec, G, rfl, f7, b7, wi, sa, on, cl⟩
    obtain ⟨rfl, _, gd⟩ := on HD.out.2.2.2.2.2.1 HD.out.2.2.2.2.2.2.1
    have ca := (cl rfl).all
    have gl := wi.len
    have hda := wi.dat
    have B7 := B6.trans (b7.toBelow B6.size (by omega) (by omega) (by omega))
    have q7 := q6.over b7 hpg.1 hpg.2.1 hpg.2.2
    have r7 := r6.over b7 hqg.1 hqg.2.1 hqg.2.2
    have sz : M2 + M3 ≤ G.dat.length := by rw [gl]; exact HM.out.2.2.1
    have sz' : 0 + M2 ≤ G.dat.length := by rw [gl]; exact HM.out.2.2.2
    have gq : piece G (M2 + 0) n2 = l2 := piece_is G l2 _ n2 HD.out.2.1 fun i hi => by
      have e2 := HM.out.1
      have hm1 := HD.out.2.2.1
      rw [hda _ (by omega), HG.out _ (by omega), if_pos (by omega)]
      congr 1; omega
    have gb : (((endOf (piece G (0 + 0) M2) M2 : Nat) : Int) == 0) = true := blank_is G _ M2 fun i hi => ca _ (by omega) (by rw [HD.out.2.2.2.2.2.2.2.1, HM.out.1]; omega)
    clear f6 q6 r6 B6 b7 wi sa on cl ca hda gl
    go_wp2_with fail
    refine (pread_yes u7 qq g bb wb 2 3 M2 M3 G 0 n2 r7 f7 sz (pck_ok G M3 n2 gd (by have := HM.out.2.1; have := HD.out.2.2.1; omega))).mono ?_
    rw [show piece G (M2 + 0) n2 = l2 from gq]
    rintro e u8 ⟨v, rfl, ⟨I, j1, j2, rfl, x8⟩, b8⟩
    have f8 := f7.below b8
    have q8 := q7.below b8
    have B8 := B7.trans (b8.mono B7.size)
    have s8 := b8.size
    clear f7 q7 r7 B7 b8
    go_wp2_with fail
    refine (pread_yes u8 pp g bb wb 0 2 0 M2 G 0 n1 q8 f8 sz' (pck_ok G M2 n1 gd (by have := HM.out.1; have := HD.out.2.2.1; omega))).mono ?_
    rintro e u9 ⟨v, rfl, ⟨J, j3, j4, rfl, y9⟩, b9⟩
    have f9 := f8.below b9
    have q9 := q8.below b9
    have B9 := B8.trans (b9.mono B8.size)
    have x9 := (x8.below b9).lt
    clear f8 q8 B8 b9 x8
    go_wp2_with fail
    refine (same_yes u9 _ A2 n2 n2 c2 l2 x9 (hb2.below B9).lt (by omega)).mono ?_
    rintro e u10 ⟨rfl, b10⟩
    have f10 := f9.below b10
    have q10 := q9.below b10
    have y10 := (y9.below b10).lt
    have B10 := B9.trans (b10.mono B9.size)
    clear f9 q9 B9 b10 x9 y9
    go_wp2_with fail
    refine (psize_f u10 pp g 0 2 0 M2 q10).mono ?_
    rintro e u11 ⟨rfl, hw⟩
    obtain rfl := hw.symm
    go_wp2_with fail
    refine (pblank_yes u10 pp g bb wb 0 2 0 M2 G 0 M2 q10 f10 sz' (pck_ok G M2 M2 gd (Nat.le_refl _))).mono ?_
    rw [gb]
    rintro e u11 ⟨rfl, b11⟩
    have y11 := (y10.below b11).lt
    have B11 := B10.trans (b11.mono B10.size)
    clear f10 q10 B10 b11 y10
    go_wp2
    go_ret
    exact ⟨rfl, B11⟩
  | false =>
    obtain ⟨G, hG⟩ : ∃ G, F2 = G := ⟨_, rfl⟩
    rw [hG] at f6
    have gd : G.down = false := by rw [← hG]; exact HD.out.2.2.2.2.2.2.1
    have sz : M2 + M3 ≤ G.dat.length := by rw [← hG]; exact HM.out.2.2.1
    have sz' : 0 + M2 ≤ G.dat.length := by rw [← hG]; exact HM.out.2.2.2
    have gq : piece G (M2 + 0) n2 = l2 := piece_is G l2 _ n2 HD.out.2.1 fun i hi => by
      have e2 := HM.out.1
      have hm1 := HD.out.2.2.1
      rw [← hG, HG.out _ (by omega), if_pos (by omega)]
      congr 1; omega
    have gp : piece G (0 + 0) n1 = l1 := piece_is G l1 _ n1 HD.out.1 fun i hi => by
      have e2 := HM.out.1
      have hm1 := HD.out.2.2.1
      rw [← hG, HG.out _ (by omega), if_neg (by omega), if_pos (by omega)]
      congr 1; omega
    obtain ⟨bl, hbl⟩ : ∃ bl : Bool, (((endOf (piece G (0 + 0) M2) M2 : Nat) : Int) == 0) = bl := ⟨_, rfl⟩
    have f7 := f6
    have q7 := q6
    have r7 := r6
    have B7 := B6
    obtain ⟨u7, hu7⟩ : ∃ u, u6 = u := ⟨_, rfl⟩
    rw [hu7] at f7 q7 r7 B7 ⊢
    clear f6 q6 r6 B6 hu7
    go_wp2_with fail
    refine (pread_yes u7 qq g bb wb 2 3 M2 M3 G 0 n2 r7 f7 sz (pck_ok G M3 n2 gd (by have := HM.out.2.1; have := HD.out.2.2.1; omega))).mono ?_
    rw [show piece G (M2 + 0) n2 = l2 from gq]
    rintro e u8 ⟨v, rfl, ⟨I, j1, j2, rfl, x8⟩, b8⟩
    have f8 := f7.below b8
    have q8 := q7.below b8
    have B8 := B7.trans (b8.mono B7.size)
    have s8 := b8.size
    clear f7 q7 r7 B7 b8
    go_wp2_with fail
    refine (pread_yes u8 pp g bb wb 0 2 0 M2 G 0 n1 q8 f8 sz' (pck_ok G M2 n1 gd (by have := HM.out.1; have := HD.out.2.2.1; omega))).mono ?_
    rw [show piece G (0 + 0) n1 = l1 from gp]
    rintro e u9 ⟨v, rfl, ⟨J, j3, j4, rfl, y9⟩, b9⟩
    have f9 := f8.below b9
    have q9 := q8.below b9
    have B9 := B8.trans (b9.mono B8.size)
    have x9 := (x8.below b9).lt
    clear f8 q8 B8 b9 x8
    go_wp2_with fail
    refine (same_yes u9 _ A2 n2 n2 c2 l2 x9 (hb2.below B9).lt (by omega)).mono ?_
    rintro e u10 ⟨rfl, b10⟩
    have f10 := f9.below b10
    have q10 := q9.below b10
    have y10 := (y9.below b10).lt
    have B10 := B9.trans (b10.mono B9.size)
    clear f9 q9 B9 b10 x9 y9
    go_wp2_with fail
    refine (psize_f u10 pp g 0 2 0 M2 q10).mono ?_
    rintro e u11 ⟨rfl, hw⟩
    obtain rfl := hw.symm
    go_wp2_with fail
    refine (pblank_yes u10 pp g bb wb 0 2 0 M2 G 0 M2 q10 f10 sz' (pck_ok G M2 M2 gd (Nat.le_refl _))).mono ?_
    rw [hbl]
    rintro e u11 ⟨rfl, b11⟩
    have y11 := (y10.below b11).lt
    have B11 := B10.trans (b11.mono B10.size)
    clear f10 q10 B10 b11 y10
    go_wp2_with fail
    refine (same_yes u11 _ A1 n1 n1 c1 l1 y11 (hb1.below B11).lt (by omega)).mono ?_
    rintro e u12 ⟨rfl, b12⟩
    have B12 := B11.trans (b12.mono B11.size)
    go_wp2
    go_ret
    exact ⟨rfl, B12⟩
set_option maxRecDepth 100000 in
theorem apart_law (size : Int) (A1 : Option Addr) (n1 c1 : Nat) (l1 : List UInt8) (A2 : Option Addr) (n2 c2 : Nat) (l2 : List UInt8) (clear_ : Bool) (w : World) (hb1 : Bs w w.heap.size A1 n1 l1) (hc1 : n1 ≤ c1) (hb2 : Bs w w.heap.size A2 n2 l2) (hc2 : n2 ≤ c2) :
    Calls Try.prog 8 #[.int .i64 size, .slice A1 n1 c1, .slice A2 n2 c2, .bool clear_] w fun e w' => e = .returned (.bool true) ∧ Below w.heap.size w w' := by
  by_cases h1 : size ≤ 64
  · by_cases h2 : n1 ≤ 32
    · by_cases h3 : n2 ≤ 32
      · exact apart_small size A1 n1 c1 l1 A2 n2 c2 l2 clear_ w hb1 hc1 hb2 hc2 h1 h2 h3
      · have h2i : (n1 : Int) ≤ 32 := by omega
        have h3i : ¬ (n2 : Int) ≤ 32 := by omega
        go_enter Try.func8, Try.ntmps8
        go_wp2_with fail
        refine (alive4 w).mono ?_
        rintro e u1 ⟨rfl, B1⟩
        go_wp2
        go_ret
        exact ⟨rfl, B1⟩
    · have h2i : ¬ (n1 : Int) ≤ 32 := by omega
      go_enter Try.func8, Try.ntmps8
      go_wp2_with fail
      refine (alive4 w).mono ?_
      rintro e u1 ⟨rfl, B1⟩
      go_wp2
      go_ret
      exact ⟨rfl, B1⟩
  · go_enter Try.func8, Try.ntmps8
    go_wp2_with fail
    refine (alive4 w).mono ?_
    rintro e u1 ⟨rfl, B1⟩
    go_wp2
    go_ret
    exact ⟨rfl, B1⟩
end Go.Proofs.Ythdnlcllcdcjhaa
