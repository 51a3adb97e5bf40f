/-
  The examples that every statement of layer 4 asks first.
-/
import Derived.LaidEqlPtr
import Derived.Test.YtoagodgiaccadaaPartWear
namespace Go.Proofs.Ytoagodgiaccadaa
open Go.RowKit
def E0 : Fl := fresh 4 16
def E1 : Fl := progBy E0 19 [7]
theorem e0n : pck E0 32 30 ((3 : Nat) : Int) ≠ 0 := by decide +kernel
theorem e0n1 : pck E0 32 30 ((3 : Nat) : Int) = 1 := by decide +kernel
theorem e0y : pck E0 32 ((3 : Nat) : Int) ((1 : Nat) : Int) = 0 := by decide +kernel
theorem e0c : ck E0 ((19 : Nat) : Int) ((1 : Nat) : Int) = 0 := by decide +kernel
theorem e0k : okBits (piece E0 19 1) [7] = true := by decide +kernel
theorem e0g : (if gone E0 1 = true then (30 : Int) else 0) = 0 := by decide +kernel
theorem e1c : ck E1 ((19 : Nat) : Int) ((1 : Nat) : Int) = 0 := by decide +kernel
theorem e1p : piece E1 19 1 = [7] := by decide +kernel
theorem e1u : (endOf (piece E1 16 32) 32 : Int) = 4 := by decide +kernel
theorem e1b : (((endOf (piece E1 (16 + 0) 3) 3 : Nat) : Int) == 0) = true := by decide +kernel
theorem e1f : (((endOf (piece E1 (16 + 3) 1) 1 : Nat) : Int) == 0) = false := by decide +kernel
theorem e1b0 : pck E1 32 ((0 : Nat) : Int) ((3 : Nat) : Int) = 0 := by decide +kernel
theorem e1f0 : pck E1 32 ((3 : Nat) : Int) ((1 : Nat) : Int) = 0 := by decide +kernel
theorem e1w : E1.wear = [0, 0, 0, 0] := by decide +kernel
theorem pwrite_ok (W : World) (pp g bb wb fi co be si : Nat) (F : Fl) (p : Nat) (A : Option Addr) (n c : Nat) (b : List UInt8) (ec : Int) (h : PartAt W pp g fi co be si) (hf : FlashAt W g bb wb F) (hs : be + si ≤ F.dat.length) (hc : pck F si p n = 0)
    (hb : Bs W W.heap.size A n b) (hoff : 0 < n → Off g A ∧ Off bb A ∧ Off wb A) (hcap : n ≤ c) (hr : F.cut = true → 0 ≤ F.rest) (hk : okBits (piece F (be + p) n) b = true) (hec : (if gone F n = true then (30 : Int) else 0) = ec) :
    Calls Try.prog 22 #[.pointer (some ⟨pp, 0, none⟩), .int .i64 (p : Int), .slice A n c] W fun e w' => e = .returned (.int .i64 ec) ∧ FlashAt w' g bb wb (progBy F (be + p) b) ∧ But3 W.heap.size g bb wb W w' := by
  have bd : Below W.heap.size W W.drew := (Below.refl _ W).drew
  refine pwrite_yes W pp g bb wb fi co be si F p A n c h hf hs hc _ ?_
  refine (prog_ok (be + p) A n c b ec (hf.below bd) (hb.below bd).lt hoff (by rw [Int.natCast_add]; exact ck_of_pck hc hs) hcap hr hk hec).mono ?_
  rintro e w' ⟨h1, h2, h3⟩
  exact ⟨ec, h1, h1, h2, (But3.below bd).trans h3 bd.size⟩
theorem same_ptr (w : World) (g : Nat) : Sem.run Try.prog (binOp .eql 25 (.pointer (some ⟨g, 0, none⟩)) (.pointer (some ⟨g, 0, none⟩))) w = .ok (.bool true) w :=
  run_eql_ptr_same w (j := (Try.prog.info? 78).get (by kernel_rfl)) ⟨g, 0, none⟩ Try.underlying25 (Option.some_get _).symm
theorem wear_one (G : Fl) (k : Nat) (hk : k < 2) (h : ∀ j : Nat, G.wear[j]? = if 1 ≤ j ∧ j < 1 + 2 then (E1.wear[j]?).map (fun n => min (n + 1) 1073741824) else E1.wear[j]?) (hl : G.wear.length = E1.wear.length) : wearS G ((1 + k : Nat) : Int) = 1 := by
  have hl4 : G.wear.length = 4 := by rw [hl, e1w]; rfl
  have hs : hasS G ((1 + k : Nat) : Int) = true := decide_eq_true (by rw [hl4]; omega)
  have hg : G.wear[1 + k]? = some 1 := by
    rw [h, if_pos (by omega), e1w]
    obtain rfl | rfl : k = 0 ∨ k = 1 := by omega
    all_goals rfl
  unfold wearS
  rw [if_pos hs, Int.toNat_natCast, List.getD_eq_getElem?_getD, hg]
  rfl
set_option maxRecDepth 100000 in
set_option maxHeartbeats 1000000 in
theorem alive4 (w : World) : Calls Try.prog 18 #[] w fun e w' => e = .returned (.bool true) ∧ Below w.heap.size w w' := by
  go_enter Try.func18, Try.ntmps18
  go_wp2_with fail
  refine (new_f w 4 16 4 16 (by decide) (by decide)).mono ?_
  rintro e w1 ⟨g, bb, wb, rfl, h1, B1, g0, g1, g2⟩
  replace h1 : FlashAt w1 g bb wb E0 := h1
  have hw4 : E0.wear.length = 4 := rfl
  go_wp2_with fail
  refine (pnew_yes w1 g bb wb E0 1 2 h1 (by decide) (by decide)).mono ?_
  rintro e w2 ⟨pp, be, si, rfl, p2, ok2, b2, hpp⟩
  obtain rfl : be = 16 := ok2.be
  obtain rfl : si = 32 := ok2.si
  have h2 := h1.below b2
  have B2 := B1.trans (b2.mono B1.size)
  have hlt := h1.lt
  go_wp2_with fail
  refine (pnew_no w2 g bb wb E0 3 2 h2 (by decide) (by decide) (by decide)).mono ?_
  rintro e w3 ⟨rfl, hw⟩
  obtain rfl := hw.symm
  clear h1 B1 b2
  go_wp2_with fail
  refine (psize_f w2 pp g 1 2 16 32 p2).mono ?_
  rintro e w3 ⟨rfl, hw⟩
  obtain rfl := hw.symm
  have hpg : pp ≠ g ∧ pp ≠ bb ∧ pp ≠ wb := by omega
  clear hw4
  go_wp2_with fail
  have al := fun o => alloc_below w2 o
  refine (pwrite_no _ pp g bb wb 1 2 16 32 E0 30 _ 3 3 (p2.below (al _)) (h2.below (al _)) (by decide) (by decide) (by decide) e0n).mono ?_
  rw [e0n1]
  rintro e w4 ⟨rfl, hw⟩
  obtain ⟨w3, hw3, b3⟩ : ∃ w3, w4 = w3 ∧ Below w2.heap.size w2 w3 := ⟨w4, rfl, hw ▸ al _⟩
  clear hw
  subst hw3
  have h3 := h2.below b3
  have p3 := p2.below b3
  have B3 := B2.trans (b3.mono B2.size)
  clear al h2 p2 B2 b3
  go_wp2_with fail
  refine (pwrite_ok _ pp g bb wb 1 2 16 32 E0 3 _ 1 1 [7] 0 (p3.below (alloc_below w4 _)) (h3.below (alloc_below w4 _)) (by decide) e0y (Bs.lit_ w4 5 _ (0, 0) [7] rfl).lt (fun _ => off_lit h3) (Nat.le_refl _) (fun x => by cases x) e0k e0g).mono ?_
  rintro e w5 ⟨rfl, h5, b5⟩
  replace h5 : FlashAt w5 g bb wb E1 := h5
  have b5' : But3 w4.heap.size g bb wb w4 w5 := (But3.below (alloc_below w4 _)).trans b5 (by rw [alloc_size]; omega)
  have p5 := p3.over b5' hpg.1 hpg.2.1 hpg.2.2
  have B5 := B3.trans (b5'.toBelow B3.size (by omega) (by omega) (by omega))
  clear h3 p3 B3 b5 b5'
  go_wp2_with fail
  refine (read_c 19 1 19 1 rfl rfl h5 e1c).mono ?_
  rw [e1p]
  rintro e w6 ⟨rfl, r6, b6, s6, _⟩
  have x6 := r6.at_ 0 7 rfl
  rw [Nat.zero_add] at x6
  have h6 := h5.below b6
  have p6 := p5.below b6
  have B6 := B5.trans (b6.mono B5.size)
  generalize hR : w5.heap.size = R at *
  clear h5 p5 B5 b6 r6
  go_wp2_with fail
  refine (pused_yes w6 pp g bb wb 1 2 16 32 E1 p6 h6 (by decide) rfl).mono ?_
  rw [e1u]
  rintro e w7 ⟨rfl, b7⟩
  have h7 := h6.below b7
  have p7 := p6.below b7
  have B7 := B6.trans (b7.mono B6.size)
  have x7 := (b7.cell (p := ⟨R, 0, none⟩) (by show R < _; omega)).trans x6
  have s7 := b7.size
  clear h6 p6 B6 b7 x6
  go_wp2_with fail
  refine (pblank_yes w7 pp g bb wb 1 2 16 32 E1 0 3 p7 h7 (by decide) e1b0).mono ?_
  rw [e1b]
  rintro e w8 ⟨rfl, b8⟩
  have h8 := h7.below b8
  have p8 := p7.below b8
  have B8 := B7.trans (b8.mono B7.size)
  have x8 := (b8.cell (p := ⟨R, 0, none⟩) (by show R < _; omega)).trans x7
  have s8 := b8.size
  clear h7 p7 B7 b8 x7
  go_wp2_with fail
  refine (pblank_yes w8 pp g bb wb 1 2 16 32 E1 3 1 p8 h8 (by decide) e1f0).mono ?_
  rw [e1f]
  rintro e w9 ⟨rfl, b9⟩
  have h9 := h8.below b9
  have p9 := p8.below b9
  have B9 := B8.trans (b9.mono B8.size)
  have x9 := (b9.cell (p := ⟨R, 0, none⟩) (by show R < _; omega)).trans x8
  have s9 := b9.size
  clear h8 p8 B8 b9 x8
  go_wp2_with fail
  refine (pread_yes w9 pp g bb wb 1 2 16 32 E1 3 1 p9 h9 (by decide) e1f0).mono ?_
  rw [show piece E1 (16 + 3) 1 = [7] from e1p]
  rintro e w10 ⟨v, rfl, ⟨I, i1, i2, rfl, r10⟩, b10⟩
  have y10 := r10.at_ 0 7 rfl
  rw [Nat.zero_add] at y10
  have h10 := h9.below b10
  have p10 := p9.below b10
  have B10 := B9.trans (b10.mono B9.size)
  have x10 := (b10.cell (p := ⟨R, 0, none⟩) (by show R < _; omega)).trans x9
  have s10 := b10.size
  clear h9 p9 B9 b10 x9 r10
  go_wp2_with fail
  refine (pclear_f w10 pp g bb wb 1 2 16 32 E1 p10 ⟨by decide, by decide, rfl, rfl⟩ h10 (fun x => by cases x) hpg).mono ?_
  rintro e w11 ⟨ec, G, rfl, h11, b11, wi, sa, on, cl⟩
  obtain ⟨rfl, _, _⟩ := on rfl rfl
  have p11 := p10.over b11 hpg.1 hpg.2.1 hpg.2.2
  have B11 := B10.trans (b11.toBelow B10.size (by omega) (by omega) (by omega))
  have hx : ∀ k, k < 2 → wearS G ((1 + k : Nat) : Int) = 1 := fun k hk => wear_one G k hk ((cl rfl).wear rfl rfl) wi.wear
  have okG : PartOk G 1 2 16 32 := ⟨by decide, by rw [wi.wear]; decide, by rw [wi.sec]; rfl, by rw [wi.sec]; rfl⟩
  clear h10 p10 B10 b11 x10 y10 wi sa on cl
  go_wp2_with fail
  refine (pwear_f w11 pp g bb wb 1 2 16 32 1 G p11 okG h11 hx).mono ?_
  rintro e w12 ⟨rfl, b12⟩
  have p12 := p11.below b12
  have B12 := B11.trans (b12.mono B11.size)
  clear h11 p11 B11 b12 hx okG
  go_wp2_with fail
  refine (pflash_f w12 pp g 1 2 16 32 p12).mono ?_
  rintro e w13 ⟨rfl, hw⟩
  obtain rfl := hw.symm
  have hq := same_ptr w12 g
  go_wp2
  go_ret
  exact ⟨rfl, B12⟩
end Go.Proofs.Ytoagodgiaccadaa
