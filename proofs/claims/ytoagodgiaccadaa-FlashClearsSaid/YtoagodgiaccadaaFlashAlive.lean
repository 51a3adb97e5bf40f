/-
  The examples that every statement of layer 3 asks first.
-/
import Derived.Test.YtoagodgiaccadaaFlashNew
namespace Go.Proofs.Ytoagodgiaccadaa
open Go.RowKit
section
variable {w : World} {g bb wb : Nat} {F : Fl}
theorem prog_ok (p : Nat) (A : Option Addr) (n c : Nat) (b : List UInt8) (ec : Int) (h : FlashAt w g bb wb F) (hb : Bs w w.heap.size A n b) (hoff : 0 < n → Off g A ∧ Off bb A ∧ Off wb A) (hc : ck F p n = 0) (hcap : n ≤ c) (hr : F.cut = true → 0 ≤ F.rest)
    (hk : okBits (piece F p n) b = true) (hec : (if gone F n = true then (30 : Int) else 0) = ec) :
    Calls Try.prog 14 #[.pointer (some ⟨g, 0, none⟩), .int .i64 (p : Int), .slice A n c] w fun e w' => e = .returned (.int .i64 ec) ∧ FlashAt w' g bb wb (progBy F p b) ∧ But3 w.heap.size g bb wb w w' :=
  (prog_yes w g bb wb F p A n c b h hb hoff hc hcap hr).mono fun e w' he => by
    rcases he with ⟨h1, _⟩ | ⟨_, h2, h3, h4⟩
    · rw [hk] at h1; cases h1
    · rw [hec] at h2; exact ⟨h2, h3, h4⟩
theorem prog_bad (p : Nat) (A : Option Addr) (n c : Nat) (b : List UInt8) (h : FlashAt w g bb wb F) (hb : Bs w w.heap.size A n b) (hoff : 0 < n → Off g A ∧ Off bb A ∧ Off wb A) (hc : ck F p n = 0) (hcap : n ≤ c) (hr : F.cut = true → 0 ≤ F.rest)
    (hk : okBits (piece F p n) b = false) :
    Calls Try.prog 14 #[.pointer (some ⟨g, 0, none⟩), .int .i64 (p : Int), .slice A n c] w fun e w' => e = .returned (.int .i64 31) ∧ w' = w :=
  (prog_yes w g bb wb F p A n c b h hb hoff hc hcap hr).mono fun e w' he => by
    rcases he with ⟨_, h2, h3⟩ | ⟨h1, _⟩
    · exact ⟨h2, h3⟩
    · rw [hk] at h1; cases h1
theorem FlashAt.alloc (h : FlashAt w g bb wb F) (o : Obj) : FlashAt (w.alloc o) g bb wb F := h.below (alloc_below w o)
theorem off_lit (h : FlashAt w g bb wb F) : Off g (some ⟨w.heap.size, 0, none⟩) ∧ Off bb (some ⟨w.heap.size, 0, none⟩) ∧ Off wb (some ⟨w.heap.size, 0, none⟩) := by
  have := h.lt
  refine ⟨fun a ha => ?_, fun a ha => ?_, fun a ha => ?_⟩ <;> (injection ha with ha; subst ha; show w.heap.size ≠ _; omega)
/-- Bytes that stand in the text are programmed. -/
theorem lit_ok (p : Nat) (pi : Int) (n : Nat) (b : List UInt8) (cs : Array Value) (fr : Nat × Nat) (ec : Int) (hp : pi = (p : Int)) (hcs : cs.toList = U8 b) (hn : b.length = n) (h : FlashAt w g bb wb F) (hc : ck F p n = 0) (hr : F.cut = true → 0 ≤ F.rest)
    (hk : okBits (piece F p n) b = true) (hec : (if gone F n = true then (30 : Int) else 0) = ec) :
    Calls Try.prog 14 #[.pointer (some ⟨g, 0, none⟩), .int .i64 pi, .slice (some ⟨w.heap.size, 0, none⟩) n n] (w.alloc (.cells cs 5 fr)) fun e w' => e = .returned (.int .i64 ec) ∧ FlashAt w' g bb wb (progBy F p b) ∧ But3 w.heap.size g bb wb w w' := by
  subst hn hp
  refine (prog_ok p _ _ _ b ec (h.alloc _) (Bs.lit_ w 5 cs fr b hcs).lt (fun _ => off_lit h) hc (Nat.le_refl _) hr hk hec).mono fun e w' ⟨h1, h2, h3⟩ => ⟨h1, h2, (But3.below (alloc_below w _)).trans h3 (by rw [alloc_size]; omega)⟩
theorem lit_bad (p : Nat) (pi : Int) (n : Nat) (b : List UInt8) (cs : Array Value) (fr : Nat × Nat) (hp : pi = (p : Int)) (hcs : cs.toList = U8 b) (hn : b.length = n) (h : FlashAt w g bb wb F) (hc : ck F p n = 0) (hr : F.cut = true → 0 ≤ F.rest)
    (hk : okBits (piece F p n) b = false) :
    Calls Try.prog 14 #[.pointer (some ⟨g, 0, none⟩), .int .i64 pi, .slice (some ⟨w.heap.size, 0, none⟩) n n] (w.alloc (.cells cs 5 fr)) fun e w' => e = .returned (.int .i64 31) ∧ FlashAt w' g bb wb F ∧ But3 w.heap.size g bb wb w w' := by
  subst hn hp
  refine (prog_bad p _ _ _ b (h.alloc _) (Bs.lit_ w 5 cs fr b hcs).lt (fun _ => off_lit h) hc (Nat.le_refl _) hr hk).mono fun e w' ⟨h1, h2⟩ => ?_
  subst h2
  exact ⟨h1, h.alloc _, But3.below (alloc_below w _)⟩
theorem read_c (pi ni : Int) (p n : Nat) (hp : pi = (p : Int)) (hn : ni = (n : Int)) (h : FlashAt w g bb wb F) (hc : ck F p n = 0) :
    Calls Try.prog 15 #[.pointer (some ⟨g, 0, none⟩), .int .i64 pi, .int .i64 ni] w fun e w' => e = .returned (.tuple #[.slice (some ⟨w.heap.size, 0, none⟩) n n, .int .i64 0]) ∧ Bs w' w'.heap.size (some ⟨w.heap.size, 0, none⟩) n (piece F p n) ∧ Below w.heap.size w w' ∧ w.heap.size + 1 ≤ w'.heap.size ∧ MI w' w.heap.size n := by
  subst hp hn
  exact read_yes w g bb wb F p n h hc
theorem Bs.at_ {w : World} {B n b o : Nat} {l : List UInt8} (h : Bs w B (some ⟨b, o, none⟩) n l) (k : Nat) (u : UInt8) (hu : l[k]? = some u) : w.cell? ⟨b, o + k, none⟩ = some (.int .u8 (u.toNat : Int)) := by
  obtain ⟨b', o', e, _, hc⟩ := h.place (by have := (List.getElem?_eq_some_iff.1 hu).1; have := h.len; omega)
  injection e with e
  injection e with e1 e2 _
  subst e1 e2
  exact hc k u hu
end
def A0 : Fl := fresh 2 16
def A1 : Fl := progBy A0 0 [240]
def A2 : Fl := progBy A1 0 [48]
def A4 : Fl := { A2 with cut := true, rest := 2 }
def A5 : Fl := progBy A4 16 [1, 2, 3]
def A6 : Fl := { A5 with cut := false, down := false }
def A7 : Fl := eraseBy A6 1
theorem a0c : ck A0 (0 : Nat) (1 : Nat) = 0 := by decide +kernel
theorem a0k : okBits (piece A0 0 1) [240] = true := by decide +kernel
theorem a0g : (if gone A0 1 = true then (30 : Int) else 0) = 0 := by decide +kernel
theorem a1c : ck A1 (0 : Nat) (1 : Nat) = 0 := by decide +kernel
theorem a1k : okBits (piece A1 0 1) [48] = true := by decide +kernel
theorem a1g : (if gone A1 1 = true then (30 : Int) else 0) = 0 := by decide +kernel
theorem a2c : ck A2 (0 : Nat) (1 : Nat) = 0 := by decide +kernel
theorem a2k : okBits (piece A2 0 1) [112] = false := by decide +kernel
theorem a2r : ck A2 (0 : Nat) (2 : Nat) = 0 := by decide +kernel
theorem a2p : piece A2 0 2 = [48, 255] := by decide +kernel
theorem a4c : ck A4 (16 : Nat) (3 : Nat) = 0 := by decide +kernel
theorem a4k : okBits (piece A4 16 3) [1, 2, 3] = true := by decide +kernel
theorem a4g : (if gone A4 3 = true then (30 : Int) else 0) = 30 := by decide +kernel
theorem a5c : ck A5 0 1 = 30 := by decide +kernel
theorem a5d : A5.down = true := by decide +kernel
theorem a6c : ck A6 (16 : Nat) (3 : Nat) = 0 := by decide +kernel
theorem a6p : piece A6 16 3 = [1, 2, 255] := by decide +kernel
theorem a6g : (if gone A6 A6.sec = true then (30 : Int) else 0) = 0 := by decide +kernel
theorem a7w : wearS A7 1 = 1 := by decide +kernel
theorem a7t : A7.turned = 20 := by decide +kernel
theorem a7l : A7.dat.length = 32 := by decide +kernel
theorem a7s : A7.sec = 16 := by decide +kernel
theorem a7i : A7.dat[16]? = some 255 := by decide +kernel
set_option maxRecDepth 100000 in
set_option maxHeartbeats 2000000 in
theorem alive_any (w : World) : Calls Try.prog 9 #[] w fun e w' => e = .returned (.bool true) ∧ Below w.heap.size w w' := by
  have t : ∀ {F : Fl}, F.cut = false → F.cut = true → 0 ≤ F.rest := fun h1 h2 => by rw [h1] at h2; cases h2
  go_enter Try.func9, Try.ntmps9
  go_wp2_with fail
  refine (new_f w 2 16 2 16 (by decide) (by decide)).mono ?_
  rintro e w1 ⟨g, bb, wb, rfl, h1, B1, g0, g1, g2⟩
  replace h1 : FlashAt w1 g bb wb A0 := h1
  go_wp2_with fail
  refine (lit_ok 0 0 1 [240] _ _ 0 rfl (by rfl) rfl h1 a0c (t rfl) a0k a0g).mono ?_
  rintro e w2 ⟨rfl, h2, b2⟩
  replace h2 : FlashAt w2 g bb wb A1 := h2
  have B2 := B1.trans (b2.toBelow B1.size g0 g1 g2)
  clear h1 b2 B1
  go_wp2_with fail
  refine (lit_ok 0 0 1 [48] _ _ 0 rfl (by rfl) rfl h2 a1c (t rfl) a1k a1g).mono ?_
  rintro e w3 ⟨rfl, h3, b3⟩
  replace h3 : FlashAt w3 g bb wb A2 := h3
  have B3 := B2.trans (b3.toBelow B2.size g0 g1 g2)
  clear h2 b3 B2
  go_wp2_with fail
  refine (lit_bad 0 0 1 [112] _ _ rfl (by rfl) rfl h3 a2c (t rfl) a2k).mono ?_
  rintro e w4 ⟨rfl, h4, b4⟩
  have B4 := B3.trans (b4.toBelow B3.size g0 g1 g2)
  clear h3 b4 B3
  go_wp2_with fail
  refine (read_c 0 2 0 2 rfl rfl h4 a2r).mono ?_
  rintro e w5 ⟨rfl, r5, b5, s5, _⟩
  have h5 := h4.below b5
  have B5 := B4.trans (b5.mono B4.size)
  rw [a2p] at r5
  have x0 := r5.at_ 0 48 rfl
  have x1 := r5.at_ 1 255 rfl
  rw [Nat.zero_add] at x0 x1
  have hlt := h4.lt
  generalize hR : w4.heap.size = R at *
  clear h4 b5 r5 B4
  go_wp2_with fail
  refine (cut_f w5 g bb wb A2 2 h5 (by decide) (by decide)).mono ?_
  rintro e w6 ⟨rfl, h6, o6⟩
  replace h6 : FlashAt w6 g bb wb A4 := h6
  have b6 : But3 w5.heap.size g bb wb w5 w6 := But3.only1 o6
  have B6 := B5.trans (b6.toBelow B5.size g0 g1 g2)
  have y0 := (b6.cell (p := ⟨R, 0, none⟩) (by show R < _; omega) (by show R ≠ _; omega) (by show R ≠ _; omega) (by show R ≠ _; omega)).trans x0
  have y1 := (b6.cell (p := ⟨R, 1, none⟩) (by show R < _; omega) (by show R ≠ _; omega) (by show R ≠ _; omega) (by show R ≠ _; omega)).trans x1
  have s6 := b6.size
  clear h5 o6 b6 B5 x0 x1
  go_wp2_with fail
  refine (lit_ok 16 16 3 [1, 2, 3] _ _ 30 rfl (by rfl) rfl h6 a4c (fun _ => by decide) a4k a4g).mono ?_
  rintro e w7 ⟨rfl, h7, b7⟩
  replace h7 : FlashAt w7 g bb wb A5 := h7
  have B7 := B6.trans (b7.toBelow B6.size g0 g1 g2)
  have x0 := (b7.cell (p := ⟨R, 0, none⟩) (by show R < _; omega) (by show R ≠ _; omega) (by show R ≠ _; omega) (by show R ≠ _; omega)).trans y0
  have x1 := (b7.cell (p := ⟨R, 1, none⟩) (by show R < _; omega) (by show R ≠ _; omega) (by show R ≠ _; omega) (by show R ≠ _; omega)).trans y1
  have s7 := b7.size
  clear h6 b7 B6 y0 y1
  go_wp2_with fail
  refine (read_no w7 g bb wb A5 0 1 h7 (by decide) (by decide) (by rw [a5c]; decide)).mono ?_
  rw [a5c]
  rintro e w8 ⟨rfl, hw⟩
  obtain rfl := hw.symm
  go_wp2_with fail
  refine (down_f w7 g bb wb A5 h7).mono ?_
  rw [a5d]
  rintro e w8 ⟨rfl, hw⟩
  obtain rfl := hw.symm
  go_wp2_with fail
  refine (restore_f w7 g bb wb A5 h7).mono ?_
  rintro e w8 ⟨rfl, h8, o8⟩
  replace h8 : FlashAt w8 g bb wb A6 := h8
  have b8 : But3 w7.heap.size g bb wb w7 w8 := But3.only1 o8
  have B8 := B7.trans (b8.toBelow B7.size g0 g1 g2)
  have y0 := (b8.cell (p := ⟨R, 0, none⟩) (by show R < _; omega) (by show R ≠ _; omega) (by show R ≠ _; omega) (by show R ≠ _; omega)).trans x0
  have y1 := (b8.cell (p := ⟨R, 1, none⟩) (by show R < _; omega) (by show R ≠ _; omega) (by show R ≠ _; omega) (by show R ≠ _; omega)).trans x1
  have s8 := b8.size
  clear h7 o8 b8 B7 x0 x1
  go_wp2_with fail
  refine (read_c 16 3 16 3 rfl rfl h8 a6c).mono ?_
  rintro e w9 ⟨rfl, r9, b9, s9, _⟩
  have h9 := h8.below b9
  have B9 := B8.trans (b9.mono B8.size)
  rw [a6p] at r9
  have z1 := r9.at_ 1 2 rfl
  have z2 := r9.at_ 2 255 rfl
  rw [Nat.zero_add] at z1 z2
  have x0 := (b9.cell (p := ⟨R, 0, none⟩) (by show R < _; omega)).trans y0
  have x1 := (b9.cell (p := ⟨R, 1, none⟩) (by show R < _; omega)).trans y1
  have hlt8 := h8.lt
  generalize hS : w8.heap.size = S at *
  clear h8 b9 r9 B8 y0 y1
  go_wp2_with fail
  refine (erase_yes w9 g bb wb A6 1 h9 rfl (by decide) (t rfl)).mono ?_
  rw [a6g]
  rintro e w10 ⟨rfl, h10, b10⟩
  replace h10 : FlashAt w10 g bb wb A7 := h10
  have B10 := B9.trans (b10.toBelow B9.size g0 g1 g2)
  have y0 := (b10.cell (p := ⟨R, 0, none⟩) (by show R < _; omega) (by show R ≠ _; omega) (by show R ≠ _; omega) (by show R ≠ _; omega)).trans x0
  have y1 := (b10.cell (p := ⟨R, 1, none⟩) (by show R < _; omega) (by show R ≠ _; omega) (by show R ≠ _; omega) (by show R ≠ _; omega)).trans x1
  have u1 := (b10.cell (p := ⟨S, 1, none⟩) (by show S < _; omega) (by show S ≠ _; omega) (by show S ≠ _; omega) (by show S ≠ _; omega)).trans z1
  have u2 := (b10.cell (p := ⟨S, 2, none⟩) (by show S < _; omega) (by show S ≠ _; omega) (by show S ≠ _; omega) (by show S ≠ _; omega)).trans z2
  clear h9 b10 B9 x0 x1 z1 z2
  go_wp2_with fail
  refine (wear_f w10 g bb wb A7 1 h10).mono ?_
  rw [a7w]
  rintro e w11 ⟨rfl, hw⟩
  obtain rfl := hw.symm
  go_wp2_with fail
  refine (turned_f w10 g bb wb A7 h10).mono ?_
  rw [a7t]
  rintro e w11 ⟨rfl, hw⟩
  obtain rfl := hw.symm
  go_wp2_with fail
  refine (size_f w10 g bb wb A7 h10).mono ?_
  rw [a7l]
  rintro e w11 ⟨rfl, hw⟩
  obtain rfl := hw.symm
  go_wp2_with fail
  refine (sector_f w10 g bb wb A7 h10).mono ?_
  rw [a7s]
  rintro e w11 ⟨rfl, hw⟩
  obtain rfl := hw.symm
  go_wp2_with fail
  refine (image_f w10 g bb wb A7 h10).mono ?_
  rintro e w11 ⟨rfl, r11, b11, _, _⟩
  have v16 := r11.at_ 16 255 a7i
  rw [Nat.zero_add] at v16
  have B11 := B10.trans (b11.mono B10.size)
  rw [a7l]
  clear h10 r11 b11 B10
  go_wp2
  go_ret
  exact ⟨rfl, B11⟩
end Go.Proofs.Ytoagodgiaccadaa
