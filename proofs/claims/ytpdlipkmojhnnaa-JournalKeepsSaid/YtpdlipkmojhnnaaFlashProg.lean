/-
  A flash: read, programmed, a sector erased.
-/
import Derived.StillTailTactics
import Derived.Test.YtpdlipkmojhnnaaFlashBytes
namespace Go.Proofs.Ytpdlipkmojhnnaa
open Go.RowKit
set_option maxRecDepth 100000
/-- n bytes of a flash from p on. -/
def piece (F : Fl) (p n : Nat) : List UInt8 := (F.dat.drop p).take n
theorem ck_zero {F : Fl} {p n : Int} (h : ck F p n = 0) : F.down = false ∧ 0 ≤ p ∧ 0 ≤ n ∧ p + n ≤ (F.dat.length : Int) := by
  unfold ck at h
  by_cases hd : F.down = true
  · rw [if_pos hd] at h; cases h
  · rw [if_neg hd] at h
    by_cases hc : p < 0 ∨ n < 0 ∨ (F.dat.length : Int) - p < n
    · rw [if_pos hc] at h; cases h
    · exact ⟨by simpa using hd, by omega, by omega, by omega⟩
set_option maxHeartbeats 400000 in
theorem read_no (w : World) (g bb wb : Nat) (F : Fl) (p n : Int) (h : FlashAt w g bb wb F) (h1 : -9223372036854775808 ≤ p) (h2 : p ≤ 9223372036854775807) (hc : ck F p n ≠ 0) :
    Calls Try.prog 53 #[.pointer (some ⟨g, 0, none⟩), .int .i64 p, .int .i64 n] w fun e w' => e = .returned (.tuple #[.slice none 0 0, .int .i64 (ck F p n)]) ∧ w' = w := by
  have hcall := check_f w g bb wb F p n h h1 h2
  generalize ck F p n = c at *
  go_enter Try.func53, Try.ntmps53
  go_wp2_with (go_at_call 65; refine hcall.mono ?_; rintro e w' ⟨rfl, rfl⟩)
  go_ret2
  exact ⟨rfl, rfl⟩
set_option maxHeartbeats 400000 in
theorem read_yes (w : World) (g bb wb : Nat) (F : Fl) (p n : Nat) (h : FlashAt w g bb wb F) (hc : ck F p n = 0) :
    Calls Try.prog 53 #[.pointer (some ⟨g, 0, none⟩), .int .i64 (p : Int), .int .i64 (n : Int)] w fun e w' => e = .returned (.tuple #[.slice (some ⟨w.heap.size, 0, none⟩) n n, .int .i64 0]) ∧ Bs w' w'.heap.size (some ⟨w.heap.size, 0, none⟩) n (piece F p n) ∧ Below w.heap.size w w' ∧ w.heap.size + 1 ≤ w'.heap.size ∧ MI w' w.heap.size n := by
  obtain ⟨i0, hi0, hz0, hz1, hz2⟩ := info_parts info_u8
  obtain ⟨_, _, _, hpn⟩ := ck_zero hc
  have hs := h.ok.small
  have hcall := check_f w g bb wb F p n h (by omega) (by omega)
  rw [hc] at hcall
  have c0 := h.c0
  have hbs := h.bs
  have hlt := h.lt
  have hpl : (piece F p n).length = n := by unfold piece; rw [List.length_take, List.length_drop]; omega
  clear h hc
  unfold piece at hpl ⊢
  obtain ⟨d, hd⟩ : ∃ d, F.dat = d := ⟨_, rfl⟩
  rw [hd] at c0 hs hbs hpn hpl ⊢
  clear hd
  generalize hl : d.length = L at *
  have Hl := Lib.hid hl
  clear hl
  have hp1 : (p : Int) ≤ (L : Int) := by omega
  have hp0 : (0 : Int) ≤ (p : Int) := by omega
  have hn0 : (0 : Int) ≤ (n : Int) := by omega
  by_cases hpL : L = p
  · obtain rfl : n = 0 := by omega
    subst hpL
    go_enter Try.func53, Try.ntmps53
    go_wp2_with (first
      | (go_at_call 65; refine hcall.mono ?_; rintro e w' ⟨rfl, hw⟩; obtain rfl := hw.symm)
      | (refine wpList_make_part _ rfl _ _ 35 rfl w.heap.size 5 i0 Try.underlying35 hi0 hz0 hz1 hz2 .i64 .i64 _ _ 0 0 rfl rfl rfl rfl (Nat.le_refl _) (by omega) (Nat.le_refl _) ?_; intro w1 hown hgr; have c0' : w1.cell? ⟨g, 0, none⟩ = some (.slice (some ⟨bb, 0, none⟩) L L) := (hgr.cell_far ⟨g, 0, none⟩ hlt.1 (fun e => by cases e)).trans c0; have hcp := copied hown hgr hpl; have hth : w1.there w.heap.size 0 (min 0 0) := fun j hj => (mi_of_own hown).1.1 j (by omega))
      | (refine wpList_copy_bs _ rfl (.tmp 19) (.tmp 25) 35 35 rfl 5 Try.underlying35 size5 w.heap.size 0 0 0 rfl w.heap.size (some ⟨bb, 0, none⟩) 0 0 ([]) rfl (Bs.grown (Bs.empty _ _ _) hgr (Nat.le_refl _) (fun _ h => by cases h)) hth ?_))
    go_ret2
    exact ⟨rfl, hcp⟩
  · have hsrc : Bs w w.heap.size (some ⟨bb, p, none⟩) (L - p) (d.drop p) := by
      have := hbs.drop_ p
      rwa [Nat.zero_add] at this
    go_enter Try.func53, Try.ntmps53
    go_wp2_with (first
      | (go_at_call 65; refine hcall.mono ?_; rintro e w' ⟨rfl, hw⟩; obtain rfl := hw.symm)
      | (refine wpList_make_part _ rfl _ _ 35 rfl w.heap.size 5 i0 Try.underlying35 hi0 hz0 hz1 hz2 .i64 .i64 _ _ n n rfl rfl rfl rfl (Nat.le_refl _) (by omega) (Nat.le_refl _) ?_; intro w1 hown hgr; have c0' : w1.cell? ⟨g, 0, none⟩ = some (.slice (some ⟨bb, 0, none⟩) L L) := (hgr.cell_far ⟨g, 0, none⟩ hlt.1 (fun e => by cases e)).trans c0; have hcp := copied hown hgr hpl; have hth : w1.there w.heap.size 0 (min (L - p) n) := fun j hj => (mi_of_own hown).1.1 j (by omega))
      | (refine wpList_copy_bs _ rfl (.tmp 19) (.tmp 25) 35 35 rfl 5 Try.underlying35 size5 w.heap.size 0 n n rfl w.heap.size (some ⟨bb, p, none⟩) (L - p) (L - p) (d.drop p) rfl (Bs.grown (hsrc) hgr (Nat.le_refl _) (fun _ h => by cases h)) hth ?_))
    rw [show min (L - p) n = n by omega]
    go_ret2
    exact ⟨rfl, hcp⟩
/-- The flash that a program of b at p leaves. -/
def progBy (F : Fl) (p : Nat) (b : List UInt8) : Fl := { turnedBy F b.length with dat := patch F.dat p (b.take (lasts F b.length)) }
set_option maxHeartbeats 400000 in
theorem prog_no (w : World) (g bb wb : Nat) (F : Fl) (p : Int) (A : Option Addr) (n c : Nat) (h : FlashAt w g bb wb F) (h1 : -9223372036854775808 ≤ p) (h2 : p ≤ 9223372036854775807) (hc : ck F p n ≠ 0) :
    Calls Try.prog 67 #[.pointer (some ⟨g, 0, none⟩), .int .i64 p, .slice A n c] w fun e w' => e = .returned (.int .i64 (ck F p n)) ∧ w' = w := by
  have hcall := check_f w g bb wb F p n h h1 h2
  generalize ck F p n = k at *
  go_enter Try.func67, Try.ntmps67
  go_wp2_with (go_at_call 65; refine hcall.mono ?_; rintro e w' ⟨rfl, hw⟩; obtain rfl := hw.symm)
  go_ret
  exact ⟨rfl, rfl⟩
theorem Bs.keepOff2 {w w' : World} {B n g : Nat} {A : Option Addr} {l : List UInt8} (h : Bs w B A n l) (ho : 0 < n → Off g A) (hk : ∀ p : Addr, p.block < B → p.block ≠ g → w'.cell? p = w.cell? p) : Bs w' B A n l := by
  rcases Nat.eq_zero_or_pos n with h0 | h0
  · subst h0
    exact ⟨h.len, fun hn => absurd hn (by omega)⟩
  · exact h.keepOff (ho h0) hk
theorem lasts_le (F : Fl) (n : Nat) : lasts F n ≤ n := by
  unfold lasts
  split
  · rename_i h; omega
  · exact Nat.le_refl _
theorem progBy_ok {F : Fl} (h : FlOk F) (p : Nat) (b : List UInt8) (hp : p + b.length ≤ F.dat.length) (hr : F.cut = true → 0 ≤ F.rest) : FlOk (progBy F p b) := by
  have := turnedBy_ok h b.length hr
  exact ⟨this.sec, by show (patch F.dat p _).length = _; rw [patch_length _ _ _ (by rw [List.length_take]; omega)]; exact h.len, this.wear, this.turned, this.each, this.int⟩
set_option maxHeartbeats 800000 in
theorem prog_yes (w : World) (g bb wb : Nat) (F : Fl) (p : Nat) (A : Option Addr) (n c : Nat) (b : List UInt8) (h : FlashAt w g bb wb F) (hb : Bs w w.heap.size A n b) (hoff : 0 < n → Off g A ∧ Off bb A ∧ Off wb A) (hc : ck F p n = 0) (hcap : n ≤ c) (hr : F.cut = true → 0 ≤ F.rest) :
    Calls Try.prog 67 #[.pointer (some ⟨g, 0, none⟩), .int .i64 (p : Int), .slice A n c] w fun e w' =>
      (okBits (piece F p n) b = false ∧ e = .returned (.int .i64 31) ∧ w' = w) ∨ (okBits (piece F p n) b = true ∧ e = .returned (.int .i64 (if gone F n = true then 30 else 0)) ∧ FlashAt w' g bb wb (progBy F p b) ∧ But3 w.heap.size g bb wb w w') := by
  obtain ⟨_, _, _, hpn⟩ := ck_zero hc
  have hs := h.ok.small
  have hlb := hb.len
  have hcall := check_f w g bb wb F p n h (by omega) (by omega)
  rw [hc] at hcall
  have c0 := h.c0
  have hw1 : IntKind.i64.wrap ((p : Int) + (n : Int)) = (p : Int) + (n : Int) := by rw [IntKind.wrap_i64]; omega
  have i1 : (p : Int) + (n : Int) ≤ (F.dat.length : Int) := by omega
  have i2 : (p : Int) ≤ (p : Int) + (n : Int) := by omega
  have i3 : (0 : Int) ≤ (p : Int) + (n : Int) := by omega
  have i0 : (0 : Int) ≤ (p : Int) := by omega
  have hpl : (piece F p n).length = n := by unfold piece; rw [List.length_take, List.length_drop]; omega
  clear hc
  by_cases hpL : F.dat.length = p
  · obtain rfl : n = 0 := by omega
    obtain rfl : b = [] := List.eq_nil_of_length_eq_zero hlb
    have hq0 : lasts F 0 = 0 := by have := lasts_le F 0; omega
    have hok : okBits (piece F p 0) [] = true := rfl
    have honly := only_f w (some ⟨bb, 0, none⟩) A 0 0 0 c (piece F p 0) [] ⟨hpl, fun h => absurd h (by omega)⟩ hb (Nat.le_refl _) (by omega)
    rw [hok] at honly
    have hturn := turn_f w g bb wb F 0 h (by omega) hr
    rw [hq0] at hturn
    generalize (if gone F 0 = true then (30 : Int) else 0) = ec at hturn ⊢
    have q1 : (0 : Int) ≤ (c : Int) := by omega
    have hpat : progBy F p [] = turnedBy F 0 := by
      unfold progBy patch
      simp [turnedBy]
    have HK := Lib.hid hok
    rw [hpat]
    clear h hb hr hpat hq0 hok hpn
    subst hpL
    go_enter Try.func67, Try.ntmps67
    go_wp2_with (first
      | (go_at_call 65; refine hcall.mono ?_; rintro e w' ⟨rfl, hw⟩; obtain rfl := hw.symm)
      | (go_at_call 75; refine honly.mono ?_; rintro e w' ⟨rfl, hw⟩; obtain rfl := hw.symm)
      | (go_at_call 74; refine hturn.mono ?_; rintro e w2 ⟨rfl, h2, o2⟩)
      | (refine wpList_copy_bs _ rfl (.tmp 40) (.tmp 43) 35 35 rfl 5 Try.underlying35 size5 bb 0 0 0 rfl w.heap.size A 0 c [] rfl (Bs.empty _ _ _) (fun j hj => absurd hj (by omega)) ?_))
    go_ret
    exact .inr ⟨HK.out, rfl, h2, But3.only1 o2⟩
  · have hsrc : Bs w w.heap.size (some ⟨bb, p, none⟩) n (piece F p n) := by
      have := (h.bs.drop_ p).take_ n (by omega)
      rwa [Nat.zero_add] at this
    have honly := only_f w (some ⟨bb, p, none⟩) A n n (F.dat.length - p) c (piece F p n) b (hsrc) hb (Nat.le_refl _) (by omega)
    by_cases hO : okBits (piece F p n) b = true
    · rw [hO] at honly
      have hturn := turn_f w g bb wb F n h (by omega) hr
      obtain ⟨q, hq⟩ : ∃ q, lasts F n = q := ⟨_, rfl⟩
      have hqn : q ≤ n := hq ▸ lasts_le F n
      rw [hq] at hturn
      generalize (if gone F n = true then (30 : Int) else 0) = ec at hturn ⊢
      have q0 : (0 : Int) ≤ (q : Int) := by omega
      have q1 : (q : Int) ≤ (c : Int) := by omega
      have HH := Lib.hid h
      have HB := Lib.hid hb
      have HO := Lib.hid hO
      have HQ := Lib.hid hq
      clear h hb hO hr hq
      go_enter Try.func67, Try.ntmps67
      go_wp2_with (first
        | (go_at_call 65; refine hcall.mono ?_; rintro e w' ⟨rfl, hw⟩; obtain rfl := hw.symm)
        | (go_at_call 75; refine honly.mono ?_; rintro e w' ⟨rfl, hw⟩; obtain rfl := hw.symm)
        | (go_at_call 74; refine hturn.mono ?_; rintro e w2 ⟨rfl, h2, o2⟩; have hb2 : Bs w2 w.heap.size A q (b.take q) := (Bs.keepOff2 HB.out (fun h => (hoff h).1) (fun a ha hne => o2.cell ha hne)).take_ q hqn; have hth : w2.there bb p (min q n) := fun j hj => by { have := h2.datw (p + j) (by show p + j < F.dat.length; omega); rwa [Nat.zero_add] at this })
        | (refine wpList_copy_bs _ rfl (.tmp 40) (.tmp 43) 35 35 rfl 5 Try.underlying35 size5 bb p n (F.dat.length - p) rfl w.heap.size A q c (b.take q) rfl hb2 hth ?_))
      rw [List.take_take, Nat.min_self]
      go_ret
      refine .inr ⟨HO.out, rfl, ?_, (But3.only1 o2).trans (But3.only2 ((Only.refl w2.heap.size bb w2).setCells _ p)) o2.size⟩
      have hp := h2.patched p (b.take q) (by rw [List.length_take]; show p + _ ≤ F.dat.length; omega)
      have he : progBy F p b = { turnedBy F n with dat := patch (turnedBy F n).dat p (b.take q) } := by
        unfold progBy; rw [hlb, HQ.out]; rfl
      rw [he]; exact hp
    · have hO' : okBits (piece F p n) b = false := by simpa using hO
      rw [hO'] at honly
      have HO := Lib.hid hO'
      generalize (if gone F n = true then (30 : Int) else 0) = ec
      clear h hb hO hO' hr
      go_enter Try.func67, Try.ntmps67
      go_wp2_with (first
        | (go_at_call 65; refine hcall.mono ?_; rintro e w' ⟨rfl, hw⟩; obtain rfl := hw.symm)
        | (go_at_call 75; refine honly.mono ?_; rintro e w' ⟨rfl, hw⟩; obtain rfl := hw.symm))
      go_ret
      exact .inl ⟨HO.out, rfl, rfl⟩
end Go.Proofs.Ytpdlipkmojhnnaa
