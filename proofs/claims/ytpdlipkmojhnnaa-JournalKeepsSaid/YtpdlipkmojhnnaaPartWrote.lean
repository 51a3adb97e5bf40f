/-
  A part written, told as a function of the flash; a journal's record written, then its mark.
-/
import Derived.Test.YtpdlipkmojhnnaaPartNew
namespace Go.Proofs.Ytpdlipkmojhnnaa
open Go.RowKit
set_option maxRecDepth 100000
/-- What a program that is in bounds leaves, and its error. -/
def wrote (F : Fl) (q : Nat) (b : List UInt8) : Fl × Int := if okBits (piece F q b.length) b = true then (progBy F q b, if gone F b.length = true then 30 else 0) else (F, 31)
/-- What a write to a part leaves, and its error. -/
def pwrote (F : Fl) (be si : Nat) (p : Int) (b : List UInt8) : Fl × Int := if pck F si p b.length = 0 then wrote F (be + p.toNat) b else (F, pck F si p b.length)
theorem prog_sane' {F : Fl} (h : Sane F) (p : Nat) (b : List UInt8) : Sane (progBy F p b) := by
  intro hc
  have hc' : F.cut = true := hc
  have h0 := h hc'
  show 0 ≤ (if F.cut = true then F.rest - (lasts F b.length : Int) else F.rest)
  rw [if_pos hc']
  unfold lasts
  split
  · rename_i x; have := x.2; omega
  · rename_i x
    have : ¬ F.rest < (b.length : Int) := fun y => x ⟨hc', y⟩
    omega
theorem pwrote_sane {F : Fl} (h : Sane F) (be si : Nat) (p : Int) (b : List UInt8) : Sane (pwrote F be si p b).1 := by
  unfold pwrote
  split
  · unfold wrote
    split
    · exact prog_sane' h _ _
    · exact h
  · exact h
theorem pwrote_same (F : Fl) (be si : Nat) (p : Int) (b : List UInt8) (hf : be + si ≤ F.dat.length) : (pwrote F be si p b).1.dat.length = F.dat.length ∧ (pwrote F be si p b).1.sec = F.sec ∧ (pwrote F be si p b).1.wear = F.wear := by
  unfold pwrote
  split
  · rename_i hc
    obtain ⟨_, h1, h2, h3⟩ := pck_zero hc
    unfold wrote
    split
    · refine ⟨patch_length _ _ _ ?_, rfl, rfl⟩
      have := lasts_le F b.length
      rw [List.length_take]
      omega
    · exact ⟨rfl, rfl, rfl⟩
  · exact ⟨rfl, rfl, rfl⟩
theorem pwrite_f (W : World) (pp g bb wb fi co be si : Nat) (F : Fl) (p : Int) (A : Option Addr) (n c : Nat) (b : List UInt8) (h : PartAt W pp g fi co be si) (hf : FlashAt W g bb wb F) (hs : be + si ≤ F.dat.length) (hb : Bs W W.heap.size A n b) (hoff : 0 < n → Off g A ∧ Off bb A ∧ Off wb A) (hcap : n ≤ c) (sane : Sane F) (h1 : -9223372036854775808 ≤ p) (h2 : p ≤ 9223372036854775807) :
    Calls Try.prog 55 #[.pointer (some ⟨pp, 0, none⟩), .int .i64 p, .slice A n c] W fun e w' => e = .returned (.int .i64 (pwrote F be si p b).2) ∧ FlashAt w' g bb wb (pwrote F be si p b).1 ∧ But3 W.heap.size g bb wb W w' := by
  have hsm := hf.ok.small
  have hlb := hb.len
  by_cases hc : pck F si p n = 0
  · obtain ⟨_, p0, _, pn⟩ := pck_zero hc
    obtain ⟨q, rfl⟩ : ∃ q : Nat, p = (q : Int) := ⟨p.toNat, by omega⟩
    have bd : Below W.heap.size W W.drew := (Below.refl _ W).drew
    have hpw : pwrote F be si (q : Int) b = wrote F (be + q) b := by unfold pwrote; rw [hlb, if_pos hc, Int.toNat_natCast]
    rw [hpw]
    refine pwrite_yes W pp g bb wb fi co be si F q A n c h hf hs hc _ ?_
    refine (prog_yes W.drew g bb wb F (be + q) A n c b (hf.below bd) (hb.below bd) hoff (by have := ck_of_pck (p := (q : Int)) hc hs; push_cast; exact this) hcap sane).mono fun e w' he => ?_
    rcases he with ⟨e1, e2, e3⟩ | ⟨e1, e2, e3, e4⟩
    · subst e3
      have hw : wrote F (be + q) b = (F, 31) := by unfold wrote; rw [hlb, if_neg (by rw [e1]; decide)]
      rw [hw]
      exact ⟨31, e2, e2, hf.below bd, But3.below bd⟩
    · have hw : wrote F (be + q) b = (progBy F (be + q) b, if gone F n = true then 30 else 0) := by unfold wrote; rw [hlb, if_pos e1]
      rw [hw]
      exact ⟨_, e2, e2, e3, (But3.below bd).trans e4 (Nat.le_refl _)⟩
  · have hpw : pwrote F be si p b = (F, pck F si p n) := by unfold pwrote; rw [hlb, if_neg hc]
    rw [hpw]
    refine (pwrite_no W pp g bb wb fi co be si F p A n c h hf (by omega) h1 h2 hc).mono fun e w' ⟨e1, e2⟩ => ?_
    subst e2
    exact ⟨e1, hf, But3.refl _ _ _ _ _⟩
end Go.Proofs.Ytpdlipkmojhnnaa
