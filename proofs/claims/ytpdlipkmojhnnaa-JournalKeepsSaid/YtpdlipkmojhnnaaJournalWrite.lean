/-
  A journal's record written, then its mark.
-/
import Derived.Test.YtpdlipkmojhnnaaPartWrote
namespace Go.Proofs.Ytpdlipkmojhnnaa
open Go.RowKit
set_option maxRecDepth 100000
/-- What the writing of a record and of its mark leaves: the flash, where it ends, the error. -/
def jwrote (F : Fl) (be si : Nat) (p : Nat) (b : List UInt8) : Fl × Int × Int :=
  if (pwrote F be si p b).2 = 0 then ((pwrote (pwrote F be si p b).1 be si (p + b.length : Nat) [0]).1, ((p + b.length + 1 : Nat) : Int), (pwrote (pwrote F be si p b).1 be si (p + b.length : Nat) [0]).2)
  else ((pwrote F be si p b).1, 0, (pwrote F be si p b).2)
set_option maxRecDepth 100000 in
set_option maxHeartbeats 800000 in
theorem jwrite_f (W : World) (pp g bb wb fi co be si : Nat) (F : Fl) (p : Nat) (A : Option Addr) (n c : Nat) (b : List UInt8) (h : PartAt W pp g fi co be si) (hf : FlashAt W g bb wb F) (hs : be + si ≤ F.dat.length) (hb : Bs W W.heap.size A n b) (hoff : 0 < n → Off g A ∧ Off bb A ∧ Off wb A) (hcap : n ≤ c) (sane : Sane F) (hp : (p : Int) ≤ 262144) (hn : (n : Int) ≤ 262144) (hpp : pp ≠ g ∧ pp ≠ bb ∧ pp ≠ wb) :
    Calls Try.prog 47 #[.pointer (some ⟨pp, 0, none⟩), .int .i64 (p : Int), .slice A n c] W fun e w' => e = .returned (.tuple #[.int .i64 (jwrote F be si p b).2.1, .int .i64 (jwrote F be si p b).2.2]) ∧ FlashAt w' g bb wb (jwrote F be si p b).1 ∧ But3 W.heap.size g bb wb W w' := by
  have hlb := hb.len
  have k1 := pwrite_f W pp g bb wb fi co be si F p A n c b h hf hs hb hoff hcap sane (by omega) (by omega)
  have hsame := pwrote_same F be si (p : Int) b hs
  have hsn := pwrote_sane sane be si (p : Int) b
  obtain ⟨F1, e1, hw1⟩ : ∃ F1 e1, pwrote F be si (p : Int) b = (F1, e1) := ⟨_, _, rfl⟩
  rw [hw1] at k1 hsame hsn
  have hj : jwrote F be si p b = if e1 = 0 then ((pwrote F1 be si (p + n : Nat) [0]).1, ((p + n + 1 : Nat) : Int), (pwrote F1 be si (p + n : Nat) [0]).2) else (F1, 0, e1) := by
    unfold jwrote; rw [hw1, hlb]
  rw [hj]
  have hq : (p : Int) + (n : Int) = ((p + n : Nat) : Int) := by omega
  have hqw : IntKind.i64.wrap ((p + n : Nat) : Int) = ((p + n : Nat) : Int) := by rw [IntKind.wrap_i64]; omega
  have hqw1 : IntKind.i64.wrap (((p + n : Nat) : Int) + 1) = ((p + n : Nat) : Int) + 1 := by rw [IntKind.wrap_i64]; omega
  have hq1 : ((p + n + 1 : Nat) : Int) = ((p + n : Nat) : Int) + 1 := by omega
  have hqi : ((p + n : Nat) : Int) ≤ 524288 := by omega
  rw [hq1]
  generalize p + n = q at *
  clear hw1 hj hq1 hlb
  by_cases he : e1 = 0
  · subst he
    rw [if_pos rfl]
    obtain ⟨F2, e2, hw2⟩ : ∃ F2 e2, pwrote F1 be si (q : Int) [0] = (F2, e2) := ⟨_, _, rfl⟩
    rw [hw2]
    have HP := Lib.hid (And.intro hpp h.lt)
    have k2 := fun (w1 : World) (f1 : FlashAt w1 g bb wb F1) (b1 : But3 W.heap.size g bb wb W w1) => pwrite_f (w1.alloc (.cells #[.int .u8 0] 5)) pp g bb wb fi co be si F1 (q : Int) (some ⟨w1.heap.size, 0, none⟩) 1 1 [0]
      ((h.over b1 HP.out.1.1 HP.out.1.2.1 HP.out.1.2.2).below (alloc_below w1 _)) (f1.below (alloc_below w1 _)) (by rw [hsame.1]; exact hs)
      (by have := Bs.lit_ w1 5 #[.int .u8 0] (0, 0) [0] rfl; exact this.lt)
      (fun _ => by have := f1.lt; refine ⟨fun a ha => ?_, fun a ha => ?_, fun a ha => ?_⟩ <;> (injection ha with ha; subst ha; show w1.heap.size ≠ _; omega)) (Nat.le_refl _) hsn (by omega) (by omega)
    rw [hw2] at k2
    clear hsame hsn hb hoff h hf
    go_enter Try.func47, Try.ntmps47
    go_wp2_with fail
    refine k1.mono ?_
    rintro e w1 ⟨rfl, f1, b1⟩
    go_wp2_with fail
    refine (k2 w1 f1 b1).mono ?_
    rintro e w2 ⟨rfl, f2, b2⟩
    have bA : But3 W.heap.size g bb wb W w2 := (b1.trans (But3.below (alloc_below w1 _)) b1.size).trans b2 (by have := b1.size; rw [alloc_size]; omega)
    go_wp2
    go_ret2
    exact ⟨rfl, f2, bA⟩
  · rw [if_neg he]
    have q0 : (e1 != 0) = true := bne_iff_ne.2 he
    clear hsame hsn hb hoff h hf
    go_enter Try.func47, Try.ntmps47
    go_wp2_with fail
    refine k1.mono ?_
    rintro e w1 ⟨rfl, f1, b1⟩
    go_wp2
    go_ret2
    exact ⟨rfl, f1, b1⟩
end Go.Proofs.Ytpdlipkmojhnnaa
