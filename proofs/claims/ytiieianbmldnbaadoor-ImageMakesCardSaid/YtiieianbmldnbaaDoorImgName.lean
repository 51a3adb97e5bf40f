/-
  Names of images: which texts are one.
-/
import Derived.Test.YtiieianbmldnbaaDoorShaSum
import Derived.Lib.OthersKept
import Derived.Laws.RangeAny
namespace Go.Proofs.YtiieianbmldnbaaDoor
open Go.RowKit
set_option maxRecDepth 100000
set_option maxRecDepth 100000
/-- May a sign stand in a name? -/
def sign (r : Nat) : Bool := decide ((97 ≤ r ∧ r ≤ 122) ∨ (48 ≤ r ∧ r ≤ 57) ∨ r = 46 ∨ r = 45 ∨ r = 95)
/-- Are bytes a name? -/
def named (l : List UInt8) : Bool := decide (1 ≤ l.length ∧ l.length ≤ 16) && l.all fun u => sign u.toNat
theorem isSign_any (w : World) (r : Nat) : Calls Tryd.prog 48 #[.int .i32 (r : Int)] w fun e w' => e = .returned (.bool (sign r)) ∧ w' = w := by
  by_cases c1 : (97 : Int) ≤ (r : Int) <;> by_cases c2 : (r : Int) ≤ 122 <;> by_cases c3 : (48 : Int) ≤ (r : Int) <;> by_cases c4 : (r : Int) ≤ 57 <;>
    rcases Bool.eq_false_or_eq_true ((r : Int) == 46) with c5 | c5 <;> rcases Bool.eq_false_or_eq_true ((r : Int) == 45) with c6 | c6 <;> rcases Bool.eq_false_or_eq_true ((r : Int) == 95) with c7 | c7
  all_goals
    first
    | (exfalso; simp only [beq_iff_eq, beq_eq_false_iff_ne] at c5 c6 c7; omega)
    | (have hv : sign r = true := by
         simp only [beq_iff_eq, beq_eq_false_iff_ne] at c5 c6 c7
         exact decide_eq_true (by omega)
       rw [hv]
       clear hv
       go_enter Tryd.func48, Tryd.ntmps48
       go_wp2
       go_ret
       exact ⟨rfl, rfl⟩)
    | (have hv : sign r = false := by
         simp only [beq_eq_false_iff_ne] at c5 c6 c7
         exact decide_eq_false (by omega)
       rw [hv]
       clear hv
       go_enter Tryd.func48, Tryd.ntmps48
       go_wp2
       go_ret
       exact ⟨rfl, rfl⟩)
theorem sign_high {r : Nat} (h : 128 ≤ r) : sign r = false := decide_eq_false (by omega)
theorem iterAt_other (w : World) (k : Nat) (s : ByteArray) (pos : Nat) (j : Nat) (h : j ≠ k) : (w.iterAt k s pos).heap[j]? = w.heap[j]? := by
  simp [World.iterAt, Ne.symm h]
theorem iterAt_below {w0 w : World} {B k : Nat} {s : ByteArray} {pos : Nat} (h : Below B w0 w) (hk : B ≤ k) : Below B w0 (w.iterAt k s pos) :=
  ⟨h.os, h.tape, h.output, Nat.le_trans h.size (by simp [World.iterAt]), fun j hj => (iterAt_other w k s pos j (by omega)).trans (h.block j hj)⟩
theorem getD_at (s : ByteArray) (k : Nat) (h : k < s.size) : s.data.toList[k]? = some (s[k]'h) := by
  rw [Array.getElem?_toList]
  exact Array.getElem?_eq_getElem h
theorem named_bad {l : List UInt8} {k : Nat} {u : UInt8} (hu : l[k]? = some u) (h : sign u.toNat = false) : named l = false := by
  unfold named
  rw [Bool.and_eq_false_iff]
  refine Or.inr (Bool.eq_false_iff.2 fun hh => ?_)
  have := List.all_eq_true.1 hh u (List.mem_of_getElem? hu)
  rw [h] at this
  cases this
theorem named_good {l : List UInt8} {n : Nat} (hl : l.length = n) (h1 : 1 ≤ n) (h2 : n ≤ 16) (h : ∀ i u, i < n → l[i]? = some u → sign u.toNat = true) : named l = true := by
  unfold named
  rw [decide_eq_true (by omega), Bool.true_and]
  refine List.all_eq_true.2 fun u hu => ?_
  obtain ⟨i, hi, rfl⟩ := List.mem_iff_getElem.1 hu
  exact h i _ (by omega) (List.getElem?_eq_getElem hi)
theorem named_len {l : List UInt8} (h : ¬ (1 ≤ l.length ∧ l.length ≤ 16)) : named l = false := by unfold named; rw [decide_eq_false h]; rfl
theorem isName_none (w : World) (s : ByteArray) (h : s.size < 1) : Calls Tryd.prog 35 #[.string s] w fun e w' => e = .returned (.bool false) ∧ Below w.heap.size w w' := by
  have h1 : (s.size : Int) < 1 := by omega
  go_enter Tryd.func35, Tryd.ntmps35
  go_wp2
  go_ret
  exact ⟨rfl, Below.refl _ _⟩
theorem isName_long (w : World) (s : ByteArray) (h : 16 < s.size) : Calls Tryd.prog 35 #[.string s] w fun e w' => e = .returned (.bool false) ∧ Below w.heap.size w w' := by
  have h1 : ¬ (s.size : Int) < 1 := by omega
  have h2 : (16 : Int) < s.size := by omega
  go_enter Tryd.func35, Tryd.ntmps35
  go_wp2
  go_ret
  exact ⟨rfl, Below.refl _ _⟩
theorem isName_few (w : World) (s : ByteArray) (h0 : 1 ≤ s.size) (h : s.size ≤ 16) : Calls Tryd.prog 35 #[.string s] w fun e w' => e = .returned (.bool (named s.data.toList)) ∧ Below w.heap.size w w' := by
  have h1 : ¬ (s.size : Int) < 1 := by omega
  have h2 : ¬ (16 : Int) < s.size := by omega
  have hI0 : (w.iter s 0).heap[w.heap.size]? = some (.stringIter s 0) := World.iter_heap _ s 0
  have hb0 : Below w.heap.size w (w.iter s 0) := (Below.refl _ w).alloc (Nat.le_refl _) _
  go_enter Tryd.func35, Tryd.ntmps35
  go_wp2
  go_loopw [] (fun wr => ∃ k : Nat, k ≤ s.size ∧ wr.heap[w.heap.size]? = some (.stringIter s k) ∧ Below w.heap.size w wr ∧ Hid (∀ i u, i < k → s.data.toList[i]? = some u → sign u.toNat = true)) (fun wr => s.size - wr.iterPos w.heap.size)
  case atStart => exact ⟨0, by omega, hI0, hb0, fun i u hi => absurd hi (by omega)⟩
  case round =>
    clear hI0 hb0
    obtain ⟨k, hk, hI, hb, hall⟩ := hrel
    by_cases hlt : k < s.size
    · have hu := getD_at s k hlt
      by_cases hgood : sign (s[k]'hlt).toNat = true
      · have ha : (s[k]'hlt).toNat < 128 := by
          by_cases ha : (s[k]'hlt).toNat < 128
          · exact ha
          · rw [sign_high (by omega)] at hgood; cases hgood
        have hnx := fun ty => Lib.run_next_ascii_at (P := Tryd.prog) wr w.heap.size s k ty hI hlt ha
        have hI' := Lib.iterAt_heap wr w.heap.size s k (k + 1) hI
        have hb' := iterAt_below (k := w.heap.size) (s := s) (pos := k + 1) hb (Nat.le_refl _)
        have hcall := fun w => isSign_any w (s[k]'hlt).toNat
        rw [hgood] at hcall
        have Hu := Lib.hid hu
        have Hg := Lib.hid hgood
        generalize hg : (s[k]'hlt).toNat = r at *
        clear hu ha hgood
        go_wp2_with (go_at_call 48; refine (hcall _).mono ?_; rintro e w2 ⟨rfl, rfl⟩)
        go_roundw
        case rel =>
          refine ⟨k + 1, by omega, hI', hb', fun i u hi hiu => ?_⟩
          by_cases e : i = k
          · subst e
            rw [Hu.out] at hiu
            injection hiu with hiu
            rw [← hiu, hg]; exact Hg.out
          · exact hall i u (by omega) hiu
        case measure =>
          simp only [World.iterPos, hI', hI]
          omega
      · have hbad : sign (s[k]'hlt).toNat = false := by simpa using hgood
        obtain ⟨r, p', hnx, hr⟩ : ∃ r p', (∀ ty, (Instr.next (.pointer (some ⟨w.heap.size, 0, none⟩)) true ty).run Tryd.prog wr = .ok (.tuple #[.bool true, .int .i64 k, .int .i32 (r : Nat)]) (wr.iterAt w.heap.size s p')) ∧ sign r = false := by
          by_cases ha : (s[k]'hlt).toNat < 128
          · exact ⟨_, _, fun ty => Lib.run_next_ascii_at (P := Tryd.prog) wr w.heap.size s k ty hI hlt ha, hbad⟩
          · exact ⟨_, _, fun ty => Lib.run_next_any_at (P := Tryd.prog) wr w.heap.size s k ty hI hlt, sign_high (decode_high s k hlt (by omega)).1⟩
        have hb' := iterAt_below (k := w.heap.size) (s := s) (pos := p') hb (Nat.le_refl _)
        have Hp := Lib.hid (named_bad hu hbad)
        have hcall := fun w => isSign_any w r
        rw [hr] at hcall
        clear hu hbad hr hb hall hgood
        go_wp2_with (go_at_call 48; refine (hcall _).mono ?_; rintro e w2 ⟨rfl, rfl⟩)
        go_ret
        rw [Hp.out]
        exact ⟨rfl, hb'⟩
    · obtain rfl : k = s.size := by omega
      have hnx := fun ty => Lib.run_next_end_at (P := Tryd.prog) wr w.heap.size s s.size ty hI (by omega)
      have Hp := Lib.hid (named_good (l := s.data.toList) (n := s.size) (by rw [Array.length_toList]; rfl) h0 h hall)
      clear hall
      go_wp2
      go_ret
      rw [Hp.out]
      exact ⟨rfl, hb⟩
/-- Whatever text. -/
theorem isName_any (w : World) (s : ByteArray) : Calls Tryd.prog 35 #[.string s] w fun e w' => e = .returned (.bool (named s.data.toList)) ∧ Below w.heap.size w w' := by
  have hl : s.data.toList.length = s.size := by rw [Array.length_toList]; rfl
  by_cases h0 : 1 ≤ s.size
  · by_cases h : s.size ≤ 16
    · exact isName_few w s h0 h
    · rw [named_len (by omega)]; exact isName_long w s (by omega)
  · rw [named_len (by omega)]; exact isName_none w s (by omega)
end Go.Proofs.YtiieianbmldnbaaDoor
