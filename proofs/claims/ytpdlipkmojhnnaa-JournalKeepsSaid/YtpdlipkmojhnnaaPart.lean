/-
  A part in memory, and the calls that tell of it.
-/
import Derived.Deep.QuietTactic
import Derived.StillTailTactics
import Derived.Test.YtpdlipkmojhnnaaFlashMore
namespace Go.Proofs.Ytpdlipkmojhnnaa
open Go.RowKit
set_option maxRecDepth 100000
/-- A part lies in one block. -/
structure PartAt (w : World) (pp g : Nat) (fi co be si : Nat) : Prop where
  c0 : w.cell? ⟨pp, 0, none⟩ = some (.pointer (some ⟨g, 0, none⟩))
  c1 : w.cell? ⟨pp, 1, none⟩ = some (.int .i64 (fi : Int))
  c2 : w.cell? ⟨pp, 2, none⟩ = some (.int .i64 (co : Int))
  c3 : w.cell? ⟨pp, 3, none⟩ = some (.int .i64 (be : Int))
  c4 : w.cell? ⟨pp, 4, none⟩ = some (.int .i64 (si : Int))
  lt : pp < w.heap.size
theorem PartAt.keep {w w' : World} {pp g fi co be si : Nat} (h : PartAt w pp g fi co be si) (hk : w'.heap[pp]? = w.heap[pp]?) (hs : w.heap.size ≤ w'.heap.size) : PartAt w' pp g fi co be si := by
  have cg : ∀ j, w'.cell? ⟨pp, j, none⟩ = w.cell? ⟨pp, j, none⟩ := fun j => World.cell?_of_block (w := w) hk
  exact ⟨(cg _).trans h.c0, (cg _).trans h.c1, (cg _).trans h.c2, (cg _).trans h.c3, (cg _).trans h.c4, Nat.lt_of_lt_of_le h.lt hs⟩
theorem PartAt.below {w w' : World} {pp g fi co be si : Nat} (h : PartAt w pp g fi co be si) (hb : Below w.heap.size w w') : PartAt w' pp g fi co be si := h.keep (hb.block pp h.lt) hb.size
theorem PartAt.over {w w' : World} {pp g fi co be si g' bb wb : Nat} (h : PartAt w pp g fi co be si) (hb : But3 w.heap.size g' bb wb w w') (h1 : pp ≠ g') (h2 : pp ≠ bb) (h3 : pp ≠ wb) : PartAt w' pp g fi co be si := h.keep (hb.block pp h.lt h1 h2 h3) hb.size
/-- What it is of its flash. -/
structure PartOk (F : Fl) (fi co be si : Nat) : Prop where
  one : 1 ≤ co
  in_ : fi + co ≤ F.wear.length
  be : be = fi * F.sec
  si : si = co * F.sec
theorem PartOk.fits {F : Fl} {fi co be si : Nat} (h : PartOk F fi co be si) (ok : FlOk F) : be + si ≤ F.dat.length := by
  rw [h.be, h.si, ← Nat.add_mul, ok.len]
  exact Nat.mul_le_mul_right _ h.in_
theorem psize_f (w : World) (pp g fi co be si : Nat) (h : PartAt w pp g fi co be si) : Calls Try.prog 39 #[.pointer (some ⟨pp, 0, none⟩)] w fun e w' => e = .returned (.int .i64 (si : Int)) ∧ w' = w := by
  have h0 := h.c4
  go_enter Try.func39, Try.ntmps39
  go_wp2
  go_ret
  exact ⟨rfl, rfl⟩
/-- The error of a call for n bytes at p of a part. -/
def pck (F : Fl) (si : Nat) (p n : Int) : Int := if F.down = true then 30 else if p < 0 ∨ n < 0 ∨ (si : Int) - p < n then 1 else 0
set_option maxHeartbeats 400000 in
theorem pcheck_f (w : World) (pp g bb wb fi co be si : Nat) (F : Fl) (p n : Int) (h : PartAt w pp g fi co be si) (hf : FlashAt w g bb wb F) (hs : si ≤ 262144) (h1 : -9223372036854775808 ≤ p) (h2 : p ≤ 9223372036854775807) :
    Calls Try.prog 52 #[.pointer (some ⟨pp, 0, none⟩), .int .i64 p, .int .i64 n] w fun e w' => e = .returned (.int .i64 (pck F si p n)) ∧ w' = w := by
  have c0 := h.c0
  have c4 := h.c4
  have hi : (si : Int) ≤ 262144 := by omega
  obtain ⟨d, hd⟩ : ∃ d, IntKind.i64.wrap ((si : Int) - p) = d := ⟨_, rfl⟩
  cases hdn : F.down with
  | true =>
    go_enter Try.func52, Try.ntmps52
    go_wp2_with fail
    refine (down_f w g bb wb F hf).mono ?_
    rw [hdn]
    rintro e w' ⟨rfl, hw⟩
    obtain rfl := hw.symm
    go_wp2
    go_ret
    exact ⟨by unfold pck; rw [hdn]; rfl, rfl⟩
  | false =>
    by_cases p0 : 0 ≤ p
    · have hdv : d = (si : Int) - p := by rw [← hd, IntKind.wrap_i64]; omega
      by_cases n0 : 0 ≤ n
      · by_cases hn : n ≤ d
        · have e0 : pck F si p n = 0 := by unfold pck; rw [hdn, if_neg (by decide), if_neg (by omega)]
          rw [e0]
          clear e0 hdv
          go_enter Try.func52, Try.ntmps52
          go_wp2_with fail
          refine (down_f w g bb wb F hf).mono ?_
          rw [hdn]
          rintro e w' ⟨rfl, hw⟩
          obtain rfl := hw.symm
          go_wp2
          go_ret
          exact ⟨rfl, rfl⟩
        · have e0 : pck F si p n = 1 := by unfold pck; rw [hdn, if_neg (by decide), if_pos (by omega)]
          rw [e0]
          clear e0 hdv
          go_enter Try.func52, Try.ntmps52
          go_wp2_with fail
          refine (down_f w g bb wb F hf).mono ?_
          rw [hdn]
          rintro e w' ⟨rfl, hw⟩
          obtain rfl := hw.symm
          go_wp2
          go_ret
          exact ⟨rfl, rfl⟩
      · have e0 : pck F si p n = 1 := by unfold pck; rw [hdn, if_neg (by decide), if_pos (by omega)]
        rw [e0]
        clear e0 hdv
        go_enter Try.func52, Try.ntmps52
        go_wp2_with fail
        refine (down_f w g bb wb F hf).mono ?_
        rw [hdn]
        rintro e w' ⟨rfl, hw⟩
        obtain rfl := hw.symm
        go_wp2
        go_ret
        exact ⟨rfl, rfl⟩
    · have e0 : pck F si p n = 1 := by unfold pck; rw [hdn, if_neg (by decide), if_pos (by omega)]
      rw [e0]
      clear e0
      go_enter Try.func52, Try.ntmps52
      go_wp2_with fail
      refine (down_f w g bb wb F hf).mono ?_
      rw [hdn]
      rintro e w' ⟨rfl, hw⟩
      obtain rfl := hw.symm
      go_wp2
      go_ret
      exact ⟨rfl, rfl⟩
theorem sectors_f (w : World) (g bb wb : Nat) (F : Fl) (hf : FlashAt w g bb wb F) :
    Calls Try.prog 36 #[.pointer (some ⟨g, 0, none⟩)] w fun e w' => e = .returned (.int .i64 (F.wear.length : Int)) ∧ w' = w := by
  obtain ⟨s0, s1⟩ := hf.ok.sec
  obtain ⟨l0, l1⟩ := hf.ok.wear
  have hl := hf.ok.len
  obtain ⟨T, hT⟩ : ∃ T, F.dat.length = T := ⟨_, rfl⟩
  obtain ⟨m, hm⟩ : ∃ m, F.sec = m := ⟨_, rfl⟩
  obtain ⟨n, hn⟩ : ∃ n, F.wear.length = n := ⟨_, rfl⟩
  have f1 := sector_f w g bb wb F hf
  have f2 := size_f w g bb wb F hf
  rw [hT, hm, hn] at hl
  rw [hm] at s0 s1 f1
  rw [hn] at l0 l1
  rw [hT] at f2
  rw [hn]
  have hdiv : (T : Int).tdiv (m : Int) = (n : Int) := by
    rw [hl, Int.natCast_mul]
    exact Int.mul_tdiv_cancel _ (by omega)
  have hw : IntKind.i64.wrap (n : Int) = (n : Int) := by rw [IntKind.wrap_i64]; omega
  have hm0 : ((m : Int) == 0) = false := beq_false_of_ne (by omega)
  have hm1 : (m : Int) ≠ 0 := by omega
  clear hT hm hn hl hf l0 l1 s1
  go_enter Try.func36, Try.ntmps36
  go_wp2_with fail
  refine f1.mono ?_
  rintro e w' ⟨rfl, hw⟩
  obtain rfl := hw.symm
  go_wp2_with fail
  refine f2.mono ?_
  rintro e w' ⟨rfl, hw⟩
  obtain rfl := hw.symm
  go_wp2_with fail
  refine f1.mono ?_
  rintro e w' ⟨rfl, hw⟩
  obtain rfl := hw.symm
  go_wp2
  go_ret
  exact ⟨rfl, rfl⟩
theorem pread_no (w : World) (pp g bb wb fi co be si : Nat) (F : Fl) (p n : Int) (h : PartAt w pp g fi co be si) (hf : FlashAt w g bb wb F) (hs : si ≤ 262144) (h1 : -9223372036854775808 ≤ p) (h2 : p ≤ 9223372036854775807) (hc : pck F si p n ≠ 0) :
    Calls Try.prog 38 #[.pointer (some ⟨pp, 0, none⟩), .int .i64 p, .int .i64 n] w fun e w' => e = .returned (.tuple #[.slice none 0 0, .int .i64 (pck F si p n)]) ∧ w' = w := by
  have hk := pcheck_f w pp g bb wb fi co be si F p n h hf hs h1 h2
  obtain ⟨q, hq⟩ : ∃ q, pck F si p n = q := ⟨_, rfl⟩
  rw [hq] at hk hc
  rw [hq]
  have q0 : (q == 0) = false := beq_false_of_ne hc
  clear hq h1 h2
  go_enter Try.func38, Try.ntmps38
  go_wp2_with fail
  refine hk.mono ?_
  rintro e w' ⟨rfl, hw⟩
  obtain rfl := hw.symm
  go_wp2
  go_ret2
  exact ⟨rfl, rfl⟩
theorem pck_zero {F : Fl} {si : Nat} {p n : Int} (h : pck F si p n = 0) : F.down = false ∧ 0 ≤ p ∧ 0 ≤ n ∧ p + n ≤ (si : Int) := by
  unfold pck at h
  cases hd : F.down with
  | true => rw [hd, if_pos rfl] at h; exact absurd h (by decide)
  | false =>
    rw [hd, if_neg (by decide)] at h
    by_cases hx : p < 0 ∨ n < 0 ∨ (si : Int) - p < n
    · rw [if_pos hx] at h; exact absurd h (by decide)
    · exact ⟨rfl, by omega, by omega, by omega⟩
theorem ck_of_pck {F : Fl} {si be : Nat} {p n : Int} (h : pck F si p n = 0) (hb : be + si ≤ F.dat.length) : ck F ((be : Int) + p) n = 0 := by
  obtain ⟨h0, h1, h2, h3⟩ := pck_zero h
  unfold ck
  rw [h0, if_neg (by decide), if_neg (by omega)]
theorem pwrite_no (w : World) (pp g bb wb fi co be si : Nat) (F : Fl) (p : Int) (A : Option Addr) (n c : Nat) (h : PartAt w pp g fi co be si) (hf : FlashAt w g bb wb F) (hs : si ≤ 262144) (h1 : -9223372036854775808 ≤ p) (h2 : p ≤ 9223372036854775807) (hc : pck F si p n ≠ 0) :
    Calls Try.prog 55 #[.pointer (some ⟨pp, 0, none⟩), .int .i64 p, .slice A n c] w fun e w' => e = .returned (.int .i64 (pck F si p n)) ∧ w' = w := by
  have hk := pcheck_f w pp g bb wb fi co be si F p n h hf hs h1 h2
  obtain ⟨q, hq⟩ : ∃ q, pck F si p n = q := ⟨_, rfl⟩
  rw [hq] at hk hc
  rw [hq]
  have q0 : (q == 0) = false := beq_false_of_ne hc
  clear hq h1 h2
  go_enter Try.func55, Try.ntmps55
  go_wp2_with fail
  refine hk.mono ?_
  rintro e w' ⟨rfl, hw⟩
  obtain rfl := hw.symm
  go_wp2
  go_ret
  exact ⟨rfl, rfl⟩
set_option maxRecDepth 100000 in
theorem pwrite_yes (w : World) (pp g bb wb fi co be si : Nat) (F : Fl) (p : Nat) (A : Option Addr) (n c : Nat) (h : PartAt w pp g fi co be si) (hf : FlashAt w g bb wb F) (hs : be + si ≤ F.dat.length) (hc : pck F si p n = 0)
    (P : Ending → World → Prop) (hp : Calls Try.prog 67 #[.pointer (some ⟨g, 0, none⟩), .int .i64 ((be + p : Nat) : Int), .slice A n c] w.drew fun e w' => ∃ x : Int, e = .returned (.int .i64 x) ∧ P e w') :
    Calls Try.prog 55 #[.pointer (some ⟨pp, 0, none⟩), .int .i64 (p : Int), .slice A n c] w P := by
  have hsm := hf.ok.small
  obtain ⟨_, _, _, hpn⟩ := pck_zero hc
  have hk := pcheck_f w pp g bb wb fi co be si F p n h hf (by omega) (by omega) (by omega)
  rw [hc] at hk
  obtain ⟨q, hq⟩ : ∃ q, be + p = q := ⟨_, rfl⟩
  rw [hq] at hp
  have hqi : (be : Int) + (p : Int) = (q : Int) := by omega
  have hw : IntKind.i64.wrap (q : Int) = (q : Int) := by rw [IntKind.wrap_i64]; omega
  have c0 := h.c0
  have c3 := h.c3
  clear hq hpn hsm hs hc
  go_enter Try.func55, Try.ntmps55
  go_wp2_with fail
  refine hk.mono ?_
  rintro e w' ⟨rfl, hw⟩
  obtain rfl := hw.symm
  go_wp2_with fail
  go_still_tail 11, (by kernel_rfl)
  go_wp2_with fail
  refine hp.mono ?_
  rintro e w' ⟨x, rfl, h1⟩
  go_wp2
  exact h1
/-- Where the last byte that isn't erased ends. -/
def endOf (l : List UInt8) : Nat → Nat
  | 0 => 0
  | k + 1 => if l.getD k 0 = 255 then endOf l k else k + 1
theorem endOf_le (l : List UInt8) (k : Nat) : endOf l k ≤ k := by
  induction k with
  | zero => exact Nat.le_refl _
  | succ k ih => unfold endOf; split <;> omega
theorem end_f (w : World) (A : Option Addr) (n c : Nat) (l : List UInt8) (hb : Bs w w.heap.size A n l) (hs : (n : Int) ≤ 262144) :
    Calls Try.prog 59 #[.slice A n c] w fun e w' => e = .returned (.int .i64 (endOf l n : Int)) ∧ w' = w := by
  have hl := Lib.hid hb.len
  obtain ⟨E, hE⟩ : ∃ E, endOf l n = E := ⟨_, rfl⟩
  rw [hE]
  have HE := Lib.hid hE
  clear hE
  go_enter Try.func59, Try.ntmps59
  go_wp2
  go_loop [3] (fun i => ∃ k : Nat, (k : Int) ≤ (n : Int) ∧ i = .int .i64 k ∧ Hid (E = endOf l k)) (fun i => (intOf i).toNat)
  case atStart => exact ⟨n, by omega, rfl, Lib.hid HE.out.symm⟩
  case round =>
    obtain ⟨k, hk, rfl, he⟩ := hrel
    cases k with
    | zero =>
      have e0 : E = 0 := he.out
      subst e0
      go_wp2
      go_ret
      exact ⟨rfl, rfl⟩
    | succ j =>
      obtain ⟨b1, o1, rfl, _, hp1⟩ := hb.place (by omega)
      obtain ⟨u, hu⟩ := byte_get (l := l) (k := j) (by rw [hl.out]; omega)
      have x1 := hp1 j u hu
      have hg : l.getD j 0 = u := by rw [List.getD_eq_getElem?_getD, hu]; rfl
      have hj1 : ((j + 1 : Nat) : Int) - 1 = (j : Int) := by omega
      have hj0 : (0 : Int) < ((j + 1 : Nat) : Int) := by omega
      have hjn : (j : Int) < (n : Int) := by omega
      obtain ⟨J, hJ⟩ : ∃ J : Int, ((j + 1 : Nat) : Int) = J := ⟨_, rfl⟩
      have hJn : J ≤ (n : Int) := by omega
      have hJm : (0 : Int) ≤ (j : Int) := by omega
      by_cases hu5 : u = 255
      · subst hu5
        have hd : E = endOf l j := by rw [he.out]; show (if l.getD j 0 = 255 then endOf l j else j + 1) = _; rw [if_pos hg]
        have HD := Lib.hid hd
        rw [hJ] at hj1 hj0 ⊢
        have hj2 : IntKind.i64.wrap (j : Int) = (j : Int) := by rw [IntKind.wrap_i64]; omega
        have h255 : (((255 : UInt8).toNat : Int) == 255) = true := by decide
        clear hd hJ hp1 hu hg hb he
        go_wp2
        go_round
        case rel => exact ⟨j, by omega, rfl, HD⟩
        case measure => simp [intOf]; omega
      · have hd : E = j + 1 := by rw [he.out]; show (if l.getD j 0 = 255 then endOf l j else j + 1) = _; rw [if_neg (by rw [hg]; exact hu5)]
        subst hd
        rw [hJ] at hj1 hj0 ⊢
        have hj2 : IntKind.i64.wrap (j : Int) = (j : Int) := by rw [IntKind.wrap_i64]; omega
        have h255 : ((u.toNat : Int) == 255) = false := beq_false_of_ne (fun e => hu5 (UInt8.toNat_inj.1 (by have : (255 : UInt8).toNat = 255 := rfl; omega)))
        have HJ := Lib.hid hJ
        clear hJ hp1 hu hg hb he HE
        go_wp2
        go_ret
        refine ⟨?_, rfl⟩
        show _ = Ending.returned (Value.int .i64 ((j + 1 : Nat) : Int))
        rw [HJ.out]
        rfl
end Go.Proofs.Ytpdlipkmojhnnaa
