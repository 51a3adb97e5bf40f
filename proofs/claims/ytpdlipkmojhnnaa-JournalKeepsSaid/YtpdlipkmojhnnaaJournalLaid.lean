/-
  What the laying of a group leaves, its part once erased: as a function of the flash.
-/
import Derived.Test.YtpdlipkmojhnnaaJournalTurned
import Derived.Test.YtpdlipkmojhnnaaJournalWrite
import Derived.Test.YtpdlipkmojhnnaaJournalRec
import Derived.Test.YtpdlipkmojhnnaaPartClear
namespace Go.Proofs.Ytpdlipkmojhnnaa
open Go.RowKit Go.Maps Go.Shelf
set_option maxRecDepth 100000
/-- A key's record but for its mark. -/
def recOf (V : Int → Option (List UInt8)) (k : Int) : List UInt8 := seals (UInt8.ofNat k.toNat :: UInt8.ofNat ((V k).getD []).length :: (V k).getD [])
theorem recOf_length (V : Int → Option (List UInt8)) (k : Int) : (recOf V k).length = 6 + ((V k).getD []).length := by
  unfold recOf seals; simp [p32]; omega
/-- The records of keys, one behind the other. -/
def layRecs (be si : Nat) (V : Int → Option (List UInt8)) : List Int → Fl → Nat → Fl × Nat × Int
  | [], F, p => (F, p, 0)
  | k :: r, F, p => if (jwrote F be si p (recOf V k)).2.2 = 0 then layRecs be si V r (jwrote F be si p (recOf V k)).1 (p + (recOf V k).length + 1) else ((jwrote F be si p (recOf V k)).1, p, (jwrote F be si p (recOf V k)).2.2)
/-- The head: the epoch, then the mark. -/
def layHead (be si : Nat) (ep : Int) (F : Fl) : Fl × Int :=
  if (pwrote F be si 1 (p32 ep)).2 = 0 then pwrote (pwrote F be si 1 (p32 ep)).1 be si 0 [0] else pwrote F be si 1 (p32 ep)
/-- All of it: the flash, where it ends, the error. -/
def laid (be si : Nat) (V : Int → Option (List UInt8)) (ep : Int) (F : Fl) : Fl × Nat × Int :=
  if (layRecs be si V (keysOf V) F 8).2.2 = 0 then ((layHead be si ep (layRecs be si V (keysOf V) F 8).1).1, (layRecs be si V (keysOf V) F 8).2.1, (layHead be si ep (layRecs be si V (keysOf V) F 8).1).2) else layRecs be si V (keysOf V) F 8
theorem jwrote_same (F : Fl) (be si p : Nat) (b : List UInt8) (hf : be + si ≤ F.dat.length) : (jwrote F be si p b).1.dat.length = F.dat.length := by
  have h1 := (pwrote_same F be si p b hf).1
  unfold jwrote
  split
  · exact ((pwrote_same _ be si _ [0] (by rw [h1]; exact hf)).1).trans h1
  · exact h1
theorem jwrote_sane {F : Fl} (h : Sane F) (be si p : Nat) (b : List UInt8) : Sane (jwrote F be si p b).1 := by
  unfold jwrote
  split
  · exact pwrote_sane (pwrote_sane h be si _ b) be si _ [0]
  · exact pwrote_sane h be si _ b
theorem jwrote_end {F : Fl} {be si p : Nat} {b : List UInt8} (h : (jwrote F be si p b).2.2 = 0) : (jwrote F be si p b).2.1 = ((p + b.length + 1 : Nat) : Int) := by
  unfold jwrote at h ⊢
  split
  · rfl
  · rename_i hn; rw [if_neg hn] at h; exact absurd h hn
/-- A slice of ints of the call's own. -/
theorem ints_of_own {w : World} {base : Nat} {e : TypeId} {v : Value} {n : Nat} {xs : List Int} (h : w.ownsRow base e 1 v n (xs.map fun k => .int .i64 k)) :
    ∃ A c, v = .slice A n c ∧ ∀ i k, xs[i]? = some k → ∃ g, A = some ⟨g, 0, none⟩ ∧ base ≤ g ∧ g < w.heap.size ∧ w.cell? ⟨g, i, none⟩ = some (.int .i64 k) := by
  have hl : xs.length = n := by have := h.1; rw [List.length_map] at this; omega
  rcases h.2 with ⟨rfl, rfl⟩ | ⟨g, cap, cur, rfl, hbg, hg, hnc, _, hcs, htake⟩
  · obtain rfl : xs = [] := List.eq_nil_of_length_eq_zero hl
    exact ⟨none, 0, rfl, fun i k hk => by simp at hk⟩
  · refine ⟨_, cap, rfl, fun i k hk => ⟨g, rfl, hbg, ?_, ?_⟩⟩
    · rcases Nat.lt_or_ge g w.heap.size with h1 | h1
      · exact h1
      · rw [Array.getElem?_eq_none h1] at hg; cases hg
    · have := h.cellAt i (by have := (List.getElem?_eq_some_iff.1 hk).1; omega)
      rw [this, List.getElem?_map, hk]; rfl
theorem RetOwn.slice2 {e5 : TypeId} {l : List UInt8} {w w' : World} {e : Ending} (h : RetOwn e5 l w e w') :
    ∃ A N c, e = .returned (.slice A N c) ∧ N ≤ c ∧ N = l.length ∧ Bs w' w'.heap.size A N l ∧ Below w.heap.size w w' ∧ ∀ a, A = some a → w.heap.size ≤ a.block := by
  obtain ⟨v, rfl, h1, h2⟩ := h
  obtain ⟨A, c, rfl, hc, hb⟩ := Bs.of_own h1
  refine ⟨A, _, c, rfl, hc, rfl, hb, h2, fun a ha => ?_⟩
  rcases h1.2 with ⟨e, _⟩ | ⟨g, cap, cur, e, hbg, _⟩
  · rw [ha] at e; injection e with e1 e2 e3; cases e1
  · rw [ha] at e; injection e with e1 e2 e3; cases e1; exact hbg
theorem key_wf {k : Int} (h0 : 0 ≤ k) (h1 : k < 32) : (Lit.int .i64 k).wf = true := by
  have e1 : IntKind.i64.min = -9223372036854775808 := by decide
  have e2 : IntKind.i64.max = 9223372036854775807 := by decide
  show (decide (IntKind.i64.min ≤ k) && decide (k ≤ IntKind.i64.max)) = true
  rw [e1, e2, Bool.and_eq_true]
  exact ⟨decide_eq_true (by omega), decide_eq_true (by omega)⟩
/-- The look-up of a key that is there. -/
theorem Vals.look1 {w : World} {lo : Nat} {pv : Option Nat} {D : DataW Value} {V : Int → Option (List UInt8)} (h : Vals w lo pv D V) {k : Int} {l : List UInt8} (hk : V k = some l) :
    ∃ A c, (Instr.lookup 57 (.map pv) (.int .i64 k) false).run Try.prog w = .ok (.slice A l.length c) w ∧ Bs w w.heap.size A l.length l ∧ l.length ≤ c := by
  obtain ⟨A, c, h1, h2, h3, _⟩ := h.at_ k l hk
  obtain ⟨k0, k1⟩ := h.keys k (by rw [hk]; rfl)
  have hwf : (Lit.int .i64 k).wf = true := key_wf k0 k1
  refine ⟨A, c, ?_, h2, h3⟩
  rcases h.src with ⟨_, rfl⟩ | ⟨b, n, rfl, ho⟩
  · have := h.has k; rw [hk] at this; cases this
  · obtain ⟨v, ps, hrun, hv⟩ := ho.lookup law3 Try.underlying57 (Try.zeroValue35 _) (zd := .held (.slice none 0 0)) (zp := []) rfl (keyOf_int_mk Try.underlying3 hwf)
    have e := (Prod.ext_iff.1 (Option.some.inj hv)).1
    rw [h1] at e
    cases e
    exact hrun
end Go.Proofs.Ytpdlipkmojhnnaa
