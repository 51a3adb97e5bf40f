/-
  The document's examples of layer 21.
-/
import Derived.Test.YtmaeofhgbelciaaWaFresh
namespace Go.Proofs.Ytmaeofhgbelciaa
open Go.RowKit
set_option maxRecDepth 100000
set_option maxRecDepth 100000
set_option linter.unusedVariables false
set_option linter.unusedSimpArgs false
def nq (n : Int) : Vq := ⟨1, n, ⟨#[]⟩, [], 0, 0⟩
theorem num_f (n : Int) (w : World) : Calls Try.prog 12 #[.int .i64 n] w fun e w' => e = .returned (.agg #[.int .i64 1, .int .i64 n, .string ⟨#[]⟩, .slice none 0 0, .int .i64 0, .int .i64 0]) ∧ Below w.heap.size w w' := by
  have hth := there_new w #[.int .i64 0, .int .i64 0, .string ⟨#[]⟩, .slice none 0 0, .int .i64 0, .int .i64 0] 34 (n := 6) rfl
  have hb := Lib.hid (alloc_below w (.cells #[.int .i64 0, .int .i64 0, .string ⟨#[]⟩, .slice none 0 0, .int .i64 0, .int .i64 0] 34))
  go_enter Try.func12, Try.ntmps12
  go_wp2_with (refine wpList_store_mid rfl 34 (.tmp 2) (.tmp 4) rfl w.heap.size 0 #[.int .i64 1, .int .i64 n, .string ⟨#[]⟩, .slice none 0 0, .int .i64 0, .int .i64 0] rfl rfl hth size_vl (all_oneCell_toArray (vv_one (nq n) none 0 0)) ?_)
  refine bodyPost_ret (results_cell_mid rfl _ _ w.heap.size 0 [.int .i64 1, .int .i64 n, .string ⟨#[]⟩, .slice none 0 0, .int .i64 0, .int .i64 0] _ rfl (range_stored hth) Try.underlying34 rfl size_vl) rfl ?_
  exact ⟨rfl, below_setCells hb.out (Nat.le_refl _) _ 0⟩
theorem due_num {tb : Nat} {v : Value} {vs : List Wr} {w : World} (h : WtAt w tb v vs) (n : Int) (hn : In64 n) (now : Int) :
    Calls Try.prog 13 #[.pointer (some ⟨tb, 0, none⟩), .slice (some ⟨w.heap.size, 0, none⟩) 1 1, .int .i64 now] (w.alloc (.cells #[.int .i64 1, .int .i64 n, .string ⟨#[]⟩, .slice none 0 0, .int .i64 0, .int .i64 0] 34)) (DuePost w tb v (vs.map Wr.q) [nq n] (clampQ now)) := by
  have hb := alloc_below w (.cells #[.int .i64 1, .int .i64 n, .string ⟨#[]⟩, .slice none 0 0, .int .i64 0, .int .i64 0] 34)
  refine (wdue_f (h.below hb) (some ⟨w.heap.size, 0, none⟩) 1 1 [⟨nq n, none, 0, 0⟩] now (fun W hf => ?_) (by decide)).mono ?_
  · have hl := h.lt
    have hx := hf.block w.heap.size (by rw [alloc_size]; omega) (by omega) (fun e => by have := (h.row.lt _ e.symm).2; omega)
    rw [heap_alloc_new] at hx
    refine ⟨⟨rfl, fun _ => ⟨w.heap.size, 0, rfl, by have := hf.size; rw [alloc_size] at this; omega, fun i s hs j u hj => ?_⟩⟩, fun u hu => ?_⟩
    · have hi : i = 0 := by
        have := (List.getElem?_eq_some_iff.1 hs).1
        simp at this; omega
      subst hi
      obtain rfl := Option.some.inj hs
      rw [show 0 + 0 * 6 + j = j by omega, cell_of_row _ _ _ _ _ _ hx, ← Array.getElem?_toList]
      exact hj
    · obtain rfl := List.mem_singleton.1 hu
      exact ⟨Bs.empty _ _ _, (show ((0 : Nat) : Int) ≤ 1048576 by decide), (show (0 : Nat) ≤ 1048576 by decide), hn⟩
  · rintro e w' ⟨A, m, c, X, vs', he, hT, hX, hW, hq, hF⟩
    exact ⟨A, m, c, X, vs', he, hT.mono hb.size, hX, hW, hq, (Fx.below hb).trans hF⟩
/-- What stands under a table's calls: all that was there before it. -/
theorem Fx.lowT {w w' : World} {tb : Nat} {v : Value} {vs : List Wr} {W0 : World} (h : WtAt w tb v vs) (hb : Below tb W0 w) (hf : Fx tb v.ownBlock w w') : Below tb W0 w' :=
  hb.trans (hf.toBelow (Nat.le_refl _) (Nat.le_of_lt h.lt) (fun k e => (h.row.lt k e).1))
theorem told_one {w : World} {B c n : Nat} {A : Option Addr} {X : List Wr} {q : Wq} (h : ToldAt w B A n c X) (hX : X.map Wr.q = [q]) : n = 1 ∧ 1 ≤ c ∧ ∃ (g : Nat) (x : Wr), A = some ⟨g, 0, none⟩ ∧ x.q = q ∧ g < w.heap.size ∧ w.rangeAt g 0 x.vals := by
  obtain ⟨x, hx, hq⟩ := List.map_eq_singleton_iff.1 hX
  subst hx
  have hl := h.len
  have hn : n = 1 := hl.symm
  subst hn
  obtain ⟨A', c', e, hc, _, hat, hb⟩ := RowK.At.of_own h.row
  injection e with e1 _ e3
  subst e1 e3
  obtain ⟨b, off, hA, hbl, hr⟩ := hat.place (by decide)
  obtain ⟨g, hg, _⟩ := hb _ hA
  injection hg with hg1 hg2
  subst hg1 hg2
  refine ⟨rfl, hc, b, x, hA, hq, hbl, ?_⟩
  have := hr 0 x rfl
  rw [Nat.zero_mul, Nat.zero_add] at this
  exact this
theorem told_none {w : World} {B c n : Nat} {A : Option Addr} {X : List Wr} (h : ToldAt w B A n c X) (hX : X.map Wr.q = []) : n = 0 := by
  have hx : X = [] := List.map_eq_nil_iff.1 hX
  subst hx
  exact h.len.symm
def aq1 : Wq := ⟨1, [], [3], ⟨5, 0, true, false, 0, 0, 0, false, false, false⟩, nq 1, 0, 0⟩
def aq1' : Wq := ⟨1, [], [3], ⟨5, 0, true, false, 0, 0, 0, false, false, false⟩, nq 2, 5, 1⟩
def aq2 : Wq := ⟨1, [7], [], ⟨0, 0, false, false, 10, 0, 0, true, false, false⟩, nq 5, 0, 0⟩
def aq2' : Wq := ⟨1, [7], [], ⟨0, 0, false, false, 10, 0, 0, true, false, false⟩, nq 11, 1, 1⟩
theorem al_1 : addW [] aq1 = ([aq1], 0) := rfl
theorem al_2 : passQ [nq 2] (clampQ 3) 0 [aq1] = ([aq1], []) := rfl
theorem al_3 : passQ [nq 2] (clampQ 5) 0 [aq1] = ([aq1'], [aq1']) := rfl
theorem al_4 : addW [] aq2 = ([aq2], 0) := rfl
theorem al_5 : passQ [nq 11] (clampQ 1) 0 [aq2] = ([aq2'], [aq2']) := rfl
theorem al_6 : passQ [nq 12] (clampQ 2) 0 [aq2'] = ([aq2'], []) := rfl
theorem al_7 : freshQ 1 2 0 0 = true := rfl
theorem al_8 : freshQ 2 1 0 0 = false := rfl
theorem al_9 : freshQ 2 1 0 200 = true := rfl
end Go.Proofs.Ytmaeofhgbelciaa
