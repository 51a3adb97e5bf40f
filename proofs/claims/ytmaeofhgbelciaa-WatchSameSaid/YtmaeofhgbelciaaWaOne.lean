/-
  A table with one watch at most: added to once, wherever the line's order puts it.
-/
import Derived.Test.YtmaeofhgbelciaaWaAlive2
namespace Go.Proofs.Ytmaeofhgbelciaa
open Go.RowKit
set_option maxRecDepth 100000
set_option linter.unusedVariables false
set_option linter.unusedSimpArgs false
def AddS (tb : Nat) (q : Wq) (W : World) : Prop := ∃ v vs, WtAt W tb v vs ∧ vs.map Wr.q = [q]
def AdS (wc : World) (q : Wq) (W : World) : Prop := Below wc.heap.size wc W ∧ ∃ v vs, WtAt W wc.heap.size v vs ∧ (vs = [] ∨ vs.map Wr.q = [q])
def AdT (tb : Nat) (q : Wq) (W W' : World) : Prop := (∀ g cs t fr, tb < g → t ≠ 37 → W.heap[g]? = some (.cells cs t fr) → W'.heap[g]? = some (.cells cs t fr)) ∧ (AddS tb q W → AddS tb q W')
theorem AdT.refl (tb : Nat) (q : Wq) (W : World) : AdT tb q W W := ⟨fun _ _ _ _ _ _ h => h, fun h => h⟩
theorem AdT.below {tb : Nat} {q : Wq} {W W' : World} (h : Below W.heap.size W W') : AdT tb q W W' :=
  ⟨fun g cs t fr _ _ hg => by rw [h.block g (Array.getElem?_eq_some_iff.1 hg).1]; exact hg, fun ⟨v, vs, h1, h2⟩ => ⟨v, vs, h1.below h, h2⟩⟩
theorem AdS.below {wc : World} {q : Wq} {W W' : World} (hs : AdS wc q W) (h : Below W.heap.size W W') : AdS wc q W' :=
  ⟨hs.1.trans (h.mono hs.1.size), by obtain ⟨v, vs, h1, h2⟩ := hs.2; exact ⟨v, vs, h1.below h, h2⟩⟩
theorem AdS.size {wc : World} {q : Wq} {W : World} (hs : AdS wc q W) : wc.heap.size < W.heap.size := by
  obtain ⟨v, vs, h1, _⟩ := hs.2
  exact h1.lt
theorem add_once {wc W : World} {s : Wr} {B : Nat} (hs : AdS wc (ownQ s.q) W) (hr : Wrd W B s) (hB : B ≤ W.heap.size) (hm : Wsm s) (hn : In64 s.q.v.n) (ht : s.q.tok.length ≤ 8) (hp : rightP s.q.pa = true) :
    Calls Try.prog 11 #[.pointer (some ⟨wc.heap.size, 0, none⟩), .agg s.vals.toArray] W fun e w' => e = .returned (.int .i64 0) ∧ AdS wc (ownQ s.q) w' ∧ AddS wc.heap.size (ownQ s.q) w' ∧ AdT wc.heap.size (ownQ s.q) W w' := by
  obtain ⟨hb, v, vs, hw, hv⟩ := hs
  refine (wadd_f hw s B hr hB hm hn).mono ?_
  rintro e w' ⟨he, v', vs', h1, h2, _, h4⟩
  have ha : addW vs s.q = ([ownQ s.q], 0) := by
    unfold addW
    rw [if_neg (by rintro (h | h); omega; rw [hp] at h; cases h)]
    rcases hv with rfl | hv
    · rfl
    · obtain ⟨x, rfl, hx⟩ := List.map_eq_singleton_iff.1 hv
      have hh : hitW s.q.sv s.q.tok x.q = true := by rw [hx]; unfold hitW ownQ; simp
      rw [show ([x] : List Wr).findIdx? (fun y => hitW s.q.sv s.q.tok y.q) = some 0 by simp [List.findIdx?_cons, hh]]
      rfl
  rw [ha] at he h2
  have hS : AddS wc.heap.size (ownQ s.q) w' := ⟨v', vs', h1, h2⟩
  refine ⟨he, ⟨Fx.lowT hw hb h4, v', vs', h1, .inr h2⟩, hS, fun g cs t fr hg htt hgg => ?_, fun _ => hS⟩
  rw [h4.block g (Array.getElem?_eq_some_iff.1 hgg).1 (by omega) (fun e => rk_ne hw.row hgg htt e.symm)]
  exact hgg
end Go.Proofs.Ytmaeofhgbelciaa
