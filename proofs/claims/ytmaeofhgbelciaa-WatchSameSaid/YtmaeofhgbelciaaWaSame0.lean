/-
  A watch without conditions: when it is due; one value handed to Due.
-/
import Derived.Test.YtmaeofhgbelciaaWaVals
import Derived.Test.YtmaeofhgbelciaaWaSpacesLaw
namespace Go.Proofs.Ytmaeofhgbelciaa
open Go.RowKit
set_option maxRecDepth 100000
set_option linter.unusedVariables false
set_option linter.unusedSimpArgs false
def zc : Cq := ⟨0, 0, false, false, 0, 0, 0, false, false, false⟩
def smq (tok : List UInt8) (u : Vq) (t sq : Int) : Wq := ⟨3, tok, [], zc, u, t, sq⟩
theorem sm_pass {tok : List UInt8} {u v : Vq} {t sq i : Int} (hi : 0 ≤ i ∧ i ≤ 1000) : passQ [v] (clampQ i) 0 [smq tok u t sq] = if dueQ zc u t v i = true then ([smq tok v i ((sq + 1) % 16777216)], [smq tok v i ((sq + 1) % 16777216)]) else ([smq tok u t sq], []) := by
  rw [clamp_id hi]
  rfl
theorem sm_due (u v : Vq) (t i : Int) : dueQ zc u t v i = (decide (1 ≤ i - t) && !vsame u v) := by
  unfold dueQ
  by_cases h : i - t < 1
  · rw [if_pos (.inl h), decide_eq_false (by omega), Bool.false_and]
  · rw [if_neg (by rintro (h1 | ⟨h1, _⟩); exact h h1; cases h1), if_neg (by rintro ⟨h1, _⟩; cases h1), decide_eq_true (by omega), Bool.true_and]
    unfold countsQ
    rw [if_pos (.inl ⟨rfl, rfl, rfl⟩), Bool.and_true]
theorem vsame_refl (u : Vq) : vsame u u = true := by
  unfold vsame; simp
theorem build_vl (a : Act) (s : Vr) (x : Operand) (hx : a.eval x = .agg (vvals s.q s.A s.n s.c).toArray) (i0 : TypeInfo) (hz0 : i0.zero = some (.agg #[.int .i64 0, .int .i64 0, .string ⟨#[]⟩, .slice none 0 0, .int .i64 0, .int .i64 0])) (hz1 : i0.size = 6) :
    Instr.fill (fun i => some (i * i0.size, i0.size)) ((Array.range (1 * i0.size)).map ((Value.agg #[.int .i64 0, .int .i64 0, .string ⟨#[]⟩, .slice none 0 0, .int .i64 0, .int .i64 0]).cells[· % (Value.agg #[.int .i64 0, .int .i64 0, .string ⟨#[]⟩, .slice none 0 0, .int .i64 0, .int .i64 0]).cells.size]!)) ((#[(0, x)] : Array (Nat × Operand)).map fun (i, x) => (i, a.eval x)).toList = some (vvals s.q s.A s.n s.c).toArray := by
  rw [hz1]
  rw [show ((#[(0, x)] : Array (Nat × Operand)).map fun (i, x) => (i, a.eval x)).toList = [(0, a.eval x)] by simp, hx]
  have h := Great.fill_whole (s := 6) (by decide) [Value.agg (vvals s.q s.A s.n s.c).toArray] ((Array.range (1 * 6)).map ((Value.agg #[.int .i64 0, .int .i64 0, .string ⟨#[]⟩, .slice none 0 0, .int .i64 0, .int .i64 0]).cells[· % (Value.agg #[.int .i64 0, .int .i64 0, .string ⟨#[]⟩, .slice none 0 0, .int .i64 0, .int .i64 0]).cells.size]!)) (fun v hv => by obtain rfl := List.mem_singleton.1 hv; rfl) (by simp)
  have e : ([Value.agg (vvals s.q s.A s.n s.c).toArray].flatMap fun v => v.cells.toList).toArray = (vvals s.q s.A s.n s.c).toArray := by
    simp [Value.cells]
  rw [e] at h
  exact h
theorem info_vl : (Try.prog.info? 34).map (fun i => (i.zero, i.size, i.bytes)) = some (some (.agg #[.int .i64 0, .int .i64 0, .string ⟨#[]⟩, .slice none 0 0, .int .i64 0, .int .i64 0]), 6, 72) := by kernel_rfl
theorem due_val {tb : Nat} {v : Value} {vs : List Wr} {w : World} (h : WtAt w tb v vs) (u : Vr) (hu : Bs w tb u.A u.n u.q.b) (hn : (u.n : Int) ≤ 1048576) (hs : u.q.s.size ≤ 1048576) (h64 : In64 u.q.n) (now : Int) (fr : Nat × Nat) :
    Calls Try.prog 13 #[.pointer (some ⟨tb, 0, none⟩), .slice (some ⟨w.heap.size, 0, none⟩) 1 1, .int .i64 now] (w.alloc (.cells (vvals u.q u.A u.n u.c).toArray 34 fr)) (DuePost w tb v (vs.map Wr.q) [u.q] (clampQ now)) := by
  have hb := alloc_below w (.cells (vvals u.q u.A u.n u.c).toArray 34 fr)
  have hl := h.lt
  refine (wdue_f (h.below hb) (some ⟨w.heap.size, 0, none⟩) 1 1 [u] now (fun W hf => ?_) (by decide)).mono ?_
  · have hx := hf.block w.heap.size (by rw [alloc_size]; omega) (by omega) (fun e => by have := (h.row.lt _ e.symm).2; omega)
    have hlow := Fx.lowT (h.below hb) (Below.refl tb _) hf
    rw [heap_alloc_new] at hx
    refine ⟨⟨rfl, fun _ => ⟨w.heap.size, 0, rfl, by have := hf.size; rw [alloc_size] at this; omega, fun i s hs j u' hj => ?_⟩⟩, fun u' hu' => ?_⟩
    · have hi : i = 0 := by
        have := (List.getElem?_eq_some_iff.1 hs).1
        simp at this; omega
      subst hi
      obtain rfl := Option.some.inj hs
      rw [show 0 + 0 * 6 + j = j by omega, cell_of_row _ _ _ _ _ _ hx, ← Array.getElem?_toList]
      exact hj
    · obtain rfl := List.mem_singleton.1 hu'
      exact ⟨((hu.below (hb.mono (Nat.le_of_lt hl))).below hlow).more (by have := hf.size; rw [alloc_size] at this; omega), hn, hs, h64⟩
  · rintro e w' ⟨A, m, c, X, vs', he, hT, hX, hW, hq, hF⟩
    exact ⟨A, m, c, X, vs', he, hT.mono hb.size, hX, hW, hq, (Fx.below hb).trans hF⟩
theorem told_get {w : World} {B c n : Nat} {A : Option Addr} {X : List Wr} {q : Wq} (h : ToldAt w B A n c X) (hX : X.map Wr.q = [q]) : n = 1 ∧ 1 ≤ c ∧ ∃ (g : Nat) (x : Wr), A = some ⟨g, 0, none⟩ ∧ x.q = q ∧ g < w.heap.size ∧ w.rangeAt g 0 x.vals ∧ Wok w B x ∧ Wsm x := by
  obtain ⟨x, hx, hq⟩ := List.map_eq_singleton_iff.1 hX
  subst hx
  have hl := h.len
  have hn : n = 1 := hl.symm
  subst hn
  obtain ⟨A', c', e, hc, _, hat, hb⟩ := RowK.At.of_own h.row
  injection e with e1 _ e3
  subst e1 e3
  obtain ⟨b, off, hA, hbl, hr⟩ := hat.place (by decide)
  obtain ⟨g, hg, _⟩ := hb _ hA
  injection hg with hg1 hg2
  subst hg1 hg2
  have he := h.each x (List.mem_singleton.2 rfl)
  refine ⟨rfl, hc, b, x, hA, hq, hbl, ?_, he.1, he.2⟩
  have := hr 0 x rfl
  rw [Nat.zero_mul, Nat.zero_add] at this
  exact this
end Go.Proofs.Ytmaeofhgbelciaa
