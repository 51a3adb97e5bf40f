/-
  The cache's order of answers and the document's list go along.
-/
import Derived.Test.YtdlgemlpbpbhcaaCaRKeep
namespace Go.Proofs.Ytdlgemlpbpbhcaa
open Go.RowKit
set_option linter.unusedVariables false
/-- The document's list with one more. -/
def keepR (rs : List Qa) (f i now : Int) (l : List UInt8) : List Qa :=
  let d := rs.filter (fun q => !(q.f == f && q.i == i)) ++ [⟨f, i, clampN now, l⟩]
  if d.length ≤ 8 then d else d.eraseIdx (fm (d.map Qa.t) d.length)
structure Rq (cs rs : List Qa) : Prop where
  perm : cs.Perm rs
  sorted : cs.Pairwise (fun a b => a.t ≤ b.t)
  stab : ∀ t : Int, cs.filter (fun q => decide (q.t = t)) = rs.filter (fun q => decide (q.t = t))
  keys : rs.Pairwise (fun a b => ¬ (a.f = b.f ∧ a.i = b.i))
theorem Rq.nil : Rq [] [] := ⟨List.Perm.nil, List.Pairwise.nil, fun _ => rfl, List.Pairwise.nil⟩
theorem filter_swap {α : Type} (p q : α → Bool) (l : List α) : (l.filter p).filter q = (l.filter q).filter p := by
  rw [List.filter_filter, List.filter_filter]
  congr 1
  funext x
  exact Bool.and_comm _ _
theorem Rq.filter {cs rs : List Qa} (h : Rq cs rs) (p : Qa → Bool) : Rq (cs.filter p) (rs.filter p) :=
  ⟨h.perm.filter p, h.sorted.filter p, fun t => by rw [filter_swap, h.stab t, filter_swap], h.keys.filter p⟩
theorem fm_spec (ts : List Int) : ∀ k, 0 < k → ∀ i, i < k → (ts[fm ts k]?).getD 0 ≤ (ts[i]?).getD 0 ∧ (i < fm ts k → (ts[fm ts k]?).getD 0 < (ts[i]?).getD 0)
  | 0, h, _, _ => absurd h (by omega)
  | 1, _, i, hi => by
    obtain rfl : i = 0 := by omega
    rw [fm_one]
    exact ⟨Int.le_refl _, fun h => absurd h (by omega)⟩
  | k + 2, _, i, hi => by
    have ih := fm_spec ts (k + 1) (by omega)
    have hlt := fm_lt ts (k + 1) (by omega)
    show (ts[if (ts[k + 1]?).getD 0 < (ts[fm ts (k + 1)]?).getD 0 then k + 1 else fm ts (k + 1)]?).getD 0 ≤ _ ∧ (i < (if (ts[k + 1]?).getD 0 < (ts[fm ts (k + 1)]?).getD 0 then k + 1 else fm ts (k + 1)) → (ts[if (ts[k + 1]?).getD 0 < (ts[fm ts (k + 1)]?).getD 0 then k + 1 else fm ts (k + 1)]?).getD 0 < _)
    by_cases h : (ts[k + 1]?).getD 0 < (ts[fm ts (k + 1)]?).getD 0
    · rw [if_pos h]
      by_cases e : i = k + 1
      · subst e
        exact ⟨Int.le_refl _, fun h => absurd h (by omega)⟩
      · have := (ih i (by omega)).1
        exact ⟨by omega, fun _ => by omega⟩
    · rw [if_neg h]
      by_cases e : i = k + 1
      · subst e
        exact ⟨by omega, fun h => absurd h (by omega)⟩
      · exact ih i (by omega)
theorem Rq.keep {cs rs : List Qa} (h : Rq cs rs) (f i now : Int) (l : List UInt8) : Rq (keepQ cs f i now l) (keepR rs f i now l) := by
  have h1 := h.filter (fun q => !(q.f == f && q.i == i))
  have hk1 : ∀ q ∈ rs.filter (fun q => !(q.f == f && q.i == i)), ¬ (q.f = f ∧ q.i = i) := by
    intro q hq
    have := (List.mem_filter.1 hq).2
    rintro ⟨rfl, rfl⟩
    simp at this
  unfold keepQ keepR
  generalize cs.filter (fun q => !(q.f == f && q.i == i)) = dc at *
  generalize rs.filter (fun q => !(q.f == f && q.i == i)) = dr at *
  obtain ⟨x, hx⟩ : ∃ x : Qa, x = ⟨f, i, clampN now, l⟩ := ⟨_, rfl⟩
  have hxt : x.t = clampN now := by rw [hx]
  rw [← hx, ← hxt]
  dsimp only
  obtain ⟨k, hk⟩ : ∃ k, (dc.findIdx? (fun q => decide (x.t < q.t))).getD dc.length = k := ⟨_, rfl⟩
  rw [hk]
  have hA : ∀ q ∈ dc.take k, q.t ≤ x.t := by
    intro q hq
    obtain ⟨j, hj⟩ := List.mem_iff_getElem?.1 hq
    have hjk : j < k := by have := (List.getElem?_eq_some_iff.1 hj).1; rw [List.length_take] at this; omega
    rw [List.getElem?_take_of_lt hjk] at hj
    cases hf : dc.findIdx? (fun q => decide (x.t < q.t)) with
    | none =>
      rw [List.findIdx?_eq_none_iff] at hf
      have := hf q (List.mem_of_getElem? hj)
      simpa using this
    | some m =>
      rw [hf] at hk
      obtain rfl : m = k := hk
      obtain ⟨hm, _, hmin⟩ := List.findIdx?_eq_some_iff_getElem.1 hf
      have := hmin j hjk
      obtain ⟨hjl, rfl⟩ := List.getElem?_eq_some_iff.1 hj
      simpa using this
  have hB : ∀ q ∈ dc.drop k, x.t < q.t := by
    intro q hq
    cases hf : dc.findIdx? (fun q => decide (x.t < q.t)) with
    | none =>
      rw [hf] at hk
      obtain rfl : dc.length = k := hk
      rw [List.drop_length] at hq
      cases hq
    | some m =>
      rw [hf] at hk
      obtain rfl : m = k := hk
      obtain ⟨hm, hp, _⟩ := List.findIdx?_eq_some_iff_getElem.1 hf
      have hp : x.t < dc[m].t := by simpa using hp
      have hs := h1.sorted
      rw [← List.take_append_drop m dc, List.pairwise_append] at hs
      rw [List.drop_eq_getElem_cons hm] at hq hs
      rcases List.mem_cons.1 hq with rfl | hq
      · exact hp
      · have := (List.pairwise_cons.1 hs.2.1).1 q hq
        omega
  obtain ⟨a, ha⟩ : ∃ a, dc.take k = a := ⟨_, rfl⟩
  obtain ⟨b, hb⟩ : ∃ b, dc.drop k = b := ⟨_, rfl⟩
  have hab : dc = a ++ b := by rw [← ha, ← hb, List.take_append_drop]
  rw [ha] at hA
  rw [hb] at hB
  rw [ha, hb]
  rw [hab] at h1
  clear ha hb hk hab
  have h2 : Rq (a ++ x :: b) (dr ++ [x]) := by
    refine ⟨?_, ?_, fun t => ?_, ?_⟩
    · exact List.perm_middle.trans ((List.Perm.cons x h1.perm).trans (List.perm_append_singleton x dr).symm)
    · have hs := List.pairwise_append.1 h1.sorted
      refine List.pairwise_append.2 ⟨hs.1, List.pairwise_cons.2 ⟨fun q hq => by have := hB q hq; omega, hs.2.1⟩, fun p hp q hq => ?_⟩
      rcases List.mem_cons.1 hq with rfl | hq
      · exact hA p hp
      · exact hs.2.2 p hp q hq
    · have hst := h1.stab t
      rw [List.filter_append] at hst
      rw [List.filter_append, List.filter_append, ← hst]
      by_cases ht : x.t = t
      · subst ht
        have hb0 : b.filter (fun q => decide (q.t = x.t)) = [] := List.filter_eq_nil_iff.2 fun q hq => by have := hB q hq; simp; omega
        rw [List.filter_cons_of_pos (by simp), hb0, List.append_nil, List.filter_cons_of_pos (by simp), List.filter_nil]
      · rw [List.filter_cons_of_neg (by simpa using ht), List.filter_cons_of_neg (by simpa using ht), List.filter_nil, List.append_nil]
    · refine List.pairwise_append.2 ⟨h1.keys, List.pairwise_singleton _ _, fun p hp q hq => ?_⟩
      obtain rfl := List.mem_singleton.1 hq
      rw [hx]
      exact hk1 p hp
  have hle := h2.perm.length_eq
  generalize a ++ x :: b = c2 at *
  generalize dr ++ [x] = r2 at *
  by_cases h8 : 8 < c2.length
  · rw [if_pos h8, if_neg (by omega)]
    obtain ⟨hd, c3, rfl⟩ : ∃ hd c3, c2 = hd :: c3 := by cases c2 with | nil => simp at h8 | cons u v => exact ⟨u, v, rfl⟩
    have hn : 0 < r2.length := by rw [← hle, List.length_cons]; omega
    have hj := fm_lt (r2.map Qa.t) r2.length hn
    have hsp := fm_spec (r2.map Qa.t) r2.length hn
    have hat : ∀ n (hn : n < r2.length), ((r2.map Qa.t)[n]?).getD 0 = r2[n].t := fun n hn => by rw [List.getElem?_map, List.getElem?_eq_getElem hn]; rfl
    generalize fm (r2.map Qa.t) r2.length = j at *
    rw [hat j hj] at hsp
    have hmin : ∀ q ∈ r2, r2[j].t ≤ q.t := fun q hq => by
      obtain ⟨n, hn, rfl⟩ := List.getElem_of_mem hq
      have := (hsp n hn).1
      rwa [hat n hn] at this
    have hfst : ∀ q ∈ r2.take j, r2[j].t < q.t := fun q hq => by
      obtain ⟨n, hn, rfl⟩ := List.getElem_of_mem hq
      rw [List.length_take] at hn
      have := (hsp n (by omega)).2 (by omega)
      rw [hat n (by omega)] at this
      rw [List.getElem_take]
      exact this
    have hr2 : r2 = r2.take j ++ r2[j] :: r2.drop (j + 1) := by rw [← List.drop_eq_getElem_cons hj, List.take_append_drop]
    obtain ⟨m, hm⟩ : ∃ m, r2[j] = m := ⟨_, rfl⟩
    rw [hm] at hmin hfst hr2
    rw [List.eraseIdx_eq_take_drop_succ]
    generalize r2.take j = u at *
    generalize r2.drop (j + 1) = v at *
    have hmm : m ∈ r2 := by rw [hr2]; simp
    clear hat hsp hj hm hn hle
    subst hr2
    have hs := List.pairwise_cons.1 h2.sorted
    have hht : hd.t = m.t := by
      have e1 : m.t ≤ hd.t := hmin hd (h2.perm.subset (by simp))
      have e2 : hd.t ≤ m.t := by
        rcases List.mem_cons.1 (h2.perm.symm.subset hmm) with rfl | h
        · exact Int.le_refl _
        · exact hs.1 m h
      omega
    have hu0 : u.filter (fun q => decide (q.t = m.t)) = [] := List.filter_eq_nil_iff.2 fun q hq => by have := hfst q hq; simp; omega
    have hsm := h2.stab m.t
    rw [List.filter_append, hu0, List.nil_append, List.filter_cons_of_pos (by simpa using hht), List.filter_cons_of_pos (by simp)] at hsm
    obtain ⟨rfl, hsm2⟩ := List.cons.inj hsm
    refine ⟨?_, hs.2, fun t => ?_, ?_⟩
    · exact (h2.perm.trans List.perm_middle).cons_inv
    · show c3.filter _ = _
      rw [List.filter_append]
      by_cases ht : t = hd.t
      · subst ht
        rw [hu0, hsm2]; rfl
      · have := h2.stab t
        rw [List.filter_append, List.filter_cons_of_neg (by simpa using fun e => ht e.symm), List.filter_cons_of_neg (by simpa using fun e => ht e.symm)] at this
        exact this
    · exact h2.keys.sublist (List.Sublist.append (List.Sublist.refl u) (List.sublist_cons_self _ _))
  · rw [if_neg h8, if_pos (by omega)]
    exact h2
theorem keys_one {rs : List Qa} (h : rs.Pairwise (fun a b => ¬ (a.f = b.f ∧ a.i = b.i))) : ∀ p ∈ rs, ∀ q ∈ rs, p.f = q.f → p.i = q.i → p = q := by
  induction h with
  | nil => intro p hp; cases hp
  | cons h1 h2 ih =>
    intro p hp q hq e1 e2
    rcases List.mem_cons.1 hp with e3 | hp'
    · rcases List.mem_cons.1 hq with e4 | hq'
      · rw [e3, e4]
      · rw [e3] at e1 e2
        exact absurd ⟨e1, e2⟩ (h1 q hq')
    · rcases List.mem_cons.1 hq with e4 | hq'
      · rw [e4] at e1 e2
        exact absurd ⟨e1.symm, e2.symm⟩ (h1 p hp')
      · exact ih p hp' q hq' e1 e2
def hitQ (fr id T : Int) (q : Qa) : Bool := (q.f == fr && q.i == id) && decide (T - q.t < 247)
theorem Rq.find {cs rs : List Qa} (h : Rq cs rs) (fr id now : Int) : findQ cs fr id now = (rs.find? (hitQ fr id (clampN now))).map Qa.l := by
  unfold findQ
  cases hc : cs.find? (fun q => q.f == fr && q.i == id) with
  | none =>
    rw [List.find?_eq_none] at hc
    have : rs.find? (hitQ fr id (clampN now)) = none := by
      rw [List.find?_eq_none]
      intro q hq hh
      refine hc q (h.perm.symm.subset hq) ?_
      unfold hitQ at hh
      exact (Bool.and_eq_true_iff.1 hh).1
    rw [this]; rfl
  | some q =>
    have hq := h.perm.subset (List.mem_of_find?_eq_some hc)
    have hqk := List.find?_some hc
    have key : ∀ p ∈ rs, hitQ fr id (clampN now) p = true → p = q := fun p hp hh => by
      unfold hitQ at hh
      have h1 := Bool.and_eq_true_iff.1 (Bool.and_eq_true_iff.1 hh).1
      have h2 := Bool.and_eq_true_iff.1 hqk
      exact keys_one h.keys p hp q hq ((eq_of_beq h1.1).trans (eq_of_beq h2.1).symm) ((eq_of_beq h1.2).trans (eq_of_beq h2.2).symm)
    show (if clampN now - q.t < 247 then some q.l else none) = _
    by_cases hl : clampN now - q.t < 247
    · rw [if_pos hl]
      have hhit : hitQ fr id (clampN now) q = true := by unfold hitQ; rw [decide_eq_true hl, Bool.and_true]; exact hqk
      cases hr : rs.find? (hitQ fr id (clampN now)) with
      | none => rw [List.find?_eq_none] at hr; exact absurd hhit (hr q hq)
      | some p => rw [key p (List.mem_of_find?_eq_some hr) (List.find?_some hr)]; rfl
    · rw [if_neg hl]
      have : rs.find? (hitQ fr id (clampN now)) = none := by
        rw [List.find?_eq_none]
        intro p hp hh
        have e := key p hp hh
        subst e
        unfold hitQ at hh
        exact hl (of_decide_eq_true (Bool.and_eq_true_iff.1 hh).2)
      rw [this]; rfl
theorem Rq.cnt {cs rs : List Qa} (h : Rq cs rs) (now : Int) : cntQ now cs = cntQ now rs := (h.perm.filter _).length_eq
theorem keepR_few (rs : List Qa) (f i now : Int) (l : List UInt8) (h : rs.length ≤ 8) : (keepR rs f i now l).length ≤ 8 := by
  unfold keepR
  have h1 : (rs.filter (fun q => !(q.f == f && q.i == i)) ++ [(⟨f, i, clampN now, l⟩ : Qa)]).length ≤ 9 := by
    rw [List.length_append]
    have := List.length_filter_le (fun q : Qa => !(q.f == f && q.i == i)) rs
    simp only [List.length_cons, List.length_nil]; omega
  generalize rs.filter (fun q => !(q.f == f && q.i == i)) ++ [(⟨f, i, clampN now, l⟩ : Qa)] = d at *
  show (if d.length ≤ 8 then d else d.eraseIdx (fm (d.map Qa.t) d.length)).length ≤ 8
  by_cases h8 : d.length ≤ 8
  · rw [if_pos h8]; exact h8
  · rw [if_neg h8, List.length_eraseIdx, if_pos (fm_lt _ _ (by omega))]; omega
end Go.Proofs.Ytdlgemlpbpbhcaa
