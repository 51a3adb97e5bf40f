/-
  Exchanges as plain lists: the document's rules of their times. No program is named here.
-/
import Derived.Test.YtkhikpbchimodaaBase
namespace Go.Proofs.Ytkhikpbchimodaa
set_option maxRecDepth 100000
set_option linter.unusedVariables false
/-- An exchange: its endpoint, its ID, its bytes, how often it was sent again, how long it waits, when its time is up. -/
structure Xq where
  t : Int
  i : Int
  l : List UInt8
  g : Nat
  wt : Int
  u : Int
/-- What is to be sent, or lost. -/
structure Sq where
  t : Int
  i : Int
  l : List UInt8
  lost : Bool
def addT (a b : Int) : Int := min (a + b) 1099511627776
def tellT (now x : Int) : Int := max now (min x 1099511627776)
def waitT (r : Int) : Int := 20 + (max r 0) % 11
theorem waitT_in (r : Int) : 20 ≤ waitT r ∧ waitT r ≤ 30 := by unfold waitT; omega
theorem tellT_in {now x : Int} (h : 0 ≤ now ∧ now ≤ 1099511627776) : 0 ≤ tellT now x ∧ tellT now x ≤ 1099511627776 := by unfold tellT; omega
/-- The first place of the smallest, of the first k. -/
def fmu (ts : List Int) : Nat → Nat
  | 0 => 0
  | k + 1 => if (ts[k]?).getD 0 < (ts[fmu ts k]?).getD 0 then k else fmu ts k
theorem fmu_lt (ts : List Int) : ∀ k, 0 < k → fmu ts k < k
  | 0, h => absurd h (by omega)
  | 1, _ => by
    unfold fmu; split <;> simp [fmu]
  | k + 2, _ => by
    have := fmu_lt ts (k + 1) (by omega)
    unfold fmu; split <;> omega
theorem fmu_one (ts : List Int) : fmu ts 1 = 0 := by unfold fmu; split <;> rfl
theorem fmu_le (ts : List Int) : ∀ k j, j < k → (ts[fmu ts k]?).getD 0 ≤ (ts[j]?).getD 0
  | 0, j, h => absurd h (by omega)
  | k + 1, j, h => by
    unfold fmu
    by_cases hk : j = k
    · subst hk
      split
      · exact Int.le_refl _
      · omega
    · have := fmu_le ts k j (by omega)
      split
      · omega
      · exact this
theorem fmu_first (ts : List Int) : ∀ k j, j < fmu ts k → (ts[fmu ts k]?).getD 0 < (ts[j]?).getD 0
  | 0, j, h => by unfold fmu at h; omega
  | k + 1, j, h => by
    unfold fmu at h ⊢
    split at h
    · rename_i hc
      rw [if_pos hc]
      have := fmu_le ts k j h
      omega
    · rename_i hc
      rw [if_neg hc]
      exact fmu_first ts k j h
def fstQ (qs : List Xq) : Nat := fmu (qs.map Xq.u) qs.length
theorem us_at {qs : List Xq} {k : Nat} {q : Xq} (h : qs[k]? = some q) : ((qs.map Xq.u)[k]?).getD 0 = q.u := by rw [List.getElem?_map, h]; rfl
theorem fstQ_lt {qs : List Xq} (h : 0 < qs.length) : fstQ qs < qs.length := fmu_lt _ _ h
theorem fstQ_le {qs : List Xq} {q : Xq} (h : qs[fstQ qs]? = some q) : ∀ p ∈ qs, q.u ≤ p.u := by
  intro p hp
  obtain ⟨j, hj⟩ := List.mem_iff_getElem?.1 hp
  have := fmu_le (qs.map Xq.u) qs.length j (List.getElem?_eq_some_iff.1 hj).1
  rw [us_at hj] at this
  have h2 := us_at h
  unfold fstQ at h2
  omega
theorem fstQ_first {qs : List Xq} {q : Xq} (h : qs[fstQ qs]? = some q) : ∀ (j : Nat) (p : Xq), j < fstQ qs → qs[j]? = some p → q.u < p.u := by
  intro j p hj hp
  have := fmu_first (qs.map Xq.u) qs.length j hj
  rw [us_at hp] at this
  have h2 := us_at h
  unfold fstQ at h2
  omega
def sentOf (q : Xq) : Sq := ⟨q.t, q.i, q.l, decide (q.g = 4)⟩
def nextX (q : Xq) : Xq := ⟨q.t, q.i, q.l, q.g + 1, q.wt * 2, addT q.u (q.wt * 2)⟩
def stepQ (qs : List Xq) (k : Nat) (q : Xq) : List Xq := if q.g = 4 then qs.eraseIdx k else qs.set k (nextX q)
def pot : List Xq → Nat
  | [] => 0
  | q :: qs => (5 - q.g) + pot qs
def passQ : Nat → List Xq → Int → List Sq × List Xq
  | 0, qs, _ => ([], qs)
  | f + 1, qs, now => match qs[fstQ qs]? with
    | none => ([], qs)
    | some q => if q.u ≤ now then (sentOf q :: (passQ f (stepQ qs (fstQ qs) q) now).1, (passQ f (stepQ qs (fstQ qs) q) now).2) else ([], qs)
def passed (qs : List Xq) (now : Int) : List Sq × List Xq := passQ (pot qs) qs now
/-- Each exchange's numbers are what they may be. -/
def XOk (q : Xq) : Prop := 0 ≤ q.u ∧ q.u ≤ 1099511627776 ∧ q.g ≤ 4 ∧ 0 ≤ q.wt ∧ q.wt ≤ 30 * (2 : Int) ^ q.g
theorem pow_le {g : Nat} (h : g ≤ 4) : (1 : Int) ≤ 2 ^ g ∧ (2 : Int) ^ g ≤ 16 := by
  have : g = 0 ∨ g = 1 ∨ g = 2 ∨ g = 3 ∨ g = 4 := by omega
  rcases this with rfl | rfl | rfl | rfl | rfl <;> decide
theorem XOk.wt_le {q : Xq} (h : XOk q) : q.wt ≤ 480 := by
  obtain ⟨_, _, h3, h4, h5⟩ := h
  have := pow_le h3
  omega
theorem XOk.next {q : Xq} (h : XOk q) (h4 : q.g ≠ 4) : XOk (nextX q) := by
  obtain ⟨h1, h2, h3, h5, h6⟩ := h
  refine ⟨?_, ?_, ?_, ?_, ?_⟩
  · show 0 ≤ addT q.u (q.wt * 2); unfold addT; omega
  · show addT q.u (q.wt * 2) ≤ _; unfold addT; omega
  · show q.g + 1 ≤ 4; omega
  · show 0 ≤ q.wt * 2; omega
  · show q.wt * 2 ≤ 30 * 2 ^ (q.g + 1); rw [Int.pow_succ]; omega
structure XGood (qs : List Xq) : Prop where
  few : qs.length ≤ 4
  ok : ∀ q ∈ qs, XOk q
  one : qs.Pairwise fun a b => ¬ (a.t = b.t ∧ a.i = b.i)
theorem pot_set : ∀ (qs : List Xq) (k : Nat) (q p : Xq), qs[k]? = some q → pot (qs.set k p) + (5 - q.g) = pot qs + (5 - p.g)
  | [], k, q, p, h => by simp at h
  | a :: qs, 0, q, p, h => by
    obtain rfl := Option.some.inj h
    simp only [List.set_cons_zero, pot]; omega
  | a :: qs, k + 1, q, p, h => by
    have := pot_set qs k q p (by simpa using h)
    simp only [List.set_cons_succ, pot]; omega
theorem pot_erase : ∀ (qs : List Xq) (k : Nat) (q : Xq), qs[k]? = some q → pot (qs.eraseIdx k) + (5 - q.g) = pot qs
  | [], k, q, h => by simp at h
  | a :: qs, 0, q, h => by
    obtain rfl := Option.some.inj h
    simp only [List.eraseIdx_cons_zero, pot]; omega
  | a :: qs, k + 1, q, h => by
    have := pot_erase qs k q (by simpa using h)
    simp only [List.eraseIdx_cons_succ, pot]; omega
theorem pot_step {qs : List Xq} {k : Nat} {q : Xq} (h : qs[k]? = some q) (hg : q.g ≤ 4) : pot (stepQ qs k q) < pot qs := by
  unfold stepQ
  split
  · have := pot_erase qs k q h; omega
  · have := pot_set qs k q (nextX q) h
    have e : (nextX q).g = q.g + 1 := rfl
    rw [e] at this; omega
theorem pot_le {qs : List Xq} : pot qs ≤ 5 * qs.length := by
  induction qs with
  | nil => exact Nat.le_refl _
  | cons a qs ih => simp only [pot, List.length_cons]; omega
theorem XGood.step {qs : List Xq} (h : XGood qs) {k : Nat} {q : Xq} (hk : qs[k]? = some q) : XGood (stepQ qs k q) := by
  unfold stepQ
  split
  · exact ⟨Nat.le_trans (List.length_eraseIdx_le _ _) h.few, fun p hp => h.ok p (List.mem_of_mem_eraseIdx hp), h.one.sublist (List.eraseIdx_sublist _ _)⟩
  · rename_i hg
    refine ⟨by rw [List.length_set]; exact h.few, fun p hp => ?_, ?_⟩
    · rcases List.mem_or_eq_of_mem_set hp with hp | rfl
      · exact h.ok p hp
      · exact (h.ok q (List.mem_of_getElem? hk)).next hg
    · have hm : ∀ (xs : List Xq) (k : Nat), xs[k]? = some q → (xs.set k (nextX q)).map (fun a => (a.t, a.i)) = xs.map (fun a => (a.t, a.i)) := by
        intro xs
        induction xs with
        | nil => intro k h; simp at h
        | cons a xs ih =>
          intro k h
          cases k with
          | zero => obtain rfl := Option.some.inj h; rfl
          | succ k => rw [List.set_cons_succ, List.map_cons, List.map_cons, ih k (by simpa using h)]
      have h1 : (qs.map fun a => (a.t, a.i)).Pairwise fun x y => ¬ (x.1 = y.1 ∧ x.2 = y.2) := List.pairwise_map.2 h.one
      rw [← hm qs k hk] at h1
      exact List.pairwise_map.1 h1
theorem pot_nil {qs : List Xq} (hg : ∀ q ∈ qs, q.g ≤ 4) (h : pot qs = 0) : qs = [] := by
  cases qs with
  | nil => rfl
  | cons a qs =>
    have := hg a (List.mem_cons_self ..)
    simp only [pot] at h; omega
theorem passQ_nil (f : Nat) (now : Int) : passQ f [] now = ([], []) := by cases f <;> rfl
theorem step_g {qs : List Xq} {k : Nat} {q : Xq} (hk : qs[k]? = some q) (hg : ∀ q ∈ qs, q.g ≤ 4) : ∀ x ∈ stepQ qs k q, x.g ≤ 4 := by
  intro x hx
  unfold stepQ at hx
  split at hx
  · exact hg x (List.mem_of_mem_eraseIdx hx)
  · rename_i h4
    rcases List.mem_or_eq_of_mem_set hx with hx | rfl
    · exact hg x hx
    · have := hg q (List.mem_of_getElem? hk)
      show q.g + 1 ≤ 4; omega
theorem passQ_any (f : Nat) : ∀ (f' : Nat) (qs : List Xq) (now : Int), (∀ q ∈ qs, q.g ≤ 4) → pot qs ≤ f → pot qs ≤ f' → passQ f qs now = passQ f' qs now := by
  induction f with
  | zero =>
    intro f' qs now hg h _
    obtain rfl := pot_nil hg (by omega)
    rw [passQ_nil, passQ_nil]
  | succ f ih =>
    intro f' qs now hg h h'
    cases f' with
    | zero =>
      obtain rfl := pot_nil hg (by omega)
      rw [passQ_nil, passQ_nil]
    | succ f' =>
      unfold passQ
      cases hq : qs[fstQ qs]? with
      | none => rfl
      | some q =>
        have hst := pot_step hq (hg q (List.mem_of_getElem? hq))
        dsimp only
        rw [ih f' _ now (step_g hq hg) (by omega) (by omega)]
theorem passed_nil (now : Int) : passed [] now = ([], []) := rfl
theorem passed_go {qs : List Xq} {q : Xq} {now : Int} (hg : ∀ q ∈ qs, q.g ≤ 4) (hq : qs[fstQ qs]? = some q) (hu : q.u ≤ now) : passed qs now = (sentOf q :: (passed (stepQ qs (fstQ qs) q) now).1, (passed (stepQ qs (fstQ qs) q) now).2) := by
  have hst := pot_step hq (hg q (List.mem_of_getElem? hq))
  obtain ⟨p, hp⟩ : ∃ p, pot qs = p + 1 := ⟨pot qs - 1, by omega⟩
  unfold passed
  rw [hp]
  conv => lhs; unfold passQ
  rw [hq]
  dsimp only
  rw [if_pos hu, passQ_any p (pot (stepQ qs (fstQ qs) q)) _ now (step_g hq hg) (by omega) (Nat.le_refl _)]
theorem passed_stop {qs : List Xq} {q : Xq} {now : Int} (hq : qs[fstQ qs]? = some q) (hu : ¬ q.u ≤ now) : passed qs now = ([], qs) := by
  unfold passed
  cases h : pot qs with
  | zero => rfl
  | succ p =>
    unfold passQ
    rw [hq]
    dsimp only
    rw [if_neg hu]
theorem XGood.g {qs : List Xq} (h : XGood qs) : ∀ q ∈ qs, q.g ≤ 4 := fun q hq => (h.ok q hq).2.2.1
/-- By the number of steps that are left. -/
theorem pass_ind {C : List Xq → Prop} (now : Int) (h0 : C []) (h1 : ∀ qs q, XGood qs → qs[fstQ qs]? = some q → ¬ q.u ≤ now → C qs)
    (h2 : ∀ qs q, XGood qs → qs[fstQ qs]? = some q → q.u ≤ now → C (stepQ qs (fstQ qs) q) → C qs) : ∀ qs, XGood qs → C qs := by
  have : ∀ n qs, pot qs ≤ n → XGood qs → C qs := by
    intro n
    induction n with
    | zero =>
      intro qs hn hg
      obtain rfl := pot_nil hg.g (by omega)
      exact h0
    | succ n ih =>
      intro qs hn hg
      cases hq : qs[fstQ qs]? with
      | none =>
        have : qs = [] := by
          cases qs with
          | nil => rfl
          | cons a qs =>
            have := fstQ_lt (qs := a :: qs) (by simp)
            rw [List.getElem?_eq_getElem this] at hq; cases hq
        subst this; exact h0
      | some q =>
        have hst := pot_step hq (hg.g q (List.mem_of_getElem? hq))
        by_cases hu : q.u ≤ now
        · exact h2 qs q hg hq hu (ih _ (by omega) (hg.step hq))
        · exact h1 qs q hg hq hu
  exact fun qs hg => this (pot qs) qs (Nat.le_refl _) hg
theorem passed_good {qs : List Xq} (now : Int) (h : XGood qs) : XGood (passed qs now).2 := by
  refine pass_ind (C := fun qs => XGood qs → XGood (passed qs now).2) now (fun h => h) ?_ ?_ qs h h
  · intro qs q hg hq hu _
    rw [passed_stop hq hu]; exact hg
  · intro qs q hg hq hu ih _
    rw [passed_go hg.g hq hu]; exact ih (hg.step hq)
theorem passed_late {qs : List Xq} (now : Int) (h : XGood qs) : ∀ q ∈ (passed qs now).2, now < q.u := by
  refine pass_ind (C := fun qs => ∀ q ∈ (passed qs now).2, now < q.u) now (fun q hq => by cases hq) ?_ ?_ qs h
  · intro qs q hg hq hu p hp
    rw [passed_stop hq hu] at hp
    have := fstQ_le hq p hp
    omega
  · intro qs q hg hq hu ih
    rw [passed_go hg.g hq hu]; exact ih
theorem passed_pot {qs : List Xq} (now : Int) (h : XGood qs) : pot (passed qs now).2 + (passed qs now).1.length ≤ pot qs := by
  refine pass_ind (C := fun qs => pot (passed qs now).2 + (passed qs now).1.length ≤ pot qs) now (Nat.le_refl _) ?_ ?_ qs h
  · intro qs q hg hq hu
    rw [passed_stop hq hu]; exact Nat.le_refl _
  · intro qs q hg hq hu ih
    rw [passed_go hg.g hq hu]
    have := pot_step hq (hg.g q (List.mem_of_getElem? hq))
    show pot (passed (stepQ qs (fstQ qs) q) now).2 + ((passed (stepQ qs (fstQ qs) q) now).1.length + 1) ≤ _
    omega
theorem passed_none {qs : List Xq} {now : Int} (h : ∀ q ∈ qs, now < q.u) : passed qs now = ([], qs) := by
  cases hq : qs[fstQ qs]? with
  | none =>
    have : qs = [] := by
      cases qs with
      | nil => rfl
      | cons a qs =>
        have := fstQ_lt (qs := a :: qs) (by simp)
        rw [List.getElem?_eq_getElem this] at hq; cases hq
    subst this; rfl
  | some q => exact passed_stop hq (by have := h q (List.mem_of_getElem? hq); omega)
/-- Time goes by in two steps as in one. -/
theorem passed_two {qs : List Xq} {m n : Int} (h : XGood qs) (hmn : m ≤ n) : passed qs n = ((passed qs m).1 ++ (passed (passed qs m).2 n).1, (passed (passed qs m).2 n).2) := by
  refine pass_ind (C := fun qs => passed qs n = ((passed qs m).1 ++ (passed (passed qs m).2 n).1, (passed (passed qs m).2 n).2)) m ?_ ?_ ?_ qs h
  · rfl
  · intro qs q hg hq hu
    rw [passed_stop hq hu]; rfl
  · intro qs q hg hq hu ih
    rw [passed_go hg.g hq hu, passed_go hg.g hq (show q.u ≤ n by omega), ih]; rfl
/-- Is there one? -/
def hitX (t i : Int) (q : Xq) : Bool := q.t == t && q.i == i
def startQ (qs : List Xq) (now t i : Int) (l : List UInt8) (r : Int) : List Xq × Int :=
  if qs.any (hitX t i) then (qs, 5) else if 4 ≤ qs.length then (qs, 6) else (qs ++ [⟨t, i, l, 0, waitT r, addT now (waitT r)⟩], 0)
def stopQ (qs : List Xq) (t i : Int) : List Xq := qs.filter fun q => !hitX t i q
theorem XGood.nil : XGood [] := ⟨by decide, (fun q hq => by cases hq), List.Pairwise.nil⟩
theorem XGood.start {qs : List Xq} (h : XGood qs) {now : Int} (hn : 0 ≤ now) (t i : Int) (l : List UInt8) (r : Int) : XGood (startQ qs now t i l r).1 := by
  unfold startQ
  split
  · exact h
  · split
    · exact h
    · rename_i h1 h2
      have hw := waitT_in r
      refine ⟨by simp; omega, fun q hq => ?_, ?_⟩
      · rcases List.mem_append.1 hq with hq | hq
        · exact h.ok q hq
        · obtain rfl := List.mem_singleton.1 hq
          refine ⟨?_, ?_, Nat.zero_le _, (by show 0 ≤ waitT r; omega), ?_⟩
          · show 0 ≤ addT _ _; unfold addT; omega
          · show addT _ _ ≤ _; unfold addT; omega
          · show waitT r ≤ 30 * 2 ^ 0; omega
      · refine List.pairwise_append.2 ⟨h.one, List.pairwise_singleton _ _, fun a ha b hb => ?_⟩
        obtain rfl := List.mem_singleton.1 hb
        rintro ⟨e1, e2⟩
        apply h1
        rw [List.any_eq_true]
        exact ⟨a, ha, by unfold hitX; dsimp only at e1 e2; simp [e1, e2]⟩
theorem XGood.stop {qs : List Xq} (h : XGood qs) (t i : Int) : XGood (stopQ qs t i) :=
  ⟨Nat.le_trans (List.length_filter_le _ _) h.few, fun q hq => h.ok q (List.mem_filter.1 hq).1, h.one.sublist (List.filter_sublist ..)⟩
/-- Of one that is there but once, what is struck is the first. -/
theorem stop_erase : ∀ {qs : List Xq} {t i : Int} {k : Nat} {q : Xq}, (qs.Pairwise fun a b => ¬ (a.t = b.t ∧ a.i = b.i)) → qs[k]? = some q → hitX t i q = true → stopQ qs t i = qs.eraseIdx k
  | [], _, _, k, q, _, h, _ => by simp at h
  | a :: qs, t, i, 0, q, hp, h, hh => by
    obtain rfl := Option.some.inj h
    unfold stopQ
    rw [List.filter_cons_of_neg (by rw [hh]; decide), List.eraseIdx_cons_zero]
    refine List.filter_eq_self.2 fun b hb => ?_
    have := (List.pairwise_cons.1 hp).1 b hb
    unfold hitX at hh ⊢
    rw [Bool.and_eq_true, beq_iff_eq, beq_iff_eq] at hh
    cases hx : (b.t == t && b.i == i) with
    | false => rfl
    | true =>
      rw [Bool.and_eq_true, beq_iff_eq, beq_iff_eq] at hx
      exact absurd ⟨hh.1.trans hx.1.symm, hh.2.trans hx.2.symm⟩ this
  | a :: qs, t, i, k + 1, q, hp, h, hh => by
    have hq : qs[k]? = some q := by simpa using h
    have ha := (List.pairwise_cons.1 hp).1 q (List.mem_of_getElem? hq)
    have hn : hitX t i a = false := by
      unfold hitX at hh ⊢
      rw [Bool.and_eq_true, beq_iff_eq, beq_iff_eq] at hh
      cases hx : (a.t == t && a.i == i) with
      | false => rfl
      | true =>
        rw [Bool.and_eq_true, beq_iff_eq, beq_iff_eq] at hx
        exact absurd ⟨hx.1.trans hh.1.symm, hx.2.trans hh.2.symm⟩ ha
    have ih := stop_erase (List.pairwise_cons.1 hp).2 hq hh
    unfold stopQ at ih ⊢
    rw [List.filter_cons_of_pos (by rw [hn]; rfl), List.eraseIdx_cons_succ, ih]
theorem stop_none {qs : List Xq} {t i : Int} (h : qs.any (hitX t i) = false) : stopQ qs t i = qs :=
  List.filter_eq_self.2 fun b hb => by
    rw [List.any_eq_false] at h
    have := h b hb
    simpa using this
end Go.Proofs.Ytkhikpbchimodaa
