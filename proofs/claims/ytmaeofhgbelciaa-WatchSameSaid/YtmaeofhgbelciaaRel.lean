/-
  A region that draws its order, each operation met once: what each one leaves is told by a relation that the others keep. No program is named here.
-/
import Derived.RegionTactic
import Derived.WalkKit
namespace Go.Proofs.Ytmaeofhgbelciaa
open Go
set_option maxRecDepth 100000
section
variable {P : Program} {ops : Array Oper} {Q : Exit → Act → World → Prop}
/-- What operation number i has left. -/
def left (ops : Array Oper) (a : Act) (i : Nat) : Value := match (ops[i]?).bind (·.dst) with | some t => a.eval (.tmp t) | none => undef
/-- Each operation waits for earlier ones alone. -/
def lexB (ops : Array Oper) : Bool := (List.range ops.size).all fun i => match ops[i]? with | some o => o.after.all fun e => Nat.blt e.on i | none => true
/-- No two operations leave their values in one place, and each place is there. -/
def nodupB : List Nat → Bool | [] => true | x :: xs => !xs.contains x && nodupB xs
def placesB (ops : Array Oper) (n : Nat) : Bool := nodupB (ops.toList.filterMap (·.dst)) && (ops.toList.all fun o => match o.dst with | some d => Nat.blt d n | none => true)
/-- Values of places that no operation writes. -/
def BaseOk (ops : Array Oper) (a0 : Act) (base : List (Nat × Value)) : Prop := ∀ p ∈ base, a0.eval (.tmp p.1) = p.2 ∧ (ops.toList.all fun o => o.dst != some p.1) = true
def depsOf (o : Oper) : List Nat := o.after.toList.filterMap fun e => if Region.binds .any e = true then some e.on else none
def Deps (ops : Array Oper) (R : Nat → World → Value → Prop) (a : Act) (w : World) : List Nat → Prop
  | [] => True
  | j :: js => R j w (left ops a j) ∧ Deps ops R a w js
def lv (o : Oper) (v : Value) : Value := match o.dst with | some _ => v | none => undef
def AtBase (a : Act) : List (Nat × Value) → Prop
  | [] => True
  | p :: ps => a.eval (.tmp p.1) = p.2 ∧ AtBase a ps
/-- One operation, wherever it comes up. -/
def StepOk (P : Program) (ops : Array Oper) (Q : Exit → Act → World → Prop) (S : World → Prop) (T : World → World → Prop) (R : Nat → World → Value → Prop) (base : List (Nat × Value)) (i : Nat) (o : Oper) : Prop :=
  ∀ (a : Act) (w : World) (K : Act → World → Prop), S w → AtBase a base → Deps ops R a w (depsOf o) → (∀ v w', S w' → T w w' → R i w' (lv o v) → K (a.put o.dst v) w') →
    (if Region.wanted o (yielded ops a.tmps) = true then o.wp P a w K Q else K (a.put o.dst undef) w)
def StepsFrom (F : Nat → Oper → Prop) : Nat → List Oper → Prop
  | _, [] => True
  | k, o :: os => F k o ∧ StepsFrom F (k + 1) os
/-- The places that the operations write, as they are in a; all others as they are in a0. -/
def pin (a : Act) : List Oper → Act → Act
  | [], b => b
  | o :: os, b => pin a os (match o.dst with | some d => { b with tmps := b.tmps.setIfInBounds d (a.eval (.tmp d)) } | none => b)
structure RInv (ops : Array Oper) (a0 : Act) (S : World → Prop) (R : Nat → World → Value → Prop) (listed : Array Bool) (a : Act) (w : World) : Prop where
  held : S w
  size : a.tmps.size = a0.tmps.size
  defers : a.defers = a0.defers
  other : ∀ t, (ops.toList.all fun o => o.dst != some t) = true → a.tmps[t]? = a0.tmps[t]?
  got : ∀ i, listed.getD i false = true → R i w (left ops a i)
theorem steps_at {F : Nat → Oper → Prop} : ∀ (l : List Oper) (k : Nat), StepsFrom F k l → ∀ (i : Nat) (o : Oper), l[i]? = some o → F (k + i) o
  | [], _, _, _, _, h => by simp at h
  | _ :: _, k, h, 0, o, ho => by
    obtain rfl := Option.some.inj ho
    exact h.1
  | _ :: os, k, h, i + 1, o, ho => by
    have := steps_at os (k + 1) h.2 i o (by simpa using ho)
    rwa [show k + 1 + i = k + (i + 1) by omega] at this
theorem nodup_at : ∀ (l : List Oper) (_ : nodupB (l.filterMap (·.dst)) = true) (i j : Nat) (x y : Oper) (d : Nat), l[i]? = some x → l[j]? = some y → x.dst = some d → y.dst = some d → i = j
  | [], _, _, _, _, _, _, h, _, _, _ => by simp at h
  | o :: os, h, i, j, x, y, d, hi, hj, hx, hy => by
    have hmem : ∀ (k : Nat) (z : Oper), os[k]? = some z → z.dst = some d → d ∈ os.filterMap (·.dst) := fun k z hk hz =>
      List.mem_filterMap.2 ⟨z, List.mem_of_getElem? hk, hz⟩
    have htl : nodupB (os.filterMap (·.dst)) = true := by
      cases ho : o.dst with
      | none => simpa [List.filterMap_cons, ho] using h
      | some e => rw [List.filterMap_cons, ho] at h; simp only [nodupB, Bool.and_eq_true] at h; exact h.2
    have hhd : o.dst = some d → d ∉ os.filterMap (·.dst) := fun ho => by
      rw [List.filterMap_cons, ho] at h
      simp only [nodupB, Bool.and_eq_true, Bool.not_eq_true', List.contains_eq_mem, decide_eq_false_iff_not] at h
      exact h.1
    match i, j with
    | 0, 0 => rfl
    | 0, j + 1 =>
      obtain rfl := Option.some.inj hi
      exact absurd (hmem j y (by simpa using hj) hy) (hhd hx)
    | i + 1, 0 =>
      obtain rfl := Option.some.inj hj
      exact absurd (hmem i x (by simpa using hi) hx) (hhd hy)
    | i + 1, j + 1 => rw [nodup_at os htl i j x y d (by simpa using hi) (by simpa using hj) hx hy]
theorem cnt_set : ∀ (l : List Bool) (i : Nat), l[i]? = some false → ((l.set i true).filter (!·)).length + 1 = (l.filter (!·)).length
  | [], _, h => by simp at h
  | b :: l, 0, h => by
    obtain rfl : b = false := by simpa using h
    simp
  | b :: l, i + 1, h => by
    have := cnt_set l i (by simpa using h)
    cases b <;> simp [List.set_cons_succ] <;> omega
theorem deps_of {R : Nat → World → Value → Prop} {a : Act} {w : World} : ∀ (l : List Nat), (∀ j ∈ l, R j w (left ops a j)) → Deps ops R a w l
  | [], _ => trivial
  | j :: js, h => ⟨h j (by simp), deps_of js fun k hk => h k (by simp [hk])⟩
theorem deps_mem {R : Nat → World → Value → Prop} {a : Act} {w : World} : ∀ (l : List Nat), Deps ops R a w l → ∀ j, j ∈ l → R j w (left ops a j)
  | [], _, _, hj => by cases hj
  | i :: js, h, j, hj => by
    rcases List.mem_cons.1 hj with rfl | hj
    · exact h.1
    · exact deps_mem js h.2 j hj
theorem pin_eval (a : Act) : ∀ (l : List Oper) (b : Act) (t : Nat), b.tmps.size = a.tmps.size → ((l.all fun o => o.dst != some t) = true → b.tmps[t]? = a.tmps[t]?) → (pin a l b).tmps[t]? = a.tmps[t]? ∧ (pin a l b).tmps.size = a.tmps.size ∧ (pin a l b).defers = b.defers
  | [], b, t, hs, h => ⟨h rfl, hs, rfl⟩
  | o :: os, b, t, hs, h => by
    unfold pin
    cases ho : o.dst with
    | none => exact pin_eval a os b t hs fun hx => h (by simp [ho, hx])
    | some d =>
      have := pin_eval a os { b with tmps := b.tmps.setIfInBounds d (a.eval (.tmp d)) } t (by simpa using hs) fun hx => by
        by_cases hd : d = t
        · subst hd
          rw [Array.getElem?_setIfInBounds_self]
          split
          · rename_i hlt
            rw [hs] at hlt
            simp [Act.eval, hlt]
          · rename_i hlt
            rw [hs] at hlt
            exact (Array.getElem?_eq_none (Nat.le_of_not_lt hlt)).symm
        · rw [Array.getElem?_setIfInBounds_ne hd]
          exact h (by simp [ho, hx, hd])
      exact this
theorem pin_is {a a0 : Act} {l : List Oper} (hs : a.tmps.size = a0.tmps.size) (hd : a.defers = a0.defers) (h : ∀ t, (l.all fun o => o.dst != some t) = true → a.tmps[t]? = a0.tmps[t]?) : a = pin a l a0 := by
  have h1 := fun t => pin_eval a l a0 t hs.symm fun hx => (h t hx).symm
  have e : (pin a l a0).tmps = a.tmps := Array.ext_getElem? fun t => (h1 t).1
  have e2 := (h1 0).2.2
  cases ha : pin a l a0 with
  | mk x y =>
    rw [ha] at e e2
    cases a
    simp only at e e2 hd
    rw [e, e2, ← hd]
theorem all_listed {listed : Array Bool} (hlex : lexB ops = true) (hsz : listed.size = ops.size) (hr : Region.ready .any ops listed = []) : ∀ i, i < ops.size → listed.getD i false = true := by
  intro i
  induction i using Nat.strongRecOn with
  | ind i ih =>
    intro hi
    cases hl : listed.getD i false with
    | true => rfl
    | false =>
      have ho : ops[i]? = some ops[i] := Array.getElem?_eq_getElem hi
      have : i ∈ Region.ready .any ops listed := mem_ready.2 ⟨by
        rw [Array.getD_eq_getD_getElem?] at hl ⊢
        rw [Array.getElem?_eq_getElem (by omega)] at hl ⊢
        exact hl, _, ho, fun e he _ => by
          have h1 := List.all_eq_true.1 hlex i (List.mem_range.2 hi)
          rw [ho] at h1
          have h2 := Array.all_eq_true_iff_forall_mem.1 h1 e he
          have h3 := Nat.blt_eq ▸ h2
          exact ih e.on h3 (by omega)⟩
      rw [hr] at this
      cases this
theorem left_put_same {o : Oper} {i n : Nat} (hpl : placesB ops n = true) (ho : ops[i]? = some o) (a : Act) (ha : a.tmps.size = n) (v : Value) : left ops (a.put o.dst v) i = lv o v := by
  unfold left lv
  rw [ho]
  cases hd : o.dst with
  | none => simp [hd]
  | some d =>
    have h1 := (Bool.and_eq_true_iff.1 hpl).2
    have h2 := List.all_eq_true.1 h1 o (by rw [Array.mem_toList_iff]; exact Array.mem_of_getElem? ho)
    rw [hd] at h2
    have h3 := Nat.blt_eq ▸ h2
    simp [hd, Act.eval, Act.put, ha, h3]
theorem left_put_other {o : Oper} {i j n : Nat} (hpl : placesB ops n = true) (ho : ops[i]? = some o) (hij : i ≠ j) (a : Act) (v : Value) : left ops (a.put o.dst v) j = left ops a j := by
  unfold left
  cases hj : ops[j]? with
  | none => rfl
  | some oj =>
    cases hdj : oj.dst with
    | none => simp [hdj]
    | some t =>
      simp only [Option.bind_some, hdj]
      refine Act.eval_put fun d hd he => ?_
      injection he with he
      subst he
      exact hij (nodup_at ops.toList (Bool.and_eq_true_iff.1 hpl).1 i j o oj t (by rw [Array.getElem?_toList]; exact ho) (by rw [Array.getElem?_toList]; exact hj) hd hdj)
theorem base_of {S : World → Prop} {R : Nat → World → Value → Prop} {a0 a : Act} {w : World} {listed : Array Bool} (h : RInv ops a0 S R listed a w) : ∀ (base : List (Nat × Value)), BaseOk ops a0 base → AtBase a base
  | [], _ => trivial
  | p :: ps, hb => ⟨by
      obtain ⟨h1, h2⟩ := hb p (by simp)
      have := h.other p.1 h2
      rw [← h1]
      show a.tmps.getD _ _ = a0.tmps.getD _ _
      rw [Array.getD_eq_getD_getElem?, Array.getD_eq_getD_getElem?, this], base_of h ps fun q hq => hb q (by simp [hq])⟩
theorem wpAny_rel {a0 : Act} {S : World → Prop} {T : World → World → Prop} {R : Nat → World → Value → Prop} {base : List (Nat × Value)}
    (hlex : lexB ops = true) (hpl : placesB ops a0.tmps.size = true) (hbase : BaseOk ops a0 base) (hT : ∀ i w w' v, T w w' → R i w v → R i w' v)
    (hsteps : StepsFrom (StepOk P ops Q S T R base) 0 ops.toList)
    (hfin : ∀ a w, S w → a = pin a ops.toList a0 → Deps ops R a w (List.range ops.size) → Q .normal a w) :
    ∀ (fuel : Nat) (listed : Array Bool) (a : Act) (w : World), listed.size = ops.size → (listed.toList.filter (!·)).length ≤ fuel → RInv ops a0 S R listed a w → wpAny P .any ops Q fuel listed a w := by
  have fin : ∀ (listed : Array Bool) (a : Act) (w : World), (∀ i, i < ops.size → listed.getD i false = true) → RInv ops a0 S R listed a w → Q .normal a w := fun listed a w hall h =>
    hfin a w h.held (pin_is h.size h.defers h.other) (deps_of _ fun j hj => h.got j (hall j (List.mem_range.1 hj)))
  intro fuel
  induction fuel with
  | zero =>
    intro listed a w hsz hc h
    have hall : ∀ i, i < ops.size → listed.getD i false = true := fun i hi => by
      have h0 : listed.toList.filter (!·) = [] := List.eq_nil_of_length_eq_zero (by omega)
      have := List.filter_eq_nil_iff.1 h0 (listed[i]'(by omega)) (by simp)
      rw [Array.getD_eq_getD_getElem?, Array.getElem?_eq_getElem (by omega)]
      simpa using this
    refine ⟨List.eq_nil_iff_forall_not_mem.2 fun i hi => ?_, fin listed a w hall h⟩
    obtain ⟨h1, o, ho, _⟩ := mem_ready.1 hi
    have hlt := (Array.getElem?_eq_some_iff.1 ho).1
    have := hall i hlt
    rw [Array.getD_eq_getD_getElem?, Array.getElem?_eq_getElem (by omega)] at this h1
    simp at this h1
    rw [this] at h1; cases h1
  | succ fuel ih =>
    intro listed a w hsz hc h
    refine ⟨fun hr => fin listed a w (all_listed hlex hsz hr) h, fun i hi => ?_⟩
    obtain ⟨h1, o, ho, hd⟩ := mem_ready.1 hi
    have hlt := (Array.getElem?_eq_some_iff.1 ho).1
    have hst := steps_at ops.toList 0 hsteps i o (by rw [Array.getElem?_toList]; exact ho)
    rw [Nat.zero_add] at hst
    have hl : listed.toList[i]? = some false := by
      rw [Array.getElem?_toList, Array.getElem?_eq_getElem (by omega)]
      rw [Array.getD_eq_getD_getElem?, Array.getElem?_eq_getElem (by omega)] at h1
      simpa using h1
    have hcnt := cnt_set listed.toList i hl
    have hdeps : Deps ops R a w (depsOf o) := deps_of _ fun j hj => by
      obtain ⟨e, he, hb⟩ := List.mem_filterMap.1 hj
      split at hb
      · rename_i hbi
        obtain rfl := Option.some.inj hb
        exact h.got e.on (hd e (Array.mem_toList_iff.1 he) hbi)
      · cases hb
    have := hst a w (wpAny P .any ops Q fuel (listed.setIfInBounds i true)) h.held (base_of h base hbase) hdeps fun v w' hS' hTT hR => ih _ _ _ (by simpa using hsz) (by
        rw [Array.toList_setIfInBounds]; omega)
      ⟨hS', by cases o.dst <;> simp [Act.put, h.size], by cases hdo : o.dst <;> simp [Act.put, h.defers], fun t ht => by
        rw [← h.other t ht]
        have hne := List.all_eq_true.1 ht o (by rw [Array.mem_toList_iff]; exact Array.mem_of_getElem? ho)
        cases hdo : o.dst with
        | none => rfl
        | some d =>
          have : d ≠ t := fun e => by subst e; simp [hdo] at hne
          simp [Act.put, Array.getElem?_setIfInBounds_ne this], fun j hj => by
        by_cases hij : i = j
        · subst hij
          rw [left_put_same hpl ho a h.size]; exact hR
        · rw [left_put_other hpl ho hij]
          refine hT j w w' _ hTT (h.got j ?_)
          rwa [getD_set_ne false hij] at hj⟩
    unfold wpOp
    simp only [ho]
    split
    · rename_i hw; rw [if_pos hw] at this; exact .inl this
    · rename_i hw; rw [if_neg hw] at this; exact this
/-- **A region that draws its order.** -/
theorem wp_region_rel {id : Nat} {a0 : Act} {w0 : World} (S : World → Prop) (T : World → World → Prop) (R : Nat → World → Value → Prop) (base : List (Nat × Value)) (hm : P.follows .mixedOrders = true)
    (hlex : lexB ops = true) (hpl : placesB ops a0.tmps.size = true) (hbase : BaseOk ops a0 base) (hS : S w0.drew) (hT : ∀ i w w' v, T w w' → R i w v → R i w' v)
    (hsteps : StepsFrom (StepOk P ops Q S T R base) 0 ops.toList)
    (hfin : ∀ a w, S w → a = pin a ops.toList a0 → Deps ops R a w (List.range ops.size) → Q .normal a w) :
    (Code.region id ops true).wp P Q a0 w0 :=
  wp_region_any hm (wpAny_rel hlex hpl hbase hT hsteps hfin ops.size _ a0 _ (by simp) (by
    rw [Array.toList_replicate, List.filter_replicate]; simp) ⟨hS, rfl, rfl, fun _ _ => rfl, fun i hi => by
      by_cases hlt : i < ops.size
      · simp [Array.getD_eq_getD_getElem?, hlt] at hi
      · simp [Array.getD_eq_getD_getElem?, hlt] at hi⟩)
theorem steps_cons {F : Nat → Oper → Prop} {k : Nat} {o : Oper} {os : List Oper} (h : F k o) (hs : StepsFrom F (k + 1) os) : StepsFrom F k (o :: os) := ⟨h, hs⟩
theorem steps_nil {F : Nat → Oper → Prop} {k : Nat} : StepsFrom F k [] := trivial
theorem tmp_is {a : Act} {t : Nat} {v : Value} (h : a.eval (.tmp t) = v) : a.tmps[t]?.getD undef = v := by rw [← h]; simp [Act.eval]
theorem wanted_none {o : Oper} {y : Nat → Option Bool} (h : o.guard = none) : Region.wanted o y = true := by simp [Region.wanted, h]
theorem wanted_some {o : Oper} {a : Act} {g : Nat} {b : Bool} (h : o.guard = some (g, b)) (hg : left ops a g = .bool b) : Region.wanted o (yielded ops a.tmps) = true := by
  unfold Region.wanted
  rw [h]
  unfold left at hg
  unfold yielded
  cases hx : (ops[g]?).bind (·.dst) with
  | none => rw [hx] at hg; cases hg
  | some t =>
    rw [hx] at hg
    simp only [Act.eval] at hg
    cases ht : a.tmps[t]? with
    | none => simp [ht, undef] at hg
    | some v =>
      simp [ht] at hg
      subst hg
      simp [hx, ht]
end
end Go.Proofs.Ytmaeofhgbelciaa
