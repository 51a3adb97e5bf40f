/-
  A region that draws its order, as XRel, where some operations wait for later ones in one of the orders' ways alone. No program is named here.
-/
import Derived.Test.YtmaeofhgbelciaaRel
namespace Go.Proofs.Ytmaeofhgbelciaa
open Go
set_option maxRecDepth 100000
section
variable {P : Program} {ops : Array Oper} {Q : Exit → Act → World → Prop}
/-- Each operation waits, whatever the way, for earlier ones alone. -/
def lexB2 (ops : Array Oper) : Bool := (List.range ops.size).all fun i => match ops[i]? with | some o => o.after.all fun e => !Region.binds .any e || Nat.blt e.on i | none => true
theorem all_listed2 {listed : Array Bool} (hlex : lexB2 ops = true) (hsz : listed.size = ops.size) (hr : Region.ready .any ops listed = []) : ∀ i, i < ops.size → listed.getD i false = true := by
  intro i
  induction i using Nat.strongRecOn with
  | ind i ih =>
    intro hi
    cases hl : listed.getD i false with
    | true => rfl
    | false =>
      have ho : ops[i]? = some ops[i] := Array.getElem?_eq_getElem hi
      have : i ∈ Region.ready .any ops listed := mem_ready.2 ⟨by
        rw [Array.getD_eq_getD_getElem?] at hl ⊢
        rw [Array.getElem?_eq_getElem (by omega)] at hl ⊢
        exact hl, _, ho, fun e he hbi => by
          have h1 := List.all_eq_true.1 hlex i (List.mem_range.2 hi)
          rw [ho] at h1
          have h2 := Array.all_eq_true_iff_forall_mem.1 h1 e he
          rw [hbi, Bool.not_true, Bool.false_or] at h2
          have h3 := Nat.blt_eq ▸ h2
          exact ih e.on h3 (by omega)⟩
      rw [hr] at this
      cases this
theorem wpAny_rel2 {a0 : Act} {S : World → Prop} {T : World → World → Prop} {R : Nat → World → Value → Prop} {base : List (Nat × Value)}
    (hlex : lexB2 ops = true) (hpl : placesB ops a0.tmps.size = true) (hbase : BaseOk ops a0 base) (hT : ∀ i w w' v, T w w' → R i w v → R i w' v)
    (hsteps : StepsFrom (StepOk P ops Q S T R base) 0 ops.toList)
    (hfin : ∀ a w, S w → a = pin a ops.toList a0 → Deps ops R a w (List.range ops.size) → Q .normal a w) :
    ∀ (fuel : Nat) (listed : Array Bool) (a : Act) (w : World), listed.size = ops.size → (listed.toList.filter (!·)).length ≤ fuel → RInv ops a0 S R listed a w → wpAny P .any ops Q fuel listed a w := by
  have fin : ∀ (listed : Array Bool) (a : Act) (w : World), (∀ i, i < ops.size → listed.getD i false = true) → RInv ops a0 S R listed a w → Q .normal a w := fun listed a w hall h =>
    hfin a w h.held (pin_is h.size h.defers h.other) (deps_of _ fun j hj => h.got j (hall j (List.mem_range.1 hj)))
  intro fuel
  induction fuel with
  | zero =>
    intro listed a w hsz hc h
    have hall : ∀ i, i < ops.size → listed.getD i false = true := fun i hi => by
      have h0 : listed.toList.filter (!·) = [] := List.eq_nil_of_length_eq_zero (by omega)
      have := List.filter_eq_nil_iff.1 h0 (listed[i]'(by omega)) (by simp)
      rw [Array.getD_eq_getD_getElem?, Array.getElem?_eq_getElem (by omega)]
      simpa using this
    refine ⟨List.eq_nil_iff_forall_not_mem.2 fun i hi => ?_, fin listed a w hall h⟩
    obtain ⟨h1, o, ho, _⟩ := mem_ready.1 hi
    have hlt := (Array.getElem?_eq_some_iff.1 ho).1
    have := hall i hlt
    rw [Array.getD_eq_getD_getElem?, Array.getElem?_eq_getElem (by omega)] at this h1
    simp at this h1
    rw [this] at h1; cases h1
  | succ fuel ih =>
    intro listed a w hsz hc h
    refine ⟨fun hr => fin listed a w (all_listed2 hlex hsz hr) h, fun i hi => ?_⟩
    obtain ⟨h1, o, ho, hd⟩ := mem_ready.1 hi
    have hlt := (Array.getElem?_eq_some_iff.1 ho).1
    have hst := steps_at ops.toList 0 hsteps i o (by rw [Array.getElem?_toList]; exact ho)
    rw [Nat.zero_add] at hst
    have hl : listed.toList[i]? = some false := by
      rw [Array.getElem?_toList, Array.getElem?_eq_getElem (by omega)]
      rw [Array.getD_eq_getD_getElem?, Array.getElem?_eq_getElem (by omega)] at h1
      simpa using h1
    have hcnt := cnt_set listed.toList i hl
    have hdeps : Deps ops R a w (depsOf o) := deps_of _ fun j hj => by
      obtain ⟨e, he, hb⟩ := List.mem_filterMap.1 hj
      split at hb
      · rename_i hbi
        obtain rfl := Option.some.inj hb
        exact h.got e.on (hd e (Array.mem_toList_iff.1 he) hbi)
      · cases hb
    have := hst a w (wpAny P .any ops Q fuel (listed.setIfInBounds i true)) h.held (base_of h base hbase) hdeps fun v w' hS' hTT hR => ih _ _ _ (by simpa using hsz) (by
        rw [Array.toList_setIfInBounds]; omega)
      ⟨hS', by cases o.dst <;> simp [Act.put, h.size], by cases hdo : o.dst <;> simp [Act.put, h.defers], fun t ht => by
        rw [← h.other t ht]
        have hne := List.all_eq_true.1 ht o (by rw [Array.mem_toList_iff]; exact Array.mem_of_getElem? ho)
        cases hdo : o.dst with
        | none => rfl
        | some d =>
          have : d ≠ t := fun e => by subst e; simp [hdo] at hne
          simp [Act.put, Array.getElem?_setIfInBounds_ne this], fun j hj => by
        by_cases hij : i = j
        · subst hij
          rw [left_put_same hpl ho a h.size]; exact hR
        · rw [left_put_other hpl ho hij]
          refine hT j w w' _ hTT (h.got j ?_)
          rwa [getD_set_ne false hij] at hj⟩
    unfold wpOp
    simp only [ho]
    split
    · rename_i hw; rw [if_pos hw] at this; exact .inl this
    · rename_i hw; rw [if_neg hw] at this; exact this
/-- **A region that draws its order.** -/
theorem wp_region_rel2 {id : Nat} {a0 : Act} {w0 : World} (S : World → Prop) (T : World → World → Prop) (R : Nat → World → Value → Prop) (base : List (Nat × Value)) (hm : P.follows .mixedOrders = true)
    (hlex : lexB2 ops = true) (hpl : placesB ops a0.tmps.size = true) (hbase : BaseOk ops a0 base) (hS : S w0.drew) (hT : ∀ i w w' v, T w w' → R i w v → R i w' v)
    (hsteps : StepsFrom (StepOk P ops Q S T R base) 0 ops.toList)
    (hfin : ∀ a w, S w → a = pin a ops.toList a0 → Deps ops R a w (List.range ops.size) → Q .normal a w) :
    (Code.region id ops true).wp P Q a0 w0 :=
  wp_region_any hm (wpAny_rel2 hlex hpl hbase hT hsteps hfin ops.size _ a0 _ (by simp) (by
    rw [Array.toList_replicate, List.filter_replicate]; simp) ⟨hS, rfl, rfl, fun _ _ => rfl, fun i hi => by
      by_cases hlt : i < ops.size
      · simp [Array.getD_eq_getD_getElem?, hlt] at hi
      · simp [Array.getD_eq_getD_getElem?, hlt] at hi⟩)
end
end Go.Proofs.Ytmaeofhgbelciaa
