/-
  A region that draws its order, with a ghost: the world's condition hangs on which operations have run and on what they have made; what an operation leaves may speak of it. No program is named here.
-/
import Derived.Test.YtmaeofhgbelciaaRel
namespace Go.Proofs.Ytmaeofhgbelciaa
open Go
set_option maxRecDepth 100000
section
variable {γ : Type} {P : Program} {ops : Array Oper} {Q : Exit → Act → World → Prop}
/-- .. and operation i. -/
def updG (L : Nat → Bool) (i : Nat) : Nat → Bool := fun j => if j = i then true else L j
theorem updG_listed (listed : Array Bool) (i : Nat) (hi : i < listed.size) : (fun j => (listed.setIfInBounds i true).getD j false) = updG (fun j => listed.getD j false) i := by
  funext j
  unfold updG
  by_cases h : j = i
  · subst h
    rw [if_pos rfl, Array.getD_eq_getD_getElem?, Array.getElem?_setIfInBounds_self_of_lt hi]; rfl
  · rw [if_neg h, Array.getD_eq_getD_getElem?, Array.getElem?_setIfInBounds_ne (Ne.symm h), ← Array.getD_eq_getD_getElem?]
def StepOkG (P : Program) (ops : Array Oper) (Q : Exit → Act → World → Prop) (S : (Nat → Bool) → γ → World → Prop) (T : γ → World → γ → World → Prop) (R : γ → Nat → World → Value → Prop) (base : List (Nat × Value)) (i : Nat) (o : Oper) : Prop :=
  ∀ (a : Act) (w : World) (L : Nat → Bool) (g : γ) (K : Act → World → Prop), L i = false → (∀ j, j ∈ depsOf o → L j = true) → S L g w → AtBase a base → Deps ops (R g) a w (depsOf o) → (∀ v w' g', S (updG L i) g' w' → T g w g' w' → R g' i w' (lv o v) → K (a.put o.dst v) w') →
    (if Region.wanted o (yielded ops a.tmps) = true then o.wp P a w K Q else K (a.put o.dst undef) w)
theorem wpAny_relG {a0 : Act} {S : (Nat → Bool) → γ → World → Prop} {T : γ → World → γ → World → Prop} {R : γ → Nat → World → Value → Prop} {base : List (Nat × Value)}
    (hlex : lexB ops = true) (hpl : placesB ops a0.tmps.size = true) (hbase : BaseOk ops a0 base) (hT : ∀ i g w g' w' v, T g w g' w' → R g i w v → R g' i w' v)
    (hsteps : StepsFrom (StepOkG P ops Q S T R base) 0 ops.toList)
    (hfin : ∀ a w L g, S L g w → (∀ i, i < ops.size → L i = true) → a = pin a ops.toList a0 → Deps ops (R g) a w (List.range ops.size) → Q .normal a w) :
    ∀ (fuel : Nat) (listed : Array Bool) (a : Act) (w : World) (g : γ), listed.size = ops.size → (listed.toList.filter (!·)).length ≤ fuel → S (fun j => listed.getD j false) g w → RInv ops a0 (fun _ => True) (R g) listed a w → wpAny P .any ops Q fuel listed a w := by
  have fin : ∀ (listed : Array Bool) (a : Act) (w : World) (g : γ), (∀ i, i < ops.size → listed.getD i false = true) → S (fun j => listed.getD j false) g w → RInv ops a0 (fun _ => True) (R g) listed a w → Q .normal a w := fun listed a w g hall hS h =>
    hfin a w _ g hS hall (pin_is h.size h.defers h.other) (deps_of _ fun j hj => h.got j (hall j (List.mem_range.1 hj)))
  intro fuel
  induction fuel with
  | zero =>
    intro listed a w g hsz hc hS h
    have hall : ∀ i, i < ops.size → listed.getD i false = true := fun i hi => by
      have h0 : listed.toList.filter (!·) = [] := List.eq_nil_of_length_eq_zero (by omega)
      have := List.filter_eq_nil_iff.1 h0 (listed[i]'(by omega)) (by simp)
      rw [Array.getD_eq_getD_getElem?, Array.getElem?_eq_getElem (by omega)]
      simpa using this
    refine ⟨List.eq_nil_iff_forall_not_mem.2 fun i hi => ?_, fin listed a w g hall hS h⟩
    obtain ⟨h1, o, ho, _⟩ := mem_ready.1 hi
    have hlt := (Array.getElem?_eq_some_iff.1 ho).1
    have := hall i hlt
    rw [Array.getD_eq_getD_getElem?, Array.getElem?_eq_getElem (by omega)] at this h1
    simp at this h1
    rw [this] at h1; cases h1
  | succ fuel ih =>
    intro listed a w g hsz hc hS h
    refine ⟨fun hr => fin listed a w g (all_listed hlex hsz hr) hS h, fun i hi => ?_⟩
    obtain ⟨h1, o, ho, hd⟩ := mem_ready.1 hi
    have hlt := (Array.getElem?_eq_some_iff.1 ho).1
    have hst := steps_at ops.toList 0 hsteps i o (by rw [Array.getElem?_toList]; exact ho)
    rw [Nat.zero_add] at hst
    have hl0 : listed.getD i false = false := by
      rw [Array.getD_eq_getD_getElem?, Array.getElem?_eq_getElem (by omega)] at h1 ⊢
      simpa using h1
    have hl : listed.toList[i]? = some false := by
      rw [Array.getElem?_toList, Array.getElem?_eq_getElem (by omega)]
      rw [Array.getD_eq_getD_getElem?, Array.getElem?_eq_getElem (by omega)] at h1
      simpa using h1
    have hcnt := cnt_set listed.toList i hl
    have hdeps : Deps ops (R g) a w (depsOf o) := deps_of _ fun j hj => by
      obtain ⟨e, he, hb⟩ := List.mem_filterMap.1 hj
      split at hb
      · rename_i hbi
        obtain rfl := Option.some.inj hb
        exact h.got e.on (hd e (Array.mem_toList_iff.1 he) hbi)
      · cases hb
    have hdone : ∀ j, j ∈ depsOf o → listed.getD j false = true := fun j hj => by
      obtain ⟨e, he, hb⟩ := List.mem_filterMap.1 hj
      split at hb
      · rename_i hbi
        obtain rfl := Option.some.inj hb
        exact hd e (Array.mem_toList_iff.1 he) hbi
      · cases hb
    have := hst a w _ g (wpAny P .any ops Q fuel (listed.setIfInBounds i true)) hl0 hdone hS (base_of h base hbase) hdeps fun v w' g' hS' hTT hR => ih _ _ _ g' (by simpa using hsz) (by
        rw [Array.toList_setIfInBounds]; omega) (by rw [updG_listed listed i (by omega)]; exact hS')
      ⟨trivial, by cases o.dst <;> simp [Act.put, h.size], by cases hdo : o.dst <;> simp [Act.put, h.defers], fun t ht => by
        rw [← h.other t ht]
        have hne := List.all_eq_true.1 ht o (by rw [Array.mem_toList_iff]; exact Array.mem_of_getElem? ho)
        cases hdo : o.dst with
        | none => rfl
        | some d =>
          have : d ≠ t := fun e => by subst e; simp [hdo] at hne
          simp [Act.put, Array.getElem?_setIfInBounds_ne this], fun j hj => by
        by_cases hij : i = j
        · subst hij
          rw [left_put_same hpl ho a h.size]; exact hR
        · rw [left_put_other hpl ho hij]
          refine hT j g w g' w' _ hTT (h.got j ?_)
          rwa [getD_set_ne false hij] at hj⟩
    unfold wpOp
    simp only [ho]
    split
    · rename_i hw; rw [if_pos hw] at this; exact .inl this
    · rename_i hw; rw [if_neg hw] at this; exact this
/-- **A region that draws its order, and makes variables.** -/
theorem wp_region_relG {id : Nat} {a0 : Act} {w0 : World} (S : (Nat → Bool) → γ → World → Prop) (T : γ → World → γ → World → Prop) (R : γ → Nat → World → Value → Prop) (base : List (Nat × Value)) (hm : P.follows .mixedOrders = true)
    (hlex : lexB ops = true) (hpl : placesB ops a0.tmps.size = true) (hbase : BaseOk ops a0 base) (g0 : γ) (hS : S (fun _ => false) g0 w0.drew) (hT : ∀ i g w g' w' v, T g w g' w' → R g i w v → R g' i w' v)
    (hsteps : StepsFrom (StepOkG P ops Q S T R base) 0 ops.toList)
    (hfin : ∀ a w L g, S L g w → (∀ i, i < ops.size → L i = true) → a = pin a ops.toList a0 → Deps ops (R g) a w (List.range ops.size) → Q .normal a w) :
    (Code.region id ops true).wp P Q a0 w0 :=
  wp_region_any hm (wpAny_relG hlex hpl hbase hT hsteps hfin ops.size _ a0 _ g0 (by simp) (by
    rw [Array.toList_replicate, List.filter_replicate]; simp) (by
      have : (fun j => (Array.replicate ops.size false).getD j false) = fun _ => false := by
        funext j
        by_cases hlt : j < ops.size
        · simp [Array.getD_eq_getD_getElem?, hlt]
        · simp [Array.getD_eq_getD_getElem?, hlt]
      rw [this]; exact hS) ⟨trivial, rfl, rfl, fun _ _ => rfl, fun i hi => by
      by_cases hlt : i < ops.size
      · simp [Array.getD_eq_getD_getElem?, hlt] at hi
      · simp [Array.getD_eq_getD_getElem?, hlt] at hi⟩)
end
end Go.Proofs.Ytmaeofhgbelciaa
