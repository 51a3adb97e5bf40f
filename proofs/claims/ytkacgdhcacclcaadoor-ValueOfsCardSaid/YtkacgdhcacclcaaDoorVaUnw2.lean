/-
  The value of a kind's bytes: Unwire itself.
-/
import Derived.Test.YtkacgdhcacclcaaDoorVaUnwire
import Derived.Deep.RegionWith
namespace Go.Proofs.YtkacgdhcacclcaaDoor
open Go.RowKit
set_option maxRecDepth 100000
set_option maxRecDepth 100000
set_option linter.unusedVariables false
def unwN (k : Int) (l : List UInt8) : Int := if k = 1 ∨ k = 5 then signedQ l else if k = 2 then ((l.getD 0 0).toNat : Int) else 0
def unwS (k : Int) (l : List UInt8) : ByteArray := if k = 3 then ⟨l.toArray⟩ else ⟨#[]⟩
def unwL (k : Int) (l : List UInt8) : List UInt8 := if k = 4 then l else []
def unwO (k : Int) (l : List UInt8) : Int := if k = 6 then getQ 0 (l.take 2) else 0
def unwI (k : Int) (l : List UInt8) : Int := if k = 6 then getQ 0 (l.drop 2) else 0
theorem unwE_in (k : Int) (l : List UInt8) : unwE k l = 0 ∨ unwE k l = 2 ∨ unwE k l = 20 ∨ unwE k l = 70 := by unfold unwE; (repeat' split) <;> simp
set_option maxHeartbeats 8000000 in
theorem unwire_f (k : Int) (A : Option Addr) (m c : Nat) (l : List UInt8) (w : World) (B : Nat) (hbs : Bs w B A m l) (hB : B ≤ w.heap.size) (hm : m ≤ 1000000) (hc : m ≤ c) (hT : Tabs w) :
    Calls Tryd.prog 46 #[.int .i64 k, .slice A m c] w (OfRet k (unwN k l) (unwS k l) (unwL k l) (unwO k l) (unwI k l) (unwE k l) w) := by
  have hl := hbs.len
  have cC := check_f k A m c l w B hbs hm hT
  have hEin := unwE_in k l
  by_cases he : unwE k l = 0
  · have hE := he
    rw [he] at cC ⊢
    clear hT hEin he
    unfold unwE at hE
    have kC := fun W (hb : Below w.heap.size w W) => clone_f A m c l W B (hbs.below' hb hB) (by have := hb.size; omega) (by omega)
    have kB := fun W (hb : Below w.heap.size w W) => hbs.below' hb hB
    by_cases k1 : k = 1
    · subst k1
      rw [if_pos (.inl rfl)] at hE
      have hp : 0 < m := by
        by_cases hp : 0 < m
        · exact hp
        · exfalso
          rw [if_neg (by unfold widthB; rw [decide_eq_false (by omega)]; decide)] at hE
          cases hE
      have cS := fun W (hb : Below w.heap.size w W) => signed_f A m c l W B (kB W hb) hp hm
      rw [show unwN 1 l = signedQ l from if_pos (.inl rfl), show unwS 1 l = ⟨#[]⟩ from if_neg (by decide), show unwL 1 l = [] from if_neg (by decide), show unwO 1 l = 0 from if_neg (by decide), show unwI 1 l = 0 from if_neg (by decide)]
      generalize signedQ l = R at *
      clear hE hbs kB kC hl hp
      go_enter Tryd.func46, Tryd.ntmps46
      go_wp2_with fail
      refine cC.mono ?_
      rintro e w1 ⟨rfl, hb⟩
      have cS1 := cS w1 hb
      clear cS
      go_wp2_with (go_at_call 72; refine cS1.mono ?_; rintro e w' ⟨rfl, rfl⟩)
      go_ret2
      exact OfRet.ok (.num R) ⟨rfl, rfl, rfl, rfl, rfl, Nat.le_refl _, (fun ad e => by cases e), Bs.empty _ _ _⟩ hb
    by_cases k5 : k = 5
    · subst k5
      rw [if_pos (.inr rfl)] at hE
      have hp : 0 < m := by
        by_cases hp : 0 < m
        · exact hp
        · exfalso
          rw [if_neg (by unfold widthB; rw [decide_eq_false (by omega)]; decide)] at hE
          cases hE
      have cS := fun W (hb : Below w.heap.size w W) => signed_f A m c l W B (kB W hb) hp hm
      rw [show unwN 5 l = signedQ l from if_pos (.inr rfl), show unwS 5 l = ⟨#[]⟩ from if_neg (by decide), show unwL 5 l = [] from if_neg (by decide), show unwO 5 l = 0 from if_neg (by decide), show unwI 5 l = 0 from if_neg (by decide)]
      generalize signedQ l = R at *
      clear hE hbs kB kC hl hp k1
      go_enter Tryd.func46, Tryd.ntmps46
      go_wp2_with fail
      refine cC.mono ?_
      rintro e w1 ⟨rfl, hb⟩
      have cS1 := cS w1 hb
      clear cS
      go_wp2_with (go_at_call 72; refine cS1.mono ?_; rintro e w' ⟨rfl, rfl⟩)
      go_ret2
      exact OfRet.ok (.time R) ⟨rfl, rfl, rfl, rfl, rfl, Nat.le_refl _, (fun ad e => by cases e), Bs.empty _ _ _⟩ hb
    rw [if_neg (by omega)] at hE
    by_cases k2 : k = 2
    · subst k2
      rw [if_pos rfl] at hE
      have hh : l.length = 1 ∧ (l.getD 0 0).toNat ≤ 1 := by
        by_cases h : l.length = 1 ∧ (l.getD 0 0).toNat ≤ 1
        · exact h
        · rw [if_neg h] at hE; cases hE
      obtain rfl : m = 1 := by omega
      have hpl := hbs.place (by omega)
      obtain ⟨b, off, rfl, hb, hcc⟩ := hpl
      obtain ⟨u, hu⟩ := byte_get (l := l) (k := 0) (by omega)
      have hD : l.getD 0 0 = u := by rw [List.getD_eq_getElem?_getD, hu]; rfl
      rw [hD] at hh
      rw [show unwN 2 l = ((l.getD 0 0).toNat : Int) from (if_neg (by decide)).trans (if_pos rfl), hD, show unwS 2 l = ⟨#[]⟩ from if_neg (by decide), show unwL 2 l = [] from if_neg (by decide), show unwO 2 l = 0 from if_neg (by decide), show unwI 2 l = 0 from if_neg (by decide)]
      have h0 := hcc 0 u hu
      rw [Nat.add_zero] at h0
      have hcell := fun W (hbw : Below w.heap.size w W) => (hbw.cell (p := ⟨b, off, none⟩) (Nat.lt_of_lt_of_le hb hB)).trans h0
      rcases (by omega : u.toNat = 0 ∨ u.toNat = 1) with hu0 | hu1
      · have hz : ((u.toNat : Int) == 1) = false := beq_eq_false_iff_ne.2 (by omega)
        have HU := Lib.hid hu0
        clear hE hh hbs kB kC hl hD hu hcc h0 hu0 k1 k5
        go_enter Tryd.func46, Tryd.ntmps46
        go_wp2_with fail
        refine cC.mono ?_
        rintro e w1 ⟨rfl, hb1⟩
        have hce := hcell w1 hb1
        clear hcell
        go_wp2
        go_ret2
        exact OfRet.ok (.bool false) ⟨rfl, by rw [HU.out]; rfl, rfl, rfl, rfl, Nat.le_refl _, (fun ad e => by cases e), Bs.empty _ _ _⟩ hb1
      · have hz : ((u.toNat : Int) == 1) = true := beq_iff_eq.2 (by omega)
        have HU := Lib.hid hu1
        clear hE hh hbs kB kC hl hD hu hcc h0 hu1 k1 k5
        go_enter Tryd.func46, Tryd.ntmps46
        go_wp2_with fail
        refine cC.mono ?_
        rintro e w1 ⟨rfl, hb1⟩
        have hce := hcell w1 hb1
        clear hcell
        go_wp2
        go_ret2
        exact OfRet.ok (.bool true) ⟨rfl, by rw [HU.out]; rfl, rfl, rfl, rfl, Nat.le_refl _, (fun ad e => by cases e), Bs.empty _ _ _⟩ hb1
    rw [if_neg k2] at hE
    by_cases k3 : k = 3
    · subst k3
      rw [show unwN 3 l = 0 from (if_neg (by decide)).trans (if_neg (by decide)), show unwS 3 l = ⟨l.toArray⟩ from if_pos rfl, show unwL 3 l = [] from if_neg (by decide), show unwO 3 l = 0 from if_neg (by decide), show unwI 3 l = 0 from if_neg (by decide)]
      have hcv := fun W (hb : Below w.heap.size w W) => run_string_bs (P := Tryd.prog) (kB W hb) 22 82 5 c Tryd.underlying22 Tryd.underlying5 Tryd.underlying82
      generalize (⟨l.toArray⟩ : ByteArray) = s at *
      clear hE hbs kB kC hl k1 k5 k2
      go_enter Tryd.func46, Tryd.ntmps46
      go_wp2_with fail
      refine cC.mono ?_
      rintro e w1 ⟨rfl, hb1⟩
      have hce := hcv w1 hb1
      clear hcv
      go_wp2
      go_ret2
      exact OfRet.ok (.text s) ⟨rfl, rfl, rfl, rfl, rfl, Nat.le_refl _, (fun ad e => by cases e), Bs.empty _ _ _⟩ hb1
    rw [if_neg k3] at hE
    by_cases k4 : k = 4
    · subst k4
      rw [show unwN 4 l = 0 from (if_neg (by decide)).trans (if_neg (by decide)), show unwS 4 l = ⟨#[]⟩ from if_neg (by decide), show unwL 4 l = l from if_pos rfl, show unwO 4 l = 0 from if_neg (by decide), show unwI 4 l = 0 from if_neg (by decide)]
      clear hE hbs kB k1 k5 k2 k3
      go_enter Tryd.func46, Tryd.ntmps46
      go_wp2_with fail
      refine cC.mono ?_
      rintro e w1 ⟨rfl, hb1⟩
      have kC1 := kC w1 hb1
      clear kC
      go_wp2_with fail
      refine kC1.mono ?_
      intro e w2 hr2
      obtain ⟨A2, c2, rfl, hc2, hf2, hbs2, hb2⟩ := hr2.fresh_
      rw [hl] at hc2 hbs2 ⊢
      have HH := Lib.hid (And.intro hc2 (And.intro hf2 (And.intro hbs2 hb2)))
      clear hr2 hc2 hf2 hbs2 hb2 hl
      go_wp2
      go_ret2
      have hsz := hb1.size
      exact OfRet.ok (.bytes A2 m c2) ⟨rfl, rfl, rfl, rfl, rfl, HH.out.1, (fun ad e => Nat.le_trans hsz (HH.out.2.1 ad e)), HH.out.2.2.1⟩ (hb1.trans (HH.out.2.2.2.mono hb1.size))
    rw [if_neg k4] at hE
    have k6 : k = 6 := by
      by_cases k6 : k = 6
      · exact k6
      · rw [if_neg k6] at hE; cases hE
    subst k6
    rw [if_pos rfl] at hE
    have h4 : m = 4 := by
      by_cases h : l.length = 4
      · omega
      · rw [if_neg h] at hE; cases hE
    subst h4
    rw [show unwN 6 l = 0 from (if_neg (by decide)).trans (if_neg (by decide)), show unwS 6 l = ⟨#[]⟩ from if_neg (by decide), show unwL 6 l = [] from if_neg (by decide), show unwO 6 l = getQ 0 (l.take 2) from if_pos rfl, show unwI 6 l = getQ 0 (l.drop 2) from if_pos rfl]
    obtain ⟨b, off, rfl, hb, hcc⟩ := hbs.place (by omega)
    have c1 : ¬ c = 2 := by omega
    have kG1 := fun W (hbw : Below w.heap.size w W) => get_f 0 (some ⟨b, off, none⟩) 2 c (l.take 2) W B ((kB W hbw).take_ 2 (by omega)) (by omega)
    have kG2 := fun W (hbw : Below w.heap.size w W) => get_f 0 (some ⟨b, off + 2, none⟩) 2 (c - 2) (l.drop 2) W B ((kB W hbw).drop_ 2) (by omega)
    obtain ⟨x1, hx1⟩ : ∃ x, getQ 0 (l.take 2) = x := ⟨_, rfl⟩
    obtain ⟨x2, hx2⟩ : ∃ x, getQ 0 (l.drop 2) = x := ⟨_, rfl⟩
    rw [hx1] at kG1 ⊢
    rw [hx2] at kG2 ⊢
    have hi : (if c = 2 then some (b, off) else some (b, off + 2)) = some (b, off + 2) := if_neg c1
    have hc4 : (4 : Int) ≤ c := by omega
    clear hE hbs kB kC hl k1 k5 k2 k3 k4 hx1 hx2 hcc
    go_enter Tryd.func46, Tryd.ntmps46
    go_wp2_with fail
    refine cC.mono ?_
    rintro e w1 ⟨rfl, hb1⟩
    have j1 := kG1 w1.drew hb1.drew
    have j2 := kG2 w1.drew hb1.drew
    clear kG1 kG2
    go_wp2_with fail
    go_region_with ((first | (go_at_call 73; refine J2.mono ?_; rintro e w' ⟨rfl, rfl⟩) | (go_at_call 73; refine j1.mono ?_; rintro e w' ⟨rfl, rfl⟩; have J2 := j2)))
    all_goals
      go_wp2
      go_ret2
      exact OfRet.ok (.link x1 x2) ⟨rfl, rfl, rfl, rfl, rfl, Nat.le_refl _, (fun ad e => by cases e), Bs.empty _ _ _⟩ hb1.drew
  · obtain ⟨R, hR⟩ : ∃ R, unwE k l = R := ⟨_, rfl⟩
    rw [hR] at cC he ⊢
    have hne : (R != 0) = true := bne_iff_ne.2 he
    have HE := Lib.hid he
    clear hR hEin hbs hT hl he
    go_enter Tryd.func46, Tryd.ntmps46
    go_wp2_with (go_at_call 71; refine cC.mono ?_; rintro e w1 ⟨rfl, hb⟩)
    go_ret2
    exact OfRet.err HE.out hb
end Go.Proofs.YtkacgdhcacclcaaDoor
