/-
  Numbers in a row; whether they are a path; the same numbers, the same bytes.
-/
import Derived.Test.YtmaeofhgbelciaaRowK
import Derived.Test.YtmaeofhgbelciaaCrcWalks
import Derived.Test.YtmaeofhgbelciaaRelGhost2
import Derived.Deep.LoopGhost
import Derived.Deep.QuietTactic
import Derived.BigQuiet
import Derived.WalkLawsBesides
namespace Go.Proofs.Ytmaeofhgbelciaa
open Go.RowKit
set_option maxRecDepth 100000
set_option maxRecDepth 100000
set_option linter.unusedVariables false
theorem str_list (l : List UInt8) : (⟨l.toArray⟩ : ByteArray).toList = l := by rw [ByteArray.toList_eq]
theorem str_beq (l1 l2 : List UInt8) : ((⟨l1.toArray⟩ : ByteArray).toList == (⟨l2.toArray⟩ : ByteArray).toList) = decide (l1 = l2) := by
  rw [str_list, str_list, Bool.eq_iff_iff, beq_iff_eq, decide_eq_true_eq]
theorem equal_any (A1 A2 : Option Addr) (n1 c1 n2 c2 : Nat) (l1 l2 : List UInt8) (w : World) (B1 B2 : Nat) (h1 : Bs w B1 A1 n1 l1) (h2 : Bs w B2 A2 n2 l2) :
    Calls Try.prog 56 #[.slice A1 n1 c1, .slice A2 n2 c2] w fun e w' => e = .returned (.bool (decide (l1 = l2))) ∧ w' = w := by
  have q1 := run_string_bs (P := Try.prog) h1 31 9 5 c1 Try.underlying31 Try.underlying5 Try.underlying9
  have q2 := run_string_bs (P := Try.prog) h2 31 9 5 c2 Try.underlying31 Try.underlying5 Try.underlying9
  rw [← str_beq]
  generalize (⟨l1.toArray⟩ : ByteArray) = s1 at *
  generalize (⟨l2.toArray⟩ : ByteArray) = s2 at *
  go_enter Try.func56, Try.ntmps56
  go_wp2
  go_ret
  exact ⟨rfl, rfl⟩
def inK : RowK Int 1 where
  vals z := [.int .i64 z]
  len _ := rfl
  one s u hu := by simp only [List.mem_cons, List.not_mem_nil, or_false] at hu; subst hu; rfl
  pos := by decide
theorem info_in : (Try.prog.info? 3).map (fun i => (i.zero, i.size, i.bytes)) = some (some (.int .i64 0), 1, 8) := by kernel_rfl
def FnR (g : Nat) : Prop := ∀ args w, (callFunc g args).run Try.prog w = .ok (.enter g args) w
def badN (z : Int) : Bool := decide (z < 0 ∨ 65535 < z)
def rightP (zs : List Int) : Bool := decide (zs.length ≤ 3) && !zs.any badN
theorem fn_right : FnR 47 := enters_of Try.func47 (by kernel_rfl) rfl
theorem right1_f (z : Int) (w : World) : Calls Try.prog 47 #[.int .i64 z] w fun e w' => e = .returned (.bool (badN z)) ∧ w' = w := by
  unfold badN
  by_cases h1 : z < 0
  · rw [decide_eq_true (.inl h1)]
    go_enter Try.func47, Try.ntmps47
    go_wp2
    go_ret
    exact ⟨rfl, rfl⟩
  · by_cases h2 : 65535 < z
    · rw [decide_eq_true (.inr h2)]
      go_enter Try.func47, Try.ntmps47
      go_wp2
      go_ret
      exact ⟨rfl, rfl⟩
    · rw [decide_eq_false (by omega)]
      go_enter Try.func47, Try.ntmps47
      go_wp2
      go_ret
      exact ⟨rfl, rfl⟩
/-- A row of numbers as they lie. -/
def badI (zs : List Int) : Int := match zs.findIdx? badN with | some i => (i : Int) | none => -1
theorem badI_hit {zs : List Int} {k : Nat} {z : Int} (h : ∀ (j : Nat) t, j < k → zs[j]? = some t → badN t = false) (hz : zs[k]? = some z) (hb : badN z = true) : badI zs = k := by
  have : zs.findIdx? badN = some k := by
    rw [List.findIdx?_eq_some_iff_getElem]
    obtain ⟨hk, e⟩ := List.getElem?_eq_some_iff.1 hz
    refine ⟨hk, by rw [e]; exact hb, fun j hj => ?_⟩
    have h2 := h j _ hj (List.getElem?_eq_getElem (by omega))
    rw [h2]; decide
  unfold badI; rw [this]
theorem badI_miss {zs : List Int} (h : ∀ (j : Nat) t, zs[j]? = some t → badN t = false) : badI zs = -1 := by
  have : zs.findIdx? badN = none := by
    rw [List.findIdx?_eq_none_iff]
    intro x hx
    obtain ⟨j, hj⟩ := List.mem_iff_getElem?.1 hx
    exact h j x hj
  unfold badI; rw [this]
theorem badI_any (zs : List Int) : decide (0 ≤ badI zs) = zs.any badN := by
  unfold badI
  rcases h : zs.findIdx? badN with _ | i
  · rw [List.findIdx?_eq_none_iff] at h
    have : zs.any badN = false := by rw [List.any_eq_false]; intro x hx; rw [h x hx]; decide
    rw [this]; rfl
  · rw [List.findIdx?_eq_some_iff_getElem] at h
    obtain ⟨hi, hb, _⟩ := h
    have : zs.any badN = true := List.any_eq_true.2 ⟨_, List.getElem_mem hi, hb⟩
    rw [this]; show decide ((0 : Int) ≤ (i : Int)) = true; exact decide_eq_true (by omega)
set_option maxHeartbeats 2000000 in
theorem idxint_f (A : Option Addr) (n c : Nat) (zs : List Int) (w : World) (B : Nat) (hat : inK.At w B A n zs) (hB : B ≤ w.heap.size) (hn : n ≤ 1000000) :
    Calls Try.prog 58 #[.slice A n c, .func (.func 47) #[] #[]] w fun e w' => e = .returned (.int .i64 (badI zs)) ∧ Below w.heap.size w w' := by
  have hnI : (n : Int) ≤ 1000000 := by omega
  obtain ⟨R, hR⟩ : ∃ R, badI zs = R := ⟨_, rfl⟩
  rw [hR]
  have HA := Lib.hid (And.intro hat (And.intro hR hat.len))
  clear hat hR
  go_enter Try.func58, Try.ntmps58
  go_wp2
  go_loopw [5, 8] (fun _ s8 wr => ∃ k : Nat, k ≤ n ∧ s8 = .int .i64 (k : Int) ∧ Aside (Below w.heap.size w wr ∧ ∀ (j : Nat) t, j < k → zs[j]? = some t → badN t = false)) (fun _ s8 _ => n - (intOf s8).toNat)
  case atStart => exact ⟨0, Nat.zero_le _, rfl, (show Aside _ from ⟨Below.refl _ _, fun j t h => absurd h (by omega)⟩)⟩
  case round =>
    obtain ⟨k, hk, rfl, hrel⟩ := hrel
    by_cases hlt : k < n
    · have hltI : (k : Int) < n := by omega
      have hsr := HA.out.1.below' hrel.out.1 hB
      obtain ⟨b, off, rfl, hbb, _⟩ := hsr.place (by omega)
      obtain ⟨z, hz⟩ := hsr.get hlt
      have hcell := hsr.range hz 0 _ rfl
      rw [Nat.mul_one, Nat.add_zero] at hcell
      have hcall : ∀ W, Calls Try.prog 47 #[.int .i64 z] W fun e w' => e = .returned (.bool (badN z)) ∧ Below W.heap.size W w' := fun W => (right1_f z W).mono fun e w' h => ⟨h.1, by rw [h.2]; exact Below.refl _ _⟩
      obtain ⟨q, hq⟩ : ∃ q, badN z = q := ⟨_, rfl⟩
      rw [hq] at hcall
      have HX := Lib.hid (And.intro hcall (And.intro hrel.out (And.intro hz hq)))
      clear hsr hz hcall hq hrel
      cases q with
      | true =>
        have hr : R = (k : Int) := by rw [← HA.out.2.1]; exact badI_hit HX.out.2.1.2 HX.out.2.2.1 HX.out.2.2.2
        subst hr
        go_wp2_with fail
        refine (HX.out.1 _).mono ?_
        rintro e w2 ⟨rfl, b2⟩
        go_wp2
        go_ret
        exact ⟨rfl, HX.out.2.1.1.trans (b2.mono HX.out.2.1.1.size)⟩
      | false =>
        go_wp2_with fail
        refine (HX.out.1 _).mono ?_
        rintro e w2 ⟨rfl, b2⟩
        go_wp2
        go_roundw
        case rel =>
          refine ⟨k + 1, by omega, by go_num, (show Aside _ from ⟨HX.out.2.1.1.trans (b2.mono HX.out.2.1.1.size), fun j t hj ht => ?_⟩)⟩
          by_cases e : j = k
          · subst e
            have e2 := HX.out.2.2.1
            rw [ht] at e2
            obtain rfl := Option.some.inj e2
            exact HX.out.2.2.2
          · exact HX.out.2.1.2 j t (by omega) ht
        case measure => simp [intOf]; omega
    · have hltI : ¬ (k : Int) < n := by omega
      have hr : R = -1 := by
        rw [← HA.out.2.1]
        exact badI_miss fun j t ht => hrel.out.2 j t (by have := (List.getElem?_eq_some_iff.1 ht).1; have := HA.out.2.2; omega) ht
      subst hr
      have HX := Lib.hid hrel.out.1
      clear hrel hlt
      go_wp2
      go_ret
      exact ⟨rfl, HX.out⟩
theorem contint_f (A : Option Addr) (n c : Nat) (zs : List Int) (w : World) (B : Nat) (hat : inK.At w B A n zs) (hB : B ≤ w.heap.size) (hn : n ≤ 1000000) :
    Calls Try.prog 46 #[.slice A n c, .func (.func 47) #[] #[]] w fun e w' => e = .returned (.bool (zs.any badN)) ∧ Below w.heap.size w w' := by
  have h := idxint_f A n c zs w B hat hB hn
  have ha := badI_any zs
  obtain ⟨R, hR⟩ : ∃ R, badI zs = R := ⟨_, rfl⟩
  obtain ⟨Q, hQ⟩ : ∃ Q, zs.any badN = Q := ⟨_, rfl⟩
  rw [hR] at h ha
  rw [hQ] at ha ⊢
  have HH := Lib.hid (And.intro h ha)
  clear h ha hR hQ hat
  by_cases h0 : 0 ≤ R
  · have hq : Q = true := by rw [← HH.out.2]; exact decide_eq_true h0
    subst hq
    have hd : decide (0 ≤ R) = true := decide_eq_true h0
    go_enter Try.func46, Try.ntmps46
    go_wp2_with fail
    refine HH.out.1.mono ?_
    rintro e w1 ⟨rfl, b1⟩
    go_wp2
    go_ret
    exact ⟨rfl, b1⟩
  · have hq : Q = false := by rw [← HH.out.2]; exact decide_eq_false h0
    subst hq
    have hd : decide (0 ≤ R) = false := decide_eq_false h0
    go_enter Try.func46, Try.ntmps46
    go_wp2_with fail
    refine HH.out.1.mono ?_
    rintro e w1 ⟨rfl, b1⟩
    go_wp2
    go_ret
    exact ⟨rfl, b1⟩
set_option maxHeartbeats 1000000 in
theorem pright_f (A : Option Addr) (n c : Nat) (zs : List Int) (w : World) (B : Nat) (hat : inK.At w B A n zs) (hB : B ≤ w.heap.size) :
    Calls Try.prog 32 #[.slice A n c] w fun e w' => e = .returned (.bool (rightP zs)) ∧ Below w.heap.size w w' := by
  have hl := hat.len
  unfold rightP
  rw [hl]
  by_cases h3 : n ≤ 3
  · have h3I : (n : Int) ≤ 3 := by omega
    have h := contint_f A n c zs w B hat hB (by omega)
    rw [decide_eq_true h3, Bool.true_and]
    obtain ⟨Q, hQ⟩ : ∃ Q, zs.any badN = Q := ⟨_, rfl⟩
    rw [hQ] at h ⊢
    have HH := Lib.hid h
    clear h hQ hl hat
    cases Q
    all_goals
      go_enter Try.func32, Try.ntmps32
      go_wp2_with fail
      refine HH.out.mono ?_
      rintro e w1 ⟨rfl, b1⟩
      go_wp2
      go_ret
      exact ⟨rfl, b1⟩
  · have h3I : ¬ (n : Int) ≤ 3 := by omega
    rw [decide_eq_false h3, Bool.false_and]
    clear hl hat
    go_enter Try.func32, Try.ntmps32
    go_wp2
    go_ret
    exact ⟨rfl, Below.refl _ _⟩
theorem right_in {zs : List Int} (h : rightP zs = true) : zs.length ≤ 3 ∧ ∀ z ∈ zs, 0 ≤ z ∧ z ≤ 65535 := by
  unfold rightP at h
  rw [Bool.and_eq_true] at h
  refine ⟨of_decide_eq_true h.1, fun z hz => ?_⟩
  have h2 : zs.any badN = false := by simpa using h.2
  have h3 := List.any_eq_false.1 h2 z hz
  have h4 : ¬ (z < 0 ∨ 65535 < z) := fun hh => h3 (decide_eq_true hh)
  omega
set_option maxHeartbeats 2000000 in
theorem rright16_f (A : Option Addr) (n c : Nat) (zs : List Int) (w : World) (B : Nat) (hat : inK.At w B A n zs) (hB : B ≤ w.heap.size) :
    Calls Try.prog 37 #[.slice A n c] w fun e w' => e = .returned (.bool (rightP zs)) ∧ w' = w := by
  have hl := hat.len
  obtain ⟨R, hR⟩ : ∃ R, rightP zs = R := ⟨_, rfl⟩
  rw [hR]
  unfold rightP at hR
  rw [hl] at hR
  by_cases h3 : 3 < n
  · have h3I : (3 : Int) < n := by omega
    rw [decide_eq_false (by omega), Bool.false_and] at hR
    subst hR
    clear hl hat
    go_enter Try.func37, Try.ntmps37
    go_wp2
    go_ret
    exact ⟨rfl, rfl⟩
  have h3I : ¬ (3 : Int) < n := by omega
  rw [decide_eq_true (by omega), Bool.true_and] at hR
  have HR := Lib.hid (And.intro hR (And.intro hat hl))
  clear hR hat hl
  go_enter Try.func37, Try.ntmps37
  go_wp2
  go_loop [3] (fun v3 => ∃ k : Nat, k ≤ n ∧ v3 = .int .i64 (k : Int) ∧ Aside (∀ (j : Nat) t, j < k → zs[j]? = some t → badN t = false)) (fun v3 => n - (intOf v3).toNat)
  case atStart => exact ⟨0, Nat.zero_le _, rfl, (show Aside _ from fun j t h => absurd h (by omega))⟩
  case round =>
    obtain ⟨k, hk, rfl, hrel⟩ := hrel
    by_cases hlt : k < n
    · have hltI : (k : Int) < n := by omega
      have hsr := HR.out.2.1
      obtain ⟨b, off, rfl, hbb, _⟩ := hsr.place (by omega)
      obtain ⟨z, hz⟩ := hsr.get hlt
      have hcell := hsr.range hz 0 _ rfl
      rw [Nat.mul_one, Nat.add_zero] at hcell
      have HX := Lib.hid (And.intro hrel.out hz)
      clear hrel hz hsr
      by_cases hz0 : z < 0
      · have hr : R = false := by
          rw [← HR.out.1, List.any_eq_true.2 ⟨z, List.mem_of_getElem? HX.out.2, decide_eq_true (.inl hz0)⟩]; rfl
        subst hr
        go_wp2
        go_ret
        exact ⟨rfl, rfl⟩
      by_cases hz1 : 65535 < z
      · have hr : R = false := by
          rw [← HR.out.1, List.any_eq_true.2 ⟨z, List.mem_of_getElem? HX.out.2, decide_eq_true (.inr hz1)⟩]; rfl
        subst hr
        go_wp2
        go_ret
        exact ⟨rfl, rfl⟩
      · go_wp2
        go_round
        case rel =>
          refine ⟨k + 1, by omega, by go_num, (show Aside _ from fun j t hj ht => ?_)⟩
          by_cases e : j = k
          · subst e
            have e2 := HX.out.2
            rw [ht] at e2
            obtain rfl := Option.some.inj e2
            exact decide_eq_false (by omega)
          · exact HX.out.1 j t (by omega) ht
        case measure => simp [intOf]; omega
    · have hltI : ¬ (k : Int) < n := by omega
      have hr : R = true := by
        rw [← HR.out.1]
        have : zs.any badN = false := by
          rw [List.any_eq_false]
          intro x hx
          obtain ⟨j, hj⟩ := List.mem_iff_getElem?.1 hx
          rw [hrel.out j x (by have := (List.getElem?_eq_some_iff.1 hj).1; have := HR.out.2.2; omega) hj]
          decide
        rw [this]; rfl
      subst hr
      clear hrel hlt
      go_wp2
      go_ret
      exact ⟨rfl, rfl⟩
set_option maxHeartbeats 2000000 in
theorem sameints_f (A1 A2 : Option Addr) (n1 c1 n2 c2 : Nat) (l1 l2 : List Int) (w : World) (B1 B2 : Nat) (h1 : inK.At w B1 A1 n1 l1) (h2 : inK.At w B2 A2 n2 l2) (hn : n1 ≤ 1000000) (hn2 : n2 ≤ 1000000) :
    Calls Try.prog 39 #[.slice A1 n1 c1, .slice A2 n2 c2] w fun e w' => e = .returned (.bool (decide (l1 = l2))) ∧ ∃ m, w' = w.drewN m := by
  have hl1 := Lib.hid h1.len
  have hl2 := Lib.hid h2.len
  have hnI : (n1 : Int) ≤ 1000000 := by omega
  have hnJ : (n2 : Int) ≤ 1000000 := by omega
  by_cases hne : n1 = n2
  · obtain rfl := hne
    have hb : ((n1 : Int) != (n1 : Int)) = false := by simp
    go_enter Try.func39, Try.ntmps39
    go_wp2
    go_loopw [5] (fun i wr => ∃ k : Nat, k ≤ n1 ∧ i = .int .i64 k ∧ Aside (l1.take k = l2.take k ∧ ∃ m, wr = w.drewN m)) (fun i _ => n1 - (intOf i).toNat)
    case atStart => exact ⟨0, by omega, rfl, (show Aside _ from ⟨rfl, 0, rfl⟩)⟩
    case round =>
      obtain ⟨k, hk, rfl, hrel⟩ := hrel
      obtain ⟨htk, q, rfl⟩ := hrel.out
      have Htk := Lib.hid htk; clear htk hrel
      by_cases hlt : k < n1
      · have hltI : (k : Int) < n1 := by omega
        obtain ⟨b1, o1, rfl, hb1, hc1⟩ := h1.place (by omega)
        obtain ⟨b2, o2, rfl, hb2, hc2⟩ := h2.place (by omega)
        obtain ⟨u1, hu1⟩ := h1.get hlt
        obtain ⟨u2, hu2⟩ := h2.get hlt
        have hk1 : w.cell? ⟨b1, o1 + k, none⟩ = some (.int .i64 u1) := by have := hc1 k u1 hu1 0 _ rfl; rwa [Nat.mul_one, Nat.add_zero] at this
        have hk2 : w.cell? ⟨b2, o2 + k, none⟩ = some (.int .i64 u2) := by have := hc2 k u2 hu2 0 _ rfl; rwa [Nat.mul_one, Nat.add_zero] at this
        clear hc1 hc2
        by_cases hu : u1 = u2
        · subst hu
          have huu : (u1 != u1) = false := by simp
          have huv : (u1 == u1) = true := beq_self_eq_true _
          have Hu := Lib.hid (And.intro hu1 hu2)
          clear hu1 hu2
          go_wp2
          go_quiet (fail)
          go_wp2
          go_roundw
          case rel => exact ⟨k + 1, by omega, by go_num, (show Aside _ from ⟨by rw [List.take_add_one, List.take_add_one, Htk.out, Hu.out.1, Hu.out.2], _, rfl⟩)⟩
          case measure => simp [intOf]; omega
        · have huu : (u1 != u2) = true := bne_iff_ne.2 hu
          have huv : (u1 == u2) = false := beq_eq_false_iff_ne.2 hu
          have Hd : Hid (l1 ≠ l2) := by
            intro e; subst e; rw [hu1] at hu2; exact hu (Option.some.inj hu2)
          clear hu1 hu2
          go_wp2
          go_quiet (fail)
          go_wp2
          go_ret
          exact ⟨retB (decide_eq_false Hd.out).symm, q + nq, World.drewN_drewN ..⟩
      · have hltI : ¬ (k : Int) < n1 := by omega
        go_wp2
        go_ret
        refine ⟨retB (decide_eq_true ?_).symm, _, rfl⟩
        have h3 := Htk.out
        rwa [List.take_of_length_le (by rw [hl1.out]; omega), List.take_of_length_le (by rw [hl2.out]; omega)] at h3
  · have hb : ((n1 : Int) != (n2 : Int)) = true := by rw [bne_iff_ne]; omega
    have hbn : ¬ (n1 : Int) = (n2 : Int) := by omega
    have Hd : Hid (l1 ≠ l2) := by intro e; subst e; exact hne (hl1.out.symm.trans hl2.out)
    clear hne
    go_enter Try.func39, Try.ntmps39
    go_wp2
    go_ret
    exact ⟨retB (decide_eq_false Hd.out).symm, 0, rfl⟩
end Go.Proofs.Ytmaeofhgbelciaa
