/-
  Whether numbers are a path, and a path as text.
-/
/-
  strings.SplitN at a sign and three pieces.
-/
/-
  The path of a text, and of a message.
-/
import Derived.Test.YtbclgalocipmfaaDoorPaCond
import Derived.Test.YtbclgalocipmfaaDoorPlWrite
import Derived.Test.YtbclgalocipmfaaDoorPlNumPure
import Derived.WalkLawsBesides
namespace Go.Proofs.YtbclgalocipmfaaDoor
open Go.RowKit
set_option maxRecDepth 100000
set_option maxRecDepth 100000
set_option linter.unusedVariables false
def badN (z : Int) : Bool := decide (z < 0 ∨ 65535 < z)
def rightP (zs : List Int) : Bool := decide (zs.length ≤ 3) && !zs.any badN
def textQ (zs : List Int) : List UInt8 := zs.flatMap fun z => 47 :: Lib.itoa z
def textP (zs : List Int) : List UInt8 := if rightP zs = true then (if zs.length = 0 then [47] else textQ zs) else []
theorem fn_right : FnR 51 := enters_of Tryd.func51 (by kernel_rfl) rfl
theorem right1_f (z : Int) (w : World) : Calls Tryd.prog 51 #[.int .i64 z] w fun e w' => e = .returned (.bool (badN z)) ∧ w' = w := by
  unfold badN
  by_cases h1 : z < 0
  · rw [decide_eq_true (.inl h1)]
    go_enter Tryd.func51, Tryd.ntmps51
    go_wp2
    go_ret
    exact ⟨rfl, rfl⟩
  · by_cases h2 : 65535 < z
    · rw [decide_eq_true (.inr h2)]
      go_enter Tryd.func51, Tryd.ntmps51
      go_wp2
      go_ret
      exact ⟨rfl, rfl⟩
    · rw [decide_eq_false (by omega)]
      go_enter Tryd.func51, Tryd.ntmps51
      go_wp2
      go_ret
      exact ⟨rfl, rfl⟩
/-- A row of numbers as they lie. -/
def badI (zs : List Int) : Int := match zs.findIdx? badN with | some i => (i : Int) | none => -1
theorem badI_hit {zs : List Int} {k : Nat} {z : Int} (h : ∀ (j : Nat) t, j < k → zs[j]? = some t → badN t = false) (hz : zs[k]? = some z) (hb : badN z = true) : badI zs = k := by
  have : zs.findIdx? badN = some k := by
    rw [List.findIdx?_eq_some_iff_getElem]
    obtain ⟨hk, e⟩ := List.getElem?_eq_some_iff.1 hz
    refine ⟨hk, by rw [e]; exact hb, fun j hj => ?_⟩
    have h2 := h j _ hj (List.getElem?_eq_getElem (by omega))
    rw [h2]; decide
  unfold badI; rw [this]
theorem badI_miss {zs : List Int} (h : ∀ (j : Nat) t, zs[j]? = some t → badN t = false) : badI zs = -1 := by
  have : zs.findIdx? badN = none := by
    rw [List.findIdx?_eq_none_iff]
    intro x hx
    obtain ⟨j, hj⟩ := List.mem_iff_getElem?.1 hx
    exact h j x hj
  unfold badI; rw [this]
theorem badI_any (zs : List Int) : decide (0 ≤ badI zs) = zs.any badN := by
  unfold badI
  rcases h : zs.findIdx? badN with _ | i
  · rw [List.findIdx?_eq_none_iff] at h
    have : zs.any badN = false := by rw [List.any_eq_false]; intro x hx; rw [h x hx]; decide
    rw [this]; rfl
  · rw [List.findIdx?_eq_some_iff_getElem] at h
    obtain ⟨hi, hb, _⟩ := h
    have : zs.any badN = true := List.any_eq_true.2 ⟨_, List.getElem_mem hi, hb⟩
    rw [this]; show decide ((0 : Int) ≤ (i : Int)) = true; exact decide_eq_true (by omega)
set_option maxHeartbeats 2000000 in
theorem idxint_f (A : Option Addr) (n c : Nat) (zs : List Int) (w : World) (B : Nat) (hat : inK.At w B A n zs) (hB : B ≤ w.heap.size) (hn : n ≤ 1000000) :
    Calls Tryd.prog 78 #[.slice A n c, .func (.func 51) #[] #[]] w fun e w' => e = .returned (.int .i64 (badI zs)) ∧ Below w.heap.size w w' := by
  have hnI : (n : Int) ≤ 1000000 := by omega
  obtain ⟨R, hR⟩ : ∃ R, badI zs = R := ⟨_, rfl⟩
  rw [hR]
  have HA := Lib.hid (And.intro hat (And.intro hR hat.len))
  clear hat hR
  go_enter Tryd.func78, Tryd.ntmps78
  go_wp2
  go_loopw [5, 8] (fun _ s8 wr => ∃ k : Nat, k ≤ n ∧ s8 = .int .i64 (k : Int) ∧ Aside (Below w.heap.size w wr ∧ ∀ (j : Nat) t, j < k → zs[j]? = some t → badN t = false)) (fun _ s8 _ => n - (intOf s8).toNat)
  case atStart => exact ⟨0, Nat.zero_le _, rfl, (show Aside _ from ⟨Below.refl _ _, fun j t h => absurd h (by omega)⟩)⟩
  case round =>
    obtain ⟨k, hk, rfl, hrel⟩ := hrel
    by_cases hlt : k < n
    · have hltI : (k : Int) < n := by omega
      have hsr := HA.out.1.below' hrel.out.1 hB
      obtain ⟨b, off, rfl, hbb, _⟩ := hsr.place (by omega)
      obtain ⟨z, hz⟩ := hsr.get hlt
      have hcell := hsr.range hz 0 _ rfl
      rw [Nat.mul_one, Nat.add_zero] at hcell
      have hcall : ∀ W, Calls Tryd.prog 51 #[.int .i64 z] W fun e w' => e = .returned (.bool (badN z)) ∧ Below W.heap.size W w' := fun W => (right1_f z W).mono fun e w' h => ⟨h.1, by rw [h.2]; exact Below.refl _ _⟩
      obtain ⟨q, hq⟩ : ∃ q, badN z = q := ⟨_, rfl⟩
      rw [hq] at hcall
      have HX := Lib.hid (And.intro hcall (And.intro hrel.out (And.intro hz hq)))
      clear hsr hz hcall hq hrel
      cases q with
      | true =>
        have hr : R = (k : Int) := by rw [← HA.out.2.1]; exact badI_hit HX.out.2.1.2 HX.out.2.2.1 HX.out.2.2.2
        subst hr
        go_wp2_with fail
        refine (HX.out.1 _).mono ?_
        rintro e w2 ⟨rfl, b2⟩
        go_wp2
        go_ret
        exact ⟨rfl, HX.out.2.1.1.trans (b2.mono HX.out.2.1.1.size)⟩
      | false =>
        go_wp2_with fail
        refine (HX.out.1 _).mono ?_
        rintro e w2 ⟨rfl, b2⟩
        go_wp2
        go_roundw
        case rel =>
          refine ⟨k + 1, by omega, by go_num, (show Aside _ from ⟨HX.out.2.1.1.trans (b2.mono HX.out.2.1.1.size), fun j t hj ht => ?_⟩)⟩
          by_cases e : j = k
          · subst e
            have e2 := HX.out.2.2.1
            rw [ht] at e2
            obtain rfl := Option.some.inj e2
            exact HX.out.2.2.2
          · exact HX.out.2.1.2 j t (by omega) ht
        case measure => simp [intOf]; omega
    · have hltI : ¬ (k : Int) < n := by omega
      have hr : R = -1 := by
        rw [← HA.out.2.1]
        exact badI_miss fun j t ht => hrel.out.2 j t (by have := (List.getElem?_eq_some_iff.1 ht).1; have := HA.out.2.2; omega) ht
      subst hr
      have HX := Lib.hid hrel.out.1
      clear hrel hlt
      go_wp2
      go_ret
      exact ⟨rfl, HX.out⟩
theorem contint_f (A : Option Addr) (n c : Nat) (zs : List Int) (w : World) (B : Nat) (hat : inK.At w B A n zs) (hB : B ≤ w.heap.size) (hn : n ≤ 1000000) :
    Calls Tryd.prog 50 #[.slice A n c, .func (.func 51) #[] #[]] w fun e w' => e = .returned (.bool (zs.any badN)) ∧ Below w.heap.size w w' := by
  have h := idxint_f A n c zs w B hat hB hn
  have ha := badI_any zs
  obtain ⟨R, hR⟩ : ∃ R, badI zs = R := ⟨_, rfl⟩
  obtain ⟨Q, hQ⟩ : ∃ Q, zs.any badN = Q := ⟨_, rfl⟩
  rw [hR] at h ha
  rw [hQ] at ha ⊢
  have HH := Lib.hid (And.intro h ha)
  clear h ha hR hQ hat
  by_cases h0 : 0 ≤ R
  · have hq : Q = true := by rw [← HH.out.2]; exact decide_eq_true h0
    subst hq
    have hd : decide (0 ≤ R) = true := decide_eq_true h0
    go_enter Tryd.func50, Tryd.ntmps50
    go_wp2_with fail
    refine HH.out.1.mono ?_
    rintro e w1 ⟨rfl, b1⟩
    go_wp2
    go_ret
    exact ⟨rfl, b1⟩
  · have hq : Q = false := by rw [← HH.out.2]; exact decide_eq_false h0
    subst hq
    have hd : decide (0 ≤ R) = false := decide_eq_false h0
    go_enter Tryd.func50, Tryd.ntmps50
    go_wp2_with fail
    refine HH.out.1.mono ?_
    rintro e w1 ⟨rfl, b1⟩
    go_wp2
    go_ret
    exact ⟨rfl, b1⟩
set_option maxHeartbeats 1000000 in
theorem pright_f (A : Option Addr) (n c : Nat) (zs : List Int) (w : World) (B : Nat) (hat : inK.At w B A n zs) (hB : B ≤ w.heap.size) :
    Calls Tryd.prog 15 #[.slice A n c] w fun e w' => e = .returned (.bool (rightP zs)) ∧ Below w.heap.size w w' := by
  have hl := hat.len
  unfold rightP
  rw [hl]
  by_cases h3 : n ≤ 3
  · have h3I : (n : Int) ≤ 3 := by omega
    have h := contint_f A n c zs w B hat hB (by omega)
    rw [decide_eq_true h3, Bool.true_and]
    obtain ⟨Q, hQ⟩ : ∃ Q, zs.any badN = Q := ⟨_, rfl⟩
    rw [hQ] at h ⊢
    have HH := Lib.hid h
    clear h hQ hl hat
    cases Q
    all_goals
      go_enter Tryd.func15, Tryd.ntmps15
      go_wp2_with fail
      refine HH.out.mono ?_
      rintro e w1 ⟨rfl, b1⟩
      go_wp2
      go_ret
      exact ⟨rfl, b1⟩
  · have h3I : ¬ (n : Int) ≤ 3 := by omega
    rw [decide_eq_false h3, Bool.false_and]
    clear hl hat
    go_enter Tryd.func15, Tryd.ntmps15
    go_wp2
    go_ret
    exact ⟨rfl, Below.refl _ _⟩
theorem textQ_take {zs : List Int} {k : Nat} {z : Int} (h : zs[k]? = some z) : textQ (zs.take (k + 1)) = textQ (zs.take k) ++ 47 :: Lib.itoa z := by
  unfold textQ
  rw [List.take_add_one, h, List.flatMap_append]
  show _ ++ (47 :: Lib.itoa z ++ []) = _
  rw [List.append_nil]
theorem right_in {zs : List Int} (h : rightP zs = true) : zs.length ≤ 3 ∧ ∀ z ∈ zs, 0 ≤ z ∧ z ≤ 65535 := by
  unfold rightP at h
  rw [Bool.and_eq_true] at h
  refine ⟨of_decide_eq_true h.1, fun z hz => ?_⟩
  have h2 : zs.any badN = false := by simpa using h.2
  have h3 := List.any_eq_false.1 h2 z hz
  have h4 : ¬ (z < 0 ∨ 65535 < z) := fun hh => h3 (decide_eq_true hh)
  omega
set_option maxHeartbeats 4000000 in
theorem ptext_f (A : Option Addr) (n c : Nat) (zs : List Int) (w : World) (B : Nat) (hat : inK.At w B A n zs) (hB : B ≤ w.heap.size) (hD : TabD w) :
    Calls Tryd.prog 17 #[.slice A n c] w fun e w' => e = .returned (.string ⟨(textP zs).toArray⟩) ∧ Below w.heap.size w w' := by
  have hl := hat.len
  have hR := pright_f A n c zs w B hat hB
  obtain ⟨RT, hRT⟩ : ∃ RT, textP zs = RT := ⟨_, rfl⟩
  rw [hRT]
  unfold textP at hRT
  rw [hl] at hRT
  rcases hq : rightP zs with _ | _
  · rw [hq] at hR
    rw [hq, if_neg (by decide)] at hRT
    subst hRT
    have HH := Lib.hid hR
    clear hR hl hat hq hD
    go_enter Tryd.func17, Tryd.ntmps17
    go_wp2_with fail
    refine HH.out.mono ?_
    rintro e w1 ⟨rfl, b1⟩
    go_wp2
    go_ret
    exact ⟨rfl, b1⟩
  rw [hq, if_pos rfl] at hRT
  rw [hq] at hR
  obtain ⟨h3, hin⟩ := right_in hq
  by_cases hn0 : n = 0
  · rw [if_pos hn0] at hRT
    subst hRT
    have hnI : (n : Int) = 0 := by omega
    have hnJ : ((n : Int) == 0) = true := beq_iff_eq.2 hnI
    subst hn0
    have HH := Lib.hid hR
    clear hR hl hat hq hin h3 hD hnI hnJ
    go_enter Tryd.func17, Tryd.ntmps17
    go_wp2_with fail
    refine HH.out.mono ?_
    rintro e w1 ⟨rfl, b1⟩
    go_wp2
    go_ret
    exact ⟨rfl, b1⟩
  rw [if_neg hn0] at hRT
  subst hRT
  have hnI : ¬ (n : Int) = 0 := by omega
  have hnJ : ((n : Int) == 0) = false := beq_eq_false_iff_ne.2 hnI
  have hn3 : (n : Int) ≤ 3 := by omega
  have HH := Lib.hid (And.intro hR (And.intro hat (And.intro hl (And.intro hin hD))))
  clear hR hl hat hq hin h3 hD hn0
  go_enter Tryd.func17, Tryd.ntmps17
  go_wp2_with fail
  refine HH.out.1.mono ?_
  rintro e w1 ⟨rfl, b1⟩
  have hbd := Bd.new_ w1
  have H1 := Lib.hid (And.intro b1 (And.intro hbd b1.size))
  clear b1 hbd
  try dsimp only
  go_wp2
  go_loopw [16] (fun v16 wr => ∃ k : Nat, k ≤ n ∧ v16 = .int .i64 (k : Int) ∧ Aside (Bd w1.heap.size w1.heap.size (textQ (zs.take k)) wr ∧ Below w1.heap.size w1 wr ∧ (textQ (zs.take k)).length ≤ 21 * k)) (fun v16 _ => n - (intOf v16).toNat)
  case atStart => exact ⟨0, Nat.zero_le _, rfl, (show Aside _ from ⟨H1.out.2.1, alloc_below w1 _, Nat.le_refl _⟩)⟩
  case round =>
    obtain ⟨k, hk, rfl, hrel⟩ := hrel
    obtain ⟨hbd, hbel, hlen⟩ := hrel.out
    clear hrel
    by_cases hlt : k < n
    · have hltI : (k : Int) < n := by omega
      have hup : Below w.heap.size w wr := H1.out.1.trans (hbel.mono H1.out.2.2)
      have hsr := HH.out.2.1.below' hup hB
      obtain ⟨b, off, rfl, hbb, _⟩ := hsr.place (by omega)
      obtain ⟨z, hz⟩ := hsr.get hlt
      have hcell := hsr.range hz 0 _ rfl
      rw [Nat.mul_one, Nat.add_zero] at hcell
      obtain ⟨hz0, hz1⟩ := HH.out.2.2.2.1 z (List.mem_of_getElem? hz)
      have hst := textQ_take hz
      have c1 := bdStr_f w1.heap.size w1.heap.size _ ⟨#[47]⟩ wr hbd (by omega) (by decide) hbel.size
      have c2 := fun W (h : Below w.heap.size w W) => itoa_f z (by omega) (by omega) W (HH.out.2.2.2.2.below h HH.out.2.2.2.2.size)
      have hil := itoa_len z (by omega) (by omega)
      obtain ⟨t, ht⟩ : ∃ t : ByteArray, ⟨(Lib.itoa z).toArray⟩ = t := ⟨_, rfl⟩
      have htd : t.data.toList = Lib.itoa z := by rw [← ht]
      rw [ht] at c2
      have hts : t.size ≤ 20 := by rw [← size_list, htd]; exact hil
      have HX := Lib.hid (And.intro c1 (And.intro c2 (And.intro hst (And.intro hup (And.intro hbel (And.intro hlen (And.intro htd hts)))))))
      clear hsr hz hst c1 c2 hup hbel hlen hbd hil ht htd hts
      go_wp2_with fail
      refine HX.out.1.mono ?_
      rintro e w2 ⟨rfl, hbd2, hb2⟩
      have hup2 : Below w.heap.size w w2 := H1.out.1.trans ((HX.out.2.2.2.2.1.trans hb2).mono H1.out.2.2)
      have H2 := Lib.hid (And.intro hbd2 (And.intro (HX.out.2.2.2.2.1.trans hb2) hup2))
      clear hbd2 hb2 hup2
      try dsimp only
      go_wp2_with fail
      refine (HX.out.2.1 w2 H2.out.2.2).mono ?_
      rintro e w3 ⟨rfl, b3⟩
      have hb13 : Below w1.heap.size w1 w3 := H2.out.2.1.trans (b3.mono H2.out.2.1.size)
      have c3 := bdStr_f w1.heap.size w1.heap.size _ t w3 (H2.out.1.below b3) (by rw [List.length_append]; exact Nat.le_trans (Nat.add_le_add HX.out.2.2.2.2.2.1 (Nat.le_refl 1)) (by omega)) (by have := HX.out.2.2.2.2.2.2.2; omega) hb13.size
      have H3 := Lib.hid (And.intro c3 hb13)
      clear b3 c3 hb13
      try dsimp only
      go_wp2_with fail
      refine H3.out.1.mono ?_
      rintro e w4 ⟨rfl, hbd4, hb4⟩
      have H4 := Lib.hid (And.intro hbd4 (H3.out.2.trans hb4))
      clear hbd4 hb4
      try dsimp only
      go_wp2
      go_roundw
      case rel =>
        have e : textQ (zs.take k) ++ (ByteArray.data ⟨#[47]⟩).toList ++ t.data.toList = textQ (zs.take (k + 1)) := by
          rw [HX.out.2.2.1, HX.out.2.2.2.2.2.2.1, List.append_assoc]; rfl
        refine ⟨k + 1, by omega, by go_num, (show Aside _ from ⟨by rw [← e]; exact H4.out.1, H4.out.2, ?_⟩)⟩
        have h1 : (ByteArray.data ⟨#[47]⟩).toList.length = 1 := rfl
        have h2 := HX.out.2.2.2.2.2.1
        have h3 := HX.out.2.2.2.2.2.2.2
        rw [← e, List.length_append, List.length_append, h1, size_list]
        omega
      case measure => simp [intOf]; omega
    · obtain rfl : k = n := by omega
      have hltI : ¬ (k : Int) < k := by omega
      rw [List.take_of_length_le (by rw [HH.out.2.2.1]; exact Nat.le_refl _)] at hbd
      have hc := bdText_f w1.heap.size w1.heap.size _ wr hbd hbel.size
      have HX := Lib.hid (And.intro hc hbel)
      clear hc hbd hbel hlen hlt
      go_wp2_with fail
      refine HX.out.1.mono ?_
      rintro e w2 ⟨rfl, b2⟩
      try dsimp only
      go_wp2
      go_ret
      exact ⟨rfl, H1.out.1.trans ((HX.out.2.trans b2).mono H1.out.2.2)⟩
/-- The pieces of a text between a sign, with at most so many cuts. -/
def splitB : Nat → List UInt8 → List (List UInt8)
  | 0, l => [l]
  | m + 1, l => if Lib.indexByte l 47 = -1 then [l] else l.take (Lib.indexByte l 47).toNat :: splitB m (l.drop ((Lib.indexByte l 47).toNat + 1))
theorem sindex_f (s : ByteArray) (c : UInt8) (w : World) : Calls Tryd.prog 109 #[.string s, .string ⟨#[c]⟩] w fun e w' => e = .returned (.int .i64 (Lib.indexByte s.data.toList c)) ∧ w' = w := by
  obtain ⟨R, hR⟩ : ∃ R, Lib.indexByte s.data.toList c = R := ⟨_, rfl⟩
  have hI := Tryd.stringslite_Index_one s c w
  rw [hR] at hI ⊢
  go_enter Tryd.func109, Tryd.ntmps109
  go_wp2_with fail
  refine hI.mono ?_
  rintro e w1 ⟨rfl, hw⟩
  obtain rfl := hw.symm
  go_wp2
  go_ret
  exact ⟨rfl, rfl⟩
theorem made_str (N : Nat) : (madeCells (Value.string ⟨#[]⟩).cells (N * 1)).toList = stK.all (List.replicate N ⟨#[]⟩) := by
  have e : stK.all (List.replicate N ⟨#[]⟩) = List.replicate N (Value.string ⟨#[]⟩) := by
    induction N with
    | zero => rfl
    | succ N ih => rw [List.replicate_succ, RowK.all_cons, ih, List.replicate_succ]; rfl
  rw [e, Nat.mul_one]
  unfold madeCells
  apply List.ext_getElem?
  intro i
  by_cases h : i < N
  · simp [Value.cells, h, Nat.mod_one]
  · simp [Value.cells, h]
theorem splitB_short {l : List UInt8} (h : l.length ≤ 1) : splitB 2 l = splitB 1 l := by
  unfold splitB
  split
  · rfl
  · have hd : l.drop ((Lib.indexByte l 47).toNat + 1) = [] := List.drop_of_length_le (by omega)
    rw [hd]
    rfl
theorem splitB_none {m : Nat} {l : List UInt8} (h : Lib.indexByte l 47 = -1) : splitB m l = [l] := by
  cases m with
  | zero => rfl
  | succ m => unfold splitB; rw [if_pos h]
theorem splitB_some {m k : Nat} {l : List UInt8} (h : Lib.indexByte l 47 = (k : Int)) : splitB (m + 1) l = l.take k :: splitB m (l.drop (k + 1)) := by
  rw [splitB, h, if_neg (by omega), Int.toNat_natCast]
set_option maxHeartbeats 8000000 in
theorem gensplit_f (s : ByteArray) (hs : s.size ≤ 1000000) (N : Nat) (hN : min (3 : Int) ((s.size : Int) + 1) = (N : Int)) (hN2 : 2 ≤ N ∧ N ≤ 3) (w : World) :
    Calls Tryd.prog 76 #[.string s, .string ⟨#[47]⟩, .int .i64 0, .int .i64 3] w fun e w' => ∃ X, txs X = splitB (N - 1) s.data.toList ∧ RetK stK 9 X w e w' := by
  obtain ⟨i0, hi0, hz0, hz1, hz2⟩ := info_parts info_st
  have hsI : (s.size : Int) ≤ 1000000 := by omega
  obtain ⟨L, hL⟩ : ∃ L, s.data.toList = L := ⟨_, rfl⟩
  rw [hL]
  have HL := Lib.hid hL
  clear hL
  obtain ⟨M, hM⟩ : ∃ M, N - 1 = M := ⟨_, rfl⟩
  rw [hM]
  have hMI : (N : Int) - 1 = (M : Int) := by omega
  have HM := Lib.hid hM
  have hM3 : (M : Int) ≤ 2 := by omega
  have hN3 := Lib.hid hN2
  clear hM hN2
  go_enter Tryd.func76, Tryd.ntmps76
  go_wp2_with (refine wpList_make_full w rfl (.tmp 30) (.tmp 30) 53 rfl w.heap.size 9 i0 (.string ⟨#[]⟩) 1 Tryd.underlying53 hi0 hz0 hz1 .i64 .i64 _ _ N rfl rfl rfl rfl (by rw [hz2]; have := hN3.out; omega) (by unfold maxLen; have := hN3.out; omega) (Nat.le_refl _) ?_; intro w1 hown1 hgr1; have H1 := Lib.hid (And.intro hown1 hgr1); clear hown1 hgr1)
  obtain ⟨g, hg⟩ : ∃ g, w.heap.size = g := ⟨_, rfl⟩
  have h1 := H1.out
  rw [made_str] at h1
  rw [hg] at h1
  have H2 := Lib.hid (And.intro h1 hg)
  rw [hg]
  clear h1
  go_loopw [0, 10] (fun v0 v10 wr => ∃ (k : Nat) (t : ByteArray), k ≤ M ∧ v0 = .string t ∧ v10 = .int .i64 (k : Int) ∧ t.size ≤ 1000000 ∧ Aside (∃ X, txs (X.take k) ++ splitB (M - k) t.data.toList = splitB M L ∧ wr.ownsRow g 9 1 (.slice (some ⟨g, 0, none⟩) N N) N (stK.all X) ∧ Below g w wr)) (fun _ v10 _ => M - (intOf v10).toNat)
  case atStart => exact ⟨0, s, Nat.zero_le _, rfl, rfl, hs, (show Aside _ from ⟨List.replicate N ⟨#[]⟩, by rw [HL.out]; rfl, H2.out.1.1, (Below.refl g w).grown H2.out.1.2 (by have := H2.out.2; omega) (fun k e => by cases e)⟩)⟩
  case round =>
    obtain ⟨k, t, hk, rfl, rfl, hts, hrel⟩ := hrel
    obtain ⟨X, hsp, hown, hbel⟩ := hrel.out
    clear hrel
    have hXl := RowK.own_len hown
    have hkN : k < N := by have := HM.out; have := hN3.out; omega
    have hkNI : (k : Int) < N := by omega
    have htI : (t.size : Int) ≤ 1000000 := by omega
    have htsl : t.data.toList.length = t.size := Array.length_toList
    by_cases hlt : k < M
    · have hltI : (k : Int) < M := by omega
      have hI := fun W => sindex_f t 47 W
      rcases idx_spec' 47 t.data.toList with ⟨hi, _⟩ | ⟨p, hi, hp, _⟩
      · rw [splitB_none hi] at hsp
        simp only [hi] at hI
        have hth := RowK.own_there hown k 1 (by omega)
        obtain ⟨q1, q2⟩ := hth 0 (by omega)
        rw [Nat.add_zero] at q1 q2
        obtain ⟨v9, q3⟩ := Option.isSome_iff_exists.1 q1
        clear q1
        have hset := RowK.own_put hown k (X[k]'(by omega)) t 0 (.string t) (List.getElem?_eq_getElem (by omega)) (by omega) rfl
        rw [Nat.mul_one, Nat.add_zero] at hset
        have hcut := RowK.own_cut hset.1 (k + 1) (by omega)
        have htk : (X.set k t).take (k + 1) = X.take k ++ [t] := by
          rw [List.take_add_one, List.take_set, List.set_eq_of_length_le (by rw [List.length_take]; omega), List.getElem?_set_self (by omega)]; rfl
        rw [htk] at hcut
        have HX := Lib.hid (And.intro hI (And.intro hsp (And.intro hcut (hbel.grown hset.2 (by have := (hown.lt g rfl).2; omega) (fun j e => by injection e with e; omega)))))
        clear hI hsp hcut hset hown hbel htk hi hth htsl
        go_wp2_with fail
        refine (HX.out.1 _).mono ?_
        rintro e w2 ⟨rfl, hw⟩
        obtain rfl := hw.symm
        go_wp2
        go_ret
        refine ⟨X.take k ++ [t], by rw [← HX.out.2.1]; unfold txs; rw [List.map_append]; rfl, RetK.of ?_ ?_⟩
        · rw [H2.out.2]; exact HX.out.2.2.1
        · rw [H2.out.2]; exact HX.out.2.2.2
      · have hpl : p < t.size := by rw [← htsl]; exact (List.getElem?_eq_some_iff.1 hp).1
        have hpI : (p : Int) < t.size := by omega
        have hpn : ¬ (p : Int) < 0 := by omega
        simp only [hi] at hI
        obtain ⟨m, hm⟩ : ∃ m, M - k = m + 1 := ⟨M - k - 1, by omega⟩
        rw [hm, splitB_some hi] at hsp
        have hth := RowK.own_there hown k 1 (by omega)
        obtain ⟨q1, q2⟩ := hth 0 (by omega)
        rw [Nat.add_zero] at q1 q2
        obtain ⟨v9, q3⟩ := Option.isSome_iff_exists.1 q1
        clear q1
        have e1 : (t.extract 0 p).data.toList = t.data.toList.take p := by simp [ByteArray.data_extract, Array.toList_extract]
        have e2 : (t.extract (p + 1) t.size).data.toList = t.data.toList.drop (p + 1) := Lib.ext_list t (p + 1)
        have hsz2 : (t.extract (p + 1) t.size).size ≤ 1000000 := by rw [← size_list, e2, List.length_drop]; omega
        have hset := RowK.own_put hown k (X[k]'(by omega)) (t.extract 0 p) 0 (.string (t.extract 0 p)) (List.getElem?_eq_getElem (by omega)) (by omega) rfl
        rw [Nat.mul_one, Nat.add_zero] at hset
        have htk : (X.set k (t.extract 0 p)).take (k + 1) = X.take k ++ [t.extract 0 p] := by
          rw [List.take_add_one, List.take_set, List.set_eq_of_length_le (by rw [List.length_take]; omega), List.getElem?_set_self (by omega)]; rfl
        have hsp2 : txs ((X.set k (t.extract 0 p)).take (k + 1)) ++ splitB (M - (k + 1)) (t.extract (p + 1) t.size).data.toList = splitB M L := by
          rw [htk, e2, show M - (k + 1) = m by omega, ← hsp]
          unfold txs
          rw [List.map_append, List.append_assoc]
          show _ ++ ([(t.extract 0 p).data.toList] ++ _) = _
          rw [e1]; rfl
        have HX := Lib.hid (And.intro hI (And.intro hsp2 (And.intro hset.1 (And.intro (hbel.grown hset.2 (by have := (hown.lt g rfl).2; omega) (fun j e => by injection e with e; omega)) hsz2))))
        clear hI hsp hsp2 hset hown hbel htk hi hth htsl e1 e2 hm hp hsz2
        go_wp2_with fail
        refine (HX.out.1 _).mono ?_
        rintro e w2 ⟨rfl, hw⟩
        obtain rfl := hw.symm
        go_wp2
        go_roundw
        case rel => exact ⟨k + 1, t.extract (p + 1) t.size, by omega, rfl, by go_num, HX.out.2.2.2.2, (show Aside _ from ⟨_, HX.out.2.1, HX.out.2.2.1, HX.out.2.2.2.1⟩)⟩
        case measure => simp [intOf]; omega
    · obtain rfl : k = M := by omega
      have hltI : ¬ (k : Int) < k := by omega
      rw [Nat.sub_self] at hsp
      replace hsp : txs (X.take k) ++ [t.data.toList] = splitB k L := hsp
      have hth := RowK.own_there hown k 1 (by omega)
      obtain ⟨q1, q2⟩ := hth 0 (by omega)
      rw [Nat.add_zero] at q1 q2
      obtain ⟨v9, q3⟩ := Option.isSome_iff_exists.1 q1
      clear q1
      have hset := RowK.own_put hown k (X[k]'(by omega)) t 0 (.string t) (List.getElem?_eq_getElem (by omega)) (by omega) rfl
      rw [Nat.mul_one, Nat.add_zero] at hset
      have hcut := RowK.own_cut hset.1 (k + 1) (by omega)
      have htk : (X.set k t).take (k + 1) = X.take k ++ [t] := by
        rw [List.take_add_one, List.take_set, List.set_eq_of_length_le (by rw [List.length_take]; omega), List.getElem?_set_self (by omega)]; rfl
      rw [htk] at hcut
      have HX := Lib.hid (And.intro hsp (And.intro hcut (hbel.grown hset.2 (by have := (hown.lt g rfl).2; omega) (fun j e => by injection e with e; omega))))
      clear hsp hcut hset hown hbel htk hth htsl hlt
      go_wp2
      go_ret
      refine ⟨X.take k ++ [t], by rw [← HX.out.1]; unfold txs; rw [List.map_append]; rfl, RetK.of ?_ ?_⟩
      · rw [H2.out.2]; exact HX.out.2.1
      · rw [H2.out.2]; exact HX.out.2.2
theorem splitn_f (s : ByteArray) (hs : s.size ≤ 1000000) (h1 : 1 ≤ s.size) (w : World) :
    Calls Tryd.prog 48 #[.string s, .string ⟨#[47]⟩, .int .i64 3] w fun e w' => ∃ X, txs X = splitB 2 s.data.toList ∧ RetK stK 9 X w e w' := by
  have hsl : s.data.toList.length = s.size := Array.length_toList
  have hg : Calls Tryd.prog 76 #[.string s, .string ⟨#[47]⟩, .int .i64 0, .int .i64 3] w fun e w' => ∃ X, txs X = splitB 2 s.data.toList ∧ RetK stK 9 X w e w' := by
    by_cases h2 : 2 ≤ s.size
    · exact gensplit_f s hs 3 (by omega) (by omega) w
    · have h := gensplit_f s hs 2 (by omega) (by omega) w
      rw [splitB_short (by omega)]
      exact h
  have HG := Lib.hid hg
  clear hg hsl
  go_enter Tryd.func48, Tryd.ntmps48
  go_wp2_with fail
  refine HG.out.mono ?_
  rintro e w1 ⟨X, hX, A, n, c, rfl, hnc, hn, hown, hb⟩
  have H1 := Lib.hid (And.intro hX (And.intro hown hb))
  clear hX hown hb hnc hn
  try dsimp only
  go_wp2
  go_ret
  exact ⟨X, H1.out.1, RetK.of H1.out.2.1 H1.out.2.2⟩
theorem splitB_len : ∀ (m : Nat) (l : List UInt8), ∀ x ∈ splitB m l, x.length ≤ l.length
  | 0, l, x, h => by
    have : x ∈ [l] := h
    rw [List.mem_singleton] at this
    rw [this]; exact Nat.le_refl _
  | m + 1, l, x, h => by
    unfold splitB at h
    split at h
    · rw [List.mem_singleton] at h; rw [h]; exact Nat.le_refl _
    · rcases List.mem_cons.1 h with h | h
      · rw [h, List.length_take]; omega
      · have := splitB_len m _ x h
        rw [List.length_drop] at this
        omega
theorem splitB_few : ∀ (m : Nat) (l : List UInt8), (splitB m l).length ≤ m + 1
  | 0, l => Nat.le_refl _
  | m + 1, l => by
    unfold splitB
    split
    · exact Nat.succ_le_succ (Nat.zero_le _)
    · rw [List.length_cons]; exact Nat.succ_le_succ (splitB_few m _)
/-- The path of a text, if it is one. -/
def readP (l : List UInt8) : Option (List Int) := if l.head? = some 47 then (if l.drop 1 = [] then some [] else numsQ (splitB 2 (l.drop 1))) else none
theorem NumsRet.nil_ {w w' : World} (hb : Below w.heap.size w w') : NumsRet (some []) w (.returned (.tuple #[.slice none 0 0, .int .i64 0])) w' := NumsRet.of (World.ownsRow_nil _ _ _ _) hb
theorem NumsRet.trans {o : Option (List Int)} {w0 w w' : World} {e : Ending} (h : NumsRet o w e w') (hb : Below w0.heap.size w0 w) : NumsRet o w0 e w' := by
  cases o with
  | none => exact ⟨h.1, hb.trans (h.2.mono hb.size)⟩
  | some zs =>
    obtain ⟨A, n, c, e1, h1, h2, h3, h4⟩ := h
    exact ⟨A, n, c, e1, h1, h2, rk_mono h3 hb.size, hb.trans (h4.mono hb.size)⟩
/-- The two results of numbers, each way. -/
theorem NumsRet.shape {o : Option (List Int)} {w w' : World} {e : Ending} (h : NumsRet o w e w') : ∃ A n c er, e = .returned (.tuple #[.slice A n c, .int .i64 er]) ∧ NumsRet o w (.returned (.tuple #[.slice A n c, .int .i64 er])) w' := by
  cases o with
  | none => obtain ⟨rfl, h2⟩ := h; exact ⟨none, 0, 0, 20, rfl, rfl, h2⟩
  | some zs => obtain ⟨A, n, c, rfl, h1⟩ := h; exact ⟨A, n, c, 0, rfl, A, n, c, rfl, h1⟩
set_option maxHeartbeats 4000000 in
theorem pread_f (s : ByteArray) (hs : s.size ≤ 1000000) (w : World) (hE : TabE w) :
    Calls Tryd.prog 13 #[.string s] w (NumsRet (readP s.data.toList) w) := by
  have hC := cutprefix_f s 47 w hs
  unfold CutPRet cutP at hC
  obtain ⟨RR, hRR⟩ : ∃ RR, readP s.data.toList = RR := ⟨_, rfl⟩
  rw [hRR]
  unfold readP at hRR
  have hsl : s.data.toList.length = s.size := Array.length_toList
  by_cases h47 : s.data.toList.head? = some 47
  · rw [if_pos h47] at hRR hC
    dsimp only at hC
    obtain ⟨L, hL⟩ : ∃ L, s.data.toList.drop 1 = L := ⟨_, rfl⟩
    have hLl : L.length ≤ 1000000 := by rw [← hL, List.length_drop]; omega
    rw [hL] at hRR hC
    by_cases hL0 : L = []
    · rw [if_pos hL0] at hRR
      subst hRR
      subst hL0
      have HH := Lib.hid hC
      clear hC hsl h47 hL hLl hE
      go_enter Tryd.func13, Tryd.ntmps13
      go_wp2_with fail
      refine HH.out.mono ?_
      rintro e w1 ⟨t, rfl, ht, b1⟩
      obtain rfl : t = ⟨#[]⟩ := str_empty ht
      clear ht
      try dsimp only
      go_wp2
      go_ret2
      exact NumsRet.nil_ b1
    · rw [if_neg hL0] at hRR
      have hn := fun (A : Option Addr) (n c : Nat) (X : List ByteArray) W (h : Below w.heap.size w W) B (hat : stK.At W B A n X) (hB : B ≤ W.heap.size) (hn : n ≤ 1048576) (hmx : ∀ s ∈ X, s.size ≤ 1000000) => pnumbers_f A n c X W B hat hB hn hmx (hE.below h hE.size)
      have HH := Lib.hid (And.intro hC (And.intro hn (And.intro hRR (And.intro hL0 hLl))))
      clear hC hsl h47 hL hn hE hRR hL0 hLl
      go_enter Tryd.func13, Tryd.ntmps13
      go_wp2_with fail
      refine HH.out.1.mono ?_
      rintro e w1 ⟨t, rfl, ht, b1⟩
      have hts : t.data.toList.length = t.size := Array.length_toList
      have htz : t.size ≤ 1000000 := by have := HH.out.2.2.2.2; rw [← ht] at this; omega
      have ht1 : 1 ≤ t.size := by
        rcases Nat.eq_zero_or_pos t.size with h | h
        · exfalso
          exact HH.out.2.2.2.1 (by rw [← ht]; exact List.eq_nil_of_length_eq_zero (by omega))
        · exact h
      have g2 : ¬ t.toList = [] := fun e => by rw [ByteArray.toList_eq] at e; rw [e] at hts; simp at hts; omega
      have g1 : (t.toList == []) = false := beq_eq_false_iff_ne.2 g2
      have g3 : t.toList.isEmpty = false := by cases hh : t.toList with | nil => exact absurd hh g2 | cons a b => rfl
      have hS := splitn_f t htz ht1 w1
      rw [ht] at hS
      have HS := Lib.hid (And.intro hS b1)
      clear hS b1 ht hts htz ht1
      try dsimp only
      go_wp2_with fail
      refine HS.out.1.mono ?_
      rintro e w2 ⟨X, hX, A, n, c, rfl, hnc, hn, hown, hb2⟩
      have hup := HS.out.2.trans (hb2.mono HS.out.2.size)
      obtain ⟨A', c', e2, _, _, hat, _⟩ := RowK.At.of_own hown
      injection e2 with q1 _ q3
      subst q1 q3
      have hXl : X.length = n := RowK.own_len hown
      have hXn : n ≤ 3 := by
        have h1 := splitB_few 2 L
        rw [← hX] at h1
        unfold txs at h1
        rw [List.length_map] at h1
        omega
      have hXm : ∀ s ∈ X, s.size ≤ 1000000 := fun x hx => by
        have h1 : x.data.toList ∈ txs X := List.mem_map_of_mem hx
        rw [hX] at h1
        have h2 := splitB_len 2 L _ h1
        rw [size_list] at h2
        have := HH.out.2.2.2.2
        omega
      have hc := HH.out.2.1 A n c X w2 hup _ hat (Nat.le_refl _) (by omega) hXm
      rw [hX, HH.out.2.2.1] at hc
      have H2 := Lib.hid (And.intro hc hup)
      clear hX hnc hn hown hb2 hup hat hXl hXn hXm hc g1 g2 g3
      try dsimp only
      go_wp2_with fail
      refine H2.out.1.mono ?_
      rintro e w3 h3
      obtain ⟨A3, n3, c3, er, rfl, h3⟩ := h3.shape
      have H3 := Lib.hid (h3.trans H2.out.2)
      clear h3
      try dsimp only
      go_wp2
      go_ret2
      exact H3.out
  · rw [if_neg h47] at hRR hC
    subst hRR
    dsimp only at hC
    have HH := Lib.hid hC
    clear hC hsl h47 hE
    go_enter Tryd.func13, Tryd.ntmps13
    go_wp2_with fail
    refine HH.out.mono ?_
    rintro e w1 ⟨t, rfl, ht, b1⟩
    try dsimp only
    go_wp2
    go_ret2
    exact ⟨rfl, b1⟩
theorem txs_strs (ls : List (List UInt8)) : txs (strs ls) = ls := by
  unfold txs strs
  rw [List.map_map]
  conv => rhs; rw [← List.map_id ls]
  rfl
def OfRet16 (ls : List (List UInt8)) (w : World) (e : Ending) (w' : World) : Prop :=
  if 3 < ls.length then e = .returned (.tuple #[.slice none 0 0, .int .i64 3]) ∧ Below w.heap.size w w' else NumsRet (numsQ ls) w e w'
set_option maxHeartbeats 4000000 in
theorem pof_f (A : Option Addr) (n c : Nat) (vs : List Sv) (ps : List (Int × List UInt8)) (w : World) (B : Nat) (hos : Os w B A n vs ps) (hB : B ≤ w.heap.size) (hn : n ≤ 1048576) (hmx : ∀ x ∈ ps, x.2.length ≤ 1000000) (hE : TabE w) :
    Calls Tryd.prog 21 #[.slice A n c] w (OfRet16 (allO 11 ps) w) := by
  have hS := segs_f A n c vs ps w B hos hB hn hmx
  have hpl := hos.plen
  have hal := allO_len 11 ps
  have ham := allO_max (num := 11) hmx
  obtain ⟨ls, hls⟩ : ∃ ls, allO 11 ps = ls := ⟨_, rfl⟩
  rw [hls] at hS hal ham ⊢
  have hlsn : ls.length ≤ 1048576 := by omega
  have hnn := fun (A : Option Addr) (n c : Nat) (X : List ByteArray) W (h : Below w.heap.size w W) B (hat : stK.At W B A n X) (hB : B ≤ W.heap.size) (hn : n ≤ 1048576) (hmx : ∀ s ∈ X, s.size ≤ 1000000) => pnumbers_f A n c X W B hat hB hn hmx (hE.below h hE.size)
  have hmx2 : ∀ s ∈ strs ls, s.size ≤ 1000000 := fun x hx => by
    obtain ⟨l, hl, rfl⟩ := List.mem_map.1 hx
    have h1 := ham l hl
    show l.toArray.size ≤ _
    rw [List.size_toArray]; exact h1
  have HA := Lib.hid (And.intro hS (And.intro hnn (And.intro hmx2 hlsn)))
  clear hS hnn hmx2 hlsn hpl hal ham hls hos hmx hE
  go_enter Tryd.func21, Tryd.ntmps21
  go_wp2_with fail
  refine HA.out.1.mono ?_
  rintro e w1 ⟨A1, n1, c1, rfl, hnc, hn1, hown, hb1⟩
  obtain ⟨A', c', e2, _, _, hat, _⟩ := RowK.At.of_own hown
  injection e2 with q1 _ q3
  subst q1 q3
  have hn2 : n1 = ls.length := by rw [hn1.out]; exact List.length_map _
  by_cases h3 : 3 < n1
  · have h3I : (3 : Int) < n1 := by omega
    have H1 := Lib.hid (And.intro hb1 (And.intro hn2 h3))
    clear hnc hn1 hown hb1 hat hn2 h3
    try dsimp only
    go_wp2
    go_ret2
    unfold OfRet16
    rw [if_pos (by rw [← H1.out.2.1]; exact H1.out.2.2)]
    exact ⟨rfl, H1.out.1⟩
  · have h3I : ¬ (3 : Int) < n1 := by omega
    have hc := HA.out.2.1 A1 n1 c1 (strs ls) w1 hb1 _ hat (Nat.le_refl _) (by omega) HA.out.2.2.1
    rw [txs_strs] at hc
    have H1 := Lib.hid (And.intro hc (And.intro hb1 (And.intro hn2 h3)))
    clear hnc hn1 hown hb1 hat hn2 h3 hc
    try dsimp only
    go_wp2_with fail
    refine H1.out.1.mono ?_
    rintro e w3 h3
    obtain ⟨A3, n3, c3, er, rfl, h3⟩ := h3.shape
    have H3 := Lib.hid (h3.trans H1.out.2.1)
    clear h3
    try dsimp only
    go_wp2
    go_ret2
    unfold OfRet16
    rw [if_neg (by rw [← H1.out.2.2.1]; exact H1.out.2.2.2)]
    exact H3.out
end Go.Proofs.YtbclgalocipmfaaDoor
