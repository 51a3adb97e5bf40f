/-
  The document's numbers of texts, a path as text, the path of a text.
-/
import Derived.Test.YtbclgalocipmfaaDoorPaRef
namespace Go.Proofs.YtbclgalocipmfaaDoor
open Go.RowKit
set_option maxRecDepth 100000
set_option maxRecDepth 100000
set_option linter.unusedVariables false
/-- Numbers of up to three texts, else the first error. -/
def NumsFew (ls : List (List UInt8)) (w : World) (e : Ending) (w' : World) : Prop :=
  if 3 < ls.length then e = .returned (.tuple #[.slice none 0 0, .int .i64 3]) ∧ Below w.heap.size w w' else NumsRet (numsQ ls) w e w'
theorem few_yes {ls : List (List UInt8)} {w : World} (h : ¬ 3 < ls.length) : NumsFew ls w = NumsRet (numsQ ls) w := by
  funext e w'
  unfold NumsFew
  rw [if_neg h]
set_option maxHeartbeats 4000000 in
theorem rnumbers_f (A : Option Addr) (n c : Nat) (ss : List ByteArray) (w : World) (B : Nat) (hst : stK.At w B A n ss) (hB : B ≤ w.heap.size) (hn : n ≤ 1048576) (hmx : ∀ s ∈ ss, s.size ≤ 1000000) :
    Calls Tryd.prog 49 #[.slice A n c] w (NumsFew (txs ss) w) := by
  obtain ⟨i0, hi0, hz0, hz1, hz2⟩ := info_parts info_in
  have hnI : (n : Int) ≤ 1048576 := by omega
  have htl : (txs ss).length = n := by unfold txs; rw [List.length_map]; exact hst.len
  by_cases h3 : 3 < n
  · have h3I : (3 : Int) < n := by omega
    have hf : NumsFew (txs ss) w = fun e w' => e = .returned (.tuple #[.slice none 0 0, .int .i64 3]) ∧ Below w.heap.size w w' := by
      funext e w'
      unfold NumsFew
      rw [if_pos (by omega)]
    rw [hf]
    clear hf htl hst hmx
    go_enter Tryd.func49, Tryd.ntmps49
    go_wp2
    go_ret2
    exact ⟨rfl, Below.refl _ _⟩
  rw [few_yes (by omega)]
  have h3I : ¬ (3 : Int) < n := by omega
  obtain ⟨R, hR⟩ : ∃ R, numsQ (txs ss) = R := ⟨_, rfl⟩
  rw [hR]
  have hR0 : andQ [] (numsQ (txs (ss.drop 0))) = R := by
    rw [List.drop_zero, hR]; cases R <;> rfl
  have hN := fun (s : ByteArray) (hs : s.size ≤ 1000000) W => rnum16_f s hs 65535 (by decide) W
  have HA := Lib.hid (And.intro hst (And.intro hmx (And.intro hN (And.intro hR0 hst.len))))
  clear hst hmx hN hR hR0 htl
  go_enter Tryd.func49, Tryd.ntmps49
  go_wp2
  go_loopw [4, 5] (fun v4 v5 wr => ∃ (k c' : Nat) (A' : Option Addr), k ≤ n ∧ v5 = .int .i64 (k : Int) ∧ v4 = .slice A' k c' ∧ Aside (∃ zs, andQ zs (numsQ (txs (ss.drop k))) = R ∧ wr.ownsRow w.heap.size 3 1 (.slice A' k c') k (inK.all zs) ∧ Below w.heap.size w wr)) (fun _ v5 _ => n - (intOf v5).toNat)
  case atStart => exact ⟨0, 0, _, Nat.zero_le _, rfl, rfl, (show Aside _ from ⟨[], HA.out.2.2.2.1, rk_empty w w.heap.size (Nat.le_refl _) _ _, alloc_below w _⟩)⟩
  case round =>
    obtain ⟨k, c', A', hk, rfl, rfl, hrel⟩ := hrel
    obtain ⟨zs, hzs, hown, hbel⟩ := hrel.out
    clear hrel
    by_cases hlt : k < n
    · have hsr := HA.out.1.below' hbel hB
      obtain ⟨b, off, rfl, hbb, _⟩ := hsr.place (by omega)
      obtain ⟨s, hs⟩ := hsr.get hlt
      have hcell := hsr.range hs 0 _ rfl
      rw [Nat.mul_one, Nat.add_zero] at hcell
      have hsz := HA.out.2.1 s (List.mem_of_getElem? hs)
      have hcall := HA.out.2.2.1 s hsz wr
      have hdr : txs (ss.drop k) = s.data.toList :: txs (ss.drop (k + 1)) := by
        obtain ⟨hkl, e⟩ := List.getElem?_eq_some_iff.1 hs
        rw [List.drop_eq_getElem_cons hkl, e]; rfl
      rw [hdr] at hzs
      have hltI : (k : Int) < n := by omega
      have HX := Lib.hid (And.intro hown (And.intro hbel hbel.size))
      rcases hq : numM 65535 s.data.toList with _ | v
      · rw [hq] at hcall
        rw [numsQ_none hq] at hzs
        replace hzs : none = R := hzs
        subst hzs
        have HC := Lib.hid hcall
        clear hcall hsz hdr hs hsr hown hbel hq
        go_wp2_with fail
        refine HC.out.mono ?_
        rintro e w2 ⟨rfl, hw⟩
        obtain rfl := hw.symm
        unfold numN
        try dsimp only
        go_wp2
        go_ret2
        exact ⟨rfl, HX.out.2.1⟩
      · rw [hq] at hcall
        rw [andQ_step zs hq] at hzs
        have HC := Lib.hid (And.intro hcall hzs)
        clear hcall hsz hdr hs hsr hown hbel hq hzs
        go_wp2_with fail
        refine HC.out.1.mono ?_
        rintro e w2 ⟨rfl, hw⟩
        obtain rfl := hw.symm
        unfold numN
        try dsimp only
        go_wp2_with (at_builtin; go_loud (refine inK.append_one wr rfl (.tmp 28) (.tmp 30) 23 rfl w.heap.size 3 i0 _ 8 Tryd.underlying23 hi0 hz0 hz1 hz2 rfl (.slice A' k c') k _ rfl HX.out.1 (v : Int) _ rfl _ rfl (by omega) (by unfold maxLen; omega) HX.out.2.2 ?_); intro A6 c6 w6 hown6 hgr6; have H6 := Lib.hid (And.intro hown6 hgr6); clear hown6 hgr6)
        go_roundw
        case rel => exact ⟨k + 1, c6, A6, by omega, by go_num, rfl, (show Aside _ from ⟨zs ++ [(v : Int)], HC.out.2, H6.out.1, rk_in' (HX.out.2.1.trans (Below.mono (alloc_below wr _) HX.out.2.2)) (HX.out.1.alloc _) H6.out.2 (by have := HX.out.2.2; rw [alloc_size]; omega)⟩)⟩
        case measure => simp [intOf]; omega
    · obtain rfl : k = n := by omega
      have hltI : ¬ (k : Int) < k := by omega
      rw [List.drop_of_length_le (by rw [HA.out.2.2.2.2]; exact Nat.le_refl _)] at hzs
      replace hzs : some (zs ++ []) = R := hzs
      rw [List.append_nil] at hzs
      subst hzs
      have HX := Lib.hid (And.intro hown hbel)
      clear hown hbel hlt
      go_wp2
      go_ret2
      exact NumsRet.of HX.out.1 HX.out.2
set_option maxHeartbeats 2000000 in
theorem rright16_f (A : Option Addr) (n c : Nat) (zs : List Int) (w : World) (B : Nat) (hat : inK.At w B A n zs) (hB : B ≤ w.heap.size) :
    Calls Tryd.prog 16 #[.slice A n c] w fun e w' => e = .returned (.bool (rightP zs)) ∧ w' = w := by
  have hl := hat.len
  obtain ⟨R, hR⟩ : ∃ R, rightP zs = R := ⟨_, rfl⟩
  rw [hR]
  unfold rightP at hR
  rw [hl] at hR
  by_cases h3 : 3 < n
  · have h3I : (3 : Int) < n := by omega
    rw [decide_eq_false (by omega), Bool.false_and] at hR
    subst hR
    clear hl hat
    go_enter Tryd.func16, Tryd.ntmps16
    go_wp2
    go_ret
    exact ⟨rfl, rfl⟩
  have h3I : ¬ (3 : Int) < n := by omega
  rw [decide_eq_true (by omega), Bool.true_and] at hR
  have HR := Lib.hid (And.intro hR (And.intro hat hl))
  clear hR hat hl
  go_enter Tryd.func16, Tryd.ntmps16
  go_wp2
  go_loop [3] (fun v3 => ∃ k : Nat, k ≤ n ∧ v3 = .int .i64 (k : Int) ∧ Aside (∀ (j : Nat) t, j < k → zs[j]? = some t → badN t = false)) (fun v3 => n - (intOf v3).toNat)
  case atStart => exact ⟨0, Nat.zero_le _, rfl, (show Aside _ from fun j t h => absurd h (by omega))⟩
  case round =>
    obtain ⟨k, hk, rfl, hrel⟩ := hrel
    by_cases hlt : k < n
    · have hltI : (k : Int) < n := by omega
      have hsr := HR.out.2.1
      obtain ⟨b, off, rfl, hbb, _⟩ := hsr.place (by omega)
      obtain ⟨z, hz⟩ := hsr.get hlt
      have hcell := hsr.range hz 0 _ rfl
      rw [Nat.mul_one, Nat.add_zero] at hcell
      have HX := Lib.hid (And.intro hrel.out hz)
      clear hrel hz hsr
      by_cases hz0 : z < 0
      · have hr : R = false := by
          rw [← HR.out.1, List.any_eq_true.2 ⟨z, List.mem_of_getElem? HX.out.2, decide_eq_true (.inl hz0)⟩]; rfl
        subst hr
        go_wp2
        go_ret
        exact ⟨rfl, rfl⟩
      by_cases hz1 : 65535 < z
      · have hr : R = false := by
          rw [← HR.out.1, List.any_eq_true.2 ⟨z, List.mem_of_getElem? HX.out.2, decide_eq_true (.inr hz1)⟩]; rfl
        subst hr
        go_wp2
        go_ret
        exact ⟨rfl, rfl⟩
      · go_wp2
        go_round
        case rel =>
          refine ⟨k + 1, by omega, by go_num, (show Aside _ from fun j t hj ht => ?_)⟩
          by_cases e : j = k
          · subst e
            have e2 := HX.out.2
            rw [ht] at e2
            obtain rfl := Option.some.inj e2
            exact decide_eq_false (by omega)
          · exact HX.out.1 j t (by omega) ht
        case measure => simp [intOf]; omega
    · have hltI : ¬ (k : Int) < n := by omega
      have hr : R = true := by
        rw [← HR.out.1]
        have : zs.any badN = false := by
          rw [List.any_eq_false]
          intro x hx
          obtain ⟨j, hj⟩ := List.mem_iff_getElem?.1 hx
          rw [hrel.out j x (by have := (List.getElem?_eq_some_iff.1 hj).1; have := HR.out.2.2; omega) hj]
          decide
        rw [this]; rfl
      subst hr
      clear hrel hlt
      go_wp2
      go_ret
      exact ⟨rfl, rfl⟩
set_option maxHeartbeats 4000000 in
theorem rtext16_f (A : Option Addr) (n c : Nat) (zs : List Int) (w : World) (B : Nat) (hat : inK.At w B A n zs) (hB : B ≤ w.heap.size) (hD : TabD w) :
    Calls Tryd.prog 18 #[.slice A n c] w fun e w' => e = .returned (.string ⟨(textP zs).toArray⟩) ∧ Below w.heap.size w w' := by
  have hl := hat.len
  have hR := rright16_f A n c zs w B hat hB
  obtain ⟨RT, hRT⟩ : ∃ RT, textP zs = RT := ⟨_, rfl⟩
  rw [hRT]
  unfold textP at hRT
  rw [hl] at hRT
  rcases hq : rightP zs with _ | _
  · rw [hq] at hR
    rw [hq, if_neg (by decide)] at hRT
    subst hRT
    have HH := Lib.hid hR
    clear hR hl hat hq hD
    go_enter Tryd.func18, Tryd.ntmps18
    go_wp2_with fail
    refine HH.out.mono ?_
    rintro e w1 ⟨rfl, hw⟩
    obtain rfl := hw.symm
    go_wp2
    go_ret
    exact ⟨rfl, Below.refl _ _⟩
  rw [hq, if_pos rfl] at hRT
  rw [hq] at hR
  obtain ⟨h3, hin⟩ := right_in hq
  have hn3 : (n : Int) ≤ 3 := by omega
  have HH := Lib.hid (And.intro hR (And.intro hat (And.intro hl (And.intro hin (And.intro hD hRT)))))
  clear hR hl hat hq hin h3 hD hRT
  go_enter Tryd.func18, Tryd.ntmps18
  go_wp2_with fail
  refine HH.out.1.mono ?_
  rintro e w1 ⟨rfl, hw⟩
  obtain rfl := hw.symm
  try dsimp only
  go_wp2
  go_loopw [3, 4] (fun v3 v4 wr => ∃ (k : Nat) (t : ByteArray), k ≤ n ∧ v4 = .int .i64 (k : Int) ∧ v3 = .string t ∧ t.size ≤ 21 * k ∧ Aside (t.data.toList = textQ (zs.take k) ∧ Below w.heap.size w wr ∧ (0 < k → 0 < t.size))) (fun _ v4 _ => n - (intOf v4).toNat)
  case atStart => exact ⟨0, ⟨#[]⟩, Nat.zero_le _, rfl, rfl, by decide, (show Aside _ from ⟨rfl, Below.refl _ _, fun h => absurd h (by omega)⟩)⟩
  case round =>
    obtain ⟨k, t, hk, rfl, rfl, hts, hrel⟩ := hrel
    obtain ⟨htd, hbel, htp⟩ := hrel.out
    clear hrel
    by_cases hlt : k < n
    · have hltI : (k : Int) < n := by omega
      have hsr := HH.out.2.1.below' hbel hB
      obtain ⟨b, off, rfl, hbb, _⟩ := hsr.place (by omega)
      obtain ⟨z, hz⟩ := hsr.get hlt
      have hcell := hsr.range hz 0 _ rfl
      rw [Nat.mul_one, Nat.add_zero] at hcell
      obtain ⟨hz0, hz1⟩ := HH.out.2.2.2.1 z (List.mem_of_getElem? hz)
      have hst := textQ_take hz
      have c2 := itoa_f z (by omega) (by omega) wr (HH.out.2.2.2.2.1.below hbel HH.out.2.2.2.2.1.size)
      have hil := itoa_len z (by omega) (by omega)
      obtain ⟨u, hu⟩ : ∃ u : ByteArray, ⟨(Lib.itoa z).toArray⟩ = u := ⟨_, rfl⟩
      have hud : u.data.toList = Lib.itoa z := by rw [← hu]
      rw [hu] at c2
      have hus : u.size ≤ 20 := by rw [← size_list, hud]; exact hil
      have h47 : (ByteArray.data ⟨#[47]⟩).toList.length = 1 := rfl
      have hz47 : (t ++ (⟨#[47]⟩ : ByteArray)).size = t.size + 1 := by
        have h1 : (t ++ (⟨#[47]⟩ : ByteArray)).data.toList.length = (t ++ (⟨#[47]⟩ : ByteArray)).size := Array.length_toList
        rw [str_app, List.length_append, size_list t, h47] at h1
        exact h1.symm
      have hzall : (t ++ (⟨#[47]⟩ : ByteArray) ++ u).size = t.size + 1 + u.size := by
        have h1 : (t ++ (⟨#[47]⟩ : ByteArray) ++ u).data.toList.length = (t ++ (⟨#[47]⟩ : ByteArray) ++ u).size := Array.length_toList
        rw [str_app, List.length_append, size_list (t ++ (⟨#[47]⟩ : ByteArray)), size_list u, hz47] at h1
        exact h1.symm
      have hdall : (t ++ (⟨#[47]⟩ : ByteArray) ++ u).data.toList = textQ (zs.take (k + 1)) := by
        rw [str_app, str_app, hst, ← htd, hud, List.append_assoc]; rfl
      have htI : t.size ≤ 1000 := by omega
      have hzI : (t ++ (⟨#[47]⟩ : ByteArray)).size ≤ 1001 := by omega
      have HX := Lib.hid (And.intro c2 (And.intro hdall (And.intro hzall (And.intro hbel hus))))
      clear hsr hz hst c2 hbel hil hu hud htd htp h47 hz47 hzall hdall
      go_wp2_with fail
      refine HX.out.1.mono ?_
      rintro e w2 ⟨rfl, b2⟩
      have H2 := Lib.hid (HX.out.2.2.2.1.trans (b2.mono HX.out.2.2.2.1.size))
      clear b2
      try dsimp only
      go_wp2
      go_roundw
      case rel => exact ⟨k + 1, _, by omega, by go_num, rfl, by rw [HX.out.2.2.1]; have := HX.out.2.2.2.2; omega, (show Aside _ from ⟨HX.out.2.1, H2.out, fun _ => by rw [HX.out.2.2.1]; omega⟩)⟩
      case measure => simp [intOf]; omega
    · obtain rfl : k = n := by omega
      have hltI : ¬ (k : Int) < k := by omega
      rw [List.take_of_length_le (by rw [HH.out.2.2.1]; exact Nat.le_refl _)] at htd
      have HX := Lib.hid (And.intro htd hbel)
      have hRT := HH.out.2.2.2.2.2
      by_cases hk0 : k = 0
      · rw [if_pos hk0] at hRT
        subst hRT
        have ht0 : t.size = 0 := by omega
        obtain rfl : t = ⟨#[]⟩ := str_empty (List.eq_nil_of_length_eq_zero (by rw [size_list]; exact ht0))
        clear htd hbel htp hlt hts ht0
        go_wp2
        go_ret
        exact ⟨rfl, HX.out.2⟩
      · rw [if_neg hk0] at hRT
        subst hRT
        have htp2 := htp (by omega)
        have g2 : ¬ t.toList = [] := fun e => by
          rw [ByteArray.toList_eq] at e
          have h1 : t.data.toList.length = t.size := Array.length_toList
          rw [e] at h1
          simp at h1
          omega
        have g1 : (t.toList == []) = false := beq_eq_false_iff_ne.2 g2
        have g3 : t.toList.isEmpty = false := by cases hh : t.toList with | nil => exact absurd hh g2 | cons a b => rfl
        clear htd hbel htp hlt hts htp2
        go_wp2
        go_ret
        exact ⟨by rw [← HX.out.1, Array.toArray_toList]; rfl, HX.out.2⟩
end Go.Proofs.YtbclgalocipmfaaDoor
