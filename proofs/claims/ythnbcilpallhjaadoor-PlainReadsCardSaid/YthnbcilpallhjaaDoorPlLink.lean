/-
  A text cut in two at a sign; the program's link of a text.
-/
import Derived.Test.YthnbcilpallhjaaDoorPlNum
import Derived.Test.YthnbcilpallhjaaDoorShelfC
namespace Go.Proofs.YthnbcilpallhjaaDoor
open Go.RowKit
set_option maxRecDepth 100000
set_option maxRecDepth 100000
set_option linter.unusedVariables false
theorem idx_range (c : UInt8) : ∀ l : List UInt8, Lib.indexByte l c = -1 ∨ (0 ≤ Lib.indexByte l c ∧ Lib.indexByte l c < l.length)
  | [] => .inl rfl
  | b :: l => by
    have ih := idx_range c l
    unfold Lib.indexByte
    split
    · exact .inr ⟨by omega, by simp⟩
    · split
      · exact .inl rfl
      · rename_i h1 h2
        rcases ih with h | ⟨h3, h4⟩
        · rw [h] at h2; exact absurd rfl h2
        · exact .inr ⟨by omega, by simp only [List.length_cons]; omega⟩
def cutA (l : List UInt8) (c : UInt8) : List UInt8 := if Lib.indexByte l c = -1 then l else l.take (Lib.indexByte l c).toNat
def cutB (l : List UInt8) (c : UInt8) : List UInt8 := if Lib.indexByte l c = -1 then [] else l.drop ((Lib.indexByte l c).toNat + 1)
def CutRet (l : List UInt8) (c : UInt8) (w : World) (e : Ending) (w' : World) : Prop :=
  ∃ (a b : ByteArray) (ok : Bool), e = .returned (.tuple #[.string a, .string b, .bool ok]) ∧ a.data.toList = cutA l c ∧ b.data.toList = cutB l c ∧ Below w.heap.size w w'
set_option maxHeartbeats 4000000 in
theorem scut_f (s : ByteArray) (c : UInt8) (w : World) (hs : s.size ≤ 1000000) : Calls Tryd.prog 101 #[.string s, .string ⟨#[c]⟩] w (CutRet s.data.toList c w) := by
  have hI := Tryd.stringslite_Index_one s c w
  have hsl : s.data.toList.length = s.size := Array.length_toList
  have hr := idx_range c s.data.toList
  obtain ⟨i, hi⟩ : ∃ i, Lib.indexByte s.data.toList c = i := ⟨_, rfl⟩
  have hA : cutA s.data.toList c = if i = -1 then s.data.toList else s.data.toList.take i.toNat := by unfold cutA; rw [hi]
  have hB : cutB s.data.toList c = if i = -1 then [] else s.data.toList.drop (i.toNat + 1) := by unfold cutB; rw [hi]
  rw [hi] at hI hr
  rcases hr with rfl | ⟨h0, h1⟩
  · have HH := Lib.hid (And.intro hI (And.intro hA hB))
    clear hI hA hB hi hsl
    go_enter Tryd.func101, Tryd.ntmps101
    go_wp2_with fail
    refine HH.out.1.mono ?_
    rintro e w1 ⟨rfl, hw⟩
    obtain rfl := hw.symm
    go_wp2
    go_ret3
    exact ⟨s, ⟨#[]⟩, false, rfl, by rw [HH.out.2.1]; rfl, by rw [HH.out.2.2]; rfl, Below.refl _ _⟩
  · obtain ⟨k, rfl⟩ := Int.eq_ofNat_of_zero_le h0
    have hkI : (k : Int) < s.size := by omega
    have hkn : ¬ (k : Int) = -1 := by omega
    rw [if_neg hkn] at hA hB
    have hsI : (s.size : Int) ≤ 1000000 := by omega
    have HH := Lib.hid (And.intro hI (And.intro hA (And.intro hB hsl)))
    clear hI hA hB hi hsl h1
    go_enter Tryd.func101, Tryd.ntmps101
    go_wp2_with fail
    refine HH.out.1.mono ?_
    rintro e w1 ⟨rfl, hw⟩
    obtain rfl := hw.symm
    go_wp2
    go_quiet (fail)
    go_wp2
    go_ret3
    have e1 : (s.extract 0 k).data.toList = s.data.toList.take k := by simp [ByteArray.data_extract, Array.toList_extract]
    have e2 : (s.extract (k + 1) s.size).data.toList = s.data.toList.drop (k + 1) := by
      simp only [ByteArray.data_extract, Array.toList_extract, List.extract_eq_take_drop]
      rw [List.take_of_length_le (by rw [List.length_drop, HH.out.2.2.2]; exact Nat.le_refl _)]
    exact ⟨_, _, true, rfl, by rw [HH.out.2.1, e1, Int.toNat_natCast], by rw [HH.out.2.2.1, e2, Int.toNat_natCast], drewN_below _ _ _⟩
set_option maxHeartbeats 4000000 in
theorem cut_f (s : ByteArray) (c : UInt8) (w : World) (hs : s.size ≤ 1000000) : Calls Tryd.prog 70 #[.string s, .string ⟨#[c]⟩] w (CutRet s.data.toList c w) := by
  have HH := Lib.hid (scut_f s c w hs)
  clear hs
  go_enter Tryd.func70, Tryd.ntmps70
  go_wp2_with fail
  refine HH.out.mono ?_
  rintro e w1 ⟨a, b, ok, rfl, h1, h2, h3⟩
  have H1 := Lib.hid (And.intro h1 (And.intro h2 h3))
  clear h1 h2 h3
  go_wp2
  go_ret3
  exact ⟨a, b, ok, rfl, H1.out⟩
theorem isLink_f (n : Int) (w : World) : Calls Tryd.prog 66 #[.int .i64 n] w fun e w' => e = .returned (.bool (decide (0 ≤ n ∧ n ≤ 65535))) ∧ w' = w := by
  obtain ⟨q, hq⟩ : ∃ q, decide (0 ≤ n ∧ n ≤ 65535) = q := ⟨_, rfl⟩
  rw [hq]
  by_cases h0 : 0 ≤ n
  · by_cases h1 : n ≤ 65535
    · obtain rfl : true = q := by rw [← hq]; exact (decide_eq_true ⟨h0, h1⟩).symm
      clear hq
      go_enter Tryd.func66, Tryd.ntmps66
      go_wp2
      go_ret
      exact ⟨rfl, rfl⟩
    · obtain rfl : false = q := by rw [← hq]; exact (decide_eq_false (by omega)).symm
      clear hq
      go_enter Tryd.func66, Tryd.ntmps66
      go_wp2
      go_ret
      exact ⟨rfl, rfl⟩
  · obtain rfl : false = q := by rw [← hq]; exact (decide_eq_false (by omega)).symm
    clear hq
    go_enter Tryd.func66, Tryd.ntmps66
    go_wp2
    go_ret
    exact ⟨rfl, rfl⟩
theorem numR_none : numR none = .returned (.tuple #[.int .i64 0, .int .i64 20]) := rfl
theorem numR_some (v : Int) : numR (some v) = .returned (.tuple #[.int .i64 v, .int .i64 0]) := rfl
/-- A link's numbers. -/
def linkQ (l : List UInt8) : Option (Int × Int) :=
  match numP (cutA l 58), numP (cutB l 58) with
  | some a, some b => if (0 ≤ a ∧ a ≤ 65535) ∧ 0 ≤ b ∧ b ≤ 65535 then some (a, b) else none
  | _, _ => none
def linkR (o : Option (Int × Int)) : Ending := .returned (.tuple #[.int .i64 (o.getD (0, 0)).1, .int .i64 (o.getD (0, 0)).2, .int .i64 (if o.isSome then 0 else 20)])
set_option maxHeartbeats 4000000 in
theorem link_p (s : ByteArray) (hs : s.size ≤ 1000000) (w : World) (hE : TabE w) (hD : TabD w) : Calls Tryd.prog 41 #[.string s] w fun e w' => e = linkR (linkQ s.data.toList) ∧ Below w.heap.size w w' := by
  obtain ⟨res, hres⟩ : ∃ res, linkQ s.data.toList = res := ⟨_, rfl⟩
  rw [hres]
  unfold linkQ at hres
  have hC := cut_f s 58 w hs
  have hsl : s.data.toList.length = s.size := Array.length_toList
  have hla : (cutA s.data.toList 58).length ≤ 1000000 := by unfold cutA; split <;> simp [List.length_take] <;> omega
  have hlb : (cutB s.data.toList 58).length ≤ 1000000 := by unfold cutB; split <;> simp [List.length_drop] <;> omega
  have HH := Lib.hid (And.intro hC (And.intro hE (And.intro hD (And.intro hres (And.intro hla hlb)))))
  clear hC hE hD hres hsl hla hlb
  go_enter Tryd.func41, Tryd.ntmps41
  go_wp2_with fail
  refine HH.out.1.mono ?_
  rintro e w1 ⟨a, b, ok, rfl, h1, h2, b1⟩
  have hza : a.size ≤ 1000000 := by have h := HH.out.2.2.2.2.1; rw [← h1, Array.length_toList] at h; exact h
  have hzb : b.size ≤ 1000000 := by have h := HH.out.2.2.2.2.2; rw [← h2, Array.length_toList] at h; exact h
  have hna := number_p a hza w1 (HH.out.2.1.below b1 HH.out.2.1.size) (HH.out.2.2.1.below b1 HH.out.2.2.1.size)
  have hnb := fun W (h : Below w.heap.size w W) => number_p b hzb W (HH.out.2.1.below h HH.out.2.1.size) (HH.out.2.2.1.below h HH.out.2.2.1.size)
  rw [h1] at hna
  rw [h2] at hnb
  obtain ⟨x, hx⟩ : ∃ x, numP (cutA s.data.toList 58) = x := ⟨_, rfl⟩
  obtain ⟨y, hy⟩ : ∃ y, numP (cutB s.data.toList 58) = y := ⟨_, rfl⟩
  have hr := HH.out.2.2.2.1
  rw [hx, hy] at hr
  rw [hx] at hna
  rw [hy] at hnb
  have H1 := Lib.hid (And.intro b1 hr)
  clear b1 hr hx hy hza hzb h1 h2
  try dsimp only
  rcases x with _ | u
  · have hres : none = res := by have h := H1.out.2; cases y <;> exact h
    subst hres
    rw [numR_none] at hna
    rcases y with _ | v
    · simp only [numR_none] at hnb
      have HN := Lib.hid (And.intro hna hnb)
      clear hna hnb
      go_wp2_with fail
      refine HN.out.1.mono ?_
      rintro e w2 ⟨rfl, b2⟩
      have H2 := Lib.hid (H1.out.1.trans (b2.mono H1.out.1.size))
      clear b2
      try dsimp only
      go_wp2_with fail
      refine (HN.out.2 w2 H2.out).mono ?_
      rintro e w3 ⟨rfl, b3⟩
      have H3 := Lib.hid (H2.out.trans (b3.mono H2.out.size))
      clear b3
      try dsimp only
      go_wp2
      go_ret3
      exact ⟨rfl, H3.out⟩
    · simp only [numR_some] at hnb
      have HN := Lib.hid (And.intro hna hnb)
      clear hna hnb
      go_wp2_with fail
      refine HN.out.1.mono ?_
      rintro e w2 ⟨rfl, b2⟩
      have H2 := Lib.hid (H1.out.1.trans (b2.mono H1.out.1.size))
      clear b2
      try dsimp only
      go_wp2_with fail
      refine (HN.out.2 w2 H2.out).mono ?_
      rintro e w3 ⟨rfl, b3⟩
      have H3 := Lib.hid (H2.out.trans (b3.mono H2.out.size))
      clear b3
      try dsimp only
      go_wp2
      go_ret3
      exact ⟨rfl, H3.out⟩
  · rw [numR_some] at hna
    rcases y with _ | v
    · have hres : none = res := H1.out.2
      subst hres
      simp only [numR_none] at hnb
      have HN := Lib.hid (And.intro hna hnb)
      clear hna hnb
      go_wp2_with fail
      refine HN.out.1.mono ?_
      rintro e w2 ⟨rfl, b2⟩
      have H2 := Lib.hid (H1.out.1.trans (b2.mono H1.out.1.size))
      clear b2
      try dsimp only
      go_wp2_with fail
      refine (HN.out.2 w2 H2.out).mono ?_
      rintro e w3 ⟨rfl, b3⟩
      have H3 := Lib.hid (H2.out.trans (b3.mono H2.out.size))
      clear b3
      try dsimp only
      go_wp2
      go_ret3
      exact ⟨rfl, H3.out⟩
    · have hres : (if (0 ≤ u ∧ u ≤ 65535) ∧ 0 ≤ v ∧ v ≤ 65535 then some (u, v) else none) = res := H1.out.2
      simp only [numR_some] at hnb
      have HN := Lib.hid (And.intro hna hnb)
      have hiu := fun W => isLink_f u W
      have hiv := fun W => isLink_f v W
      clear hna hnb
      by_cases cu : 0 ≤ u ∧ u ≤ 65535
      · simp only [decide_eq_true cu] at hiu
        by_cases cv : 0 ≤ v ∧ v ≤ 65535
        · simp only [decide_eq_true cv] at hiv
          rw [if_pos ⟨cu, cv⟩] at hres
          subst hres
          have HL := Lib.hid (And.intro hiu hiv)
          clear hiu hiv cu cv
          go_wp2_with fail
          refine HN.out.1.mono ?_
          rintro e w2 ⟨rfl, b2⟩
          have H2 := Lib.hid (H1.out.1.trans (b2.mono H1.out.1.size))
          clear b2
          try dsimp only
          go_wp2_with fail
          refine (HN.out.2 w2 H2.out).mono ?_
          rintro e w3 ⟨rfl, b3⟩
          have H3 := Lib.hid (H2.out.trans (b3.mono H2.out.size))
          clear b3
          try dsimp only
          go_wp2_with (go_at_call 66; (first | (refine (HL.out.1 _).mono ?_; rintro e w4 ⟨rfl, hw⟩; obtain rfl := hw.symm) | (refine (HL.out.2 _).mono ?_; rintro e w4 ⟨rfl, hw⟩; obtain rfl := hw.symm)))
          go_ret3
          exact ⟨rfl, H3.out⟩
        · simp only [decide_eq_false cv] at hiv
          rw [if_neg (fun h => cv h.2)] at hres
          subst hres
          have HL := Lib.hid (And.intro hiu hiv)
          clear hiu hiv cu cv
          go_wp2_with fail
          refine HN.out.1.mono ?_
          rintro e w2 ⟨rfl, b2⟩
          have H2 := Lib.hid (H1.out.1.trans (b2.mono H1.out.1.size))
          clear b2
          try dsimp only
          go_wp2_with fail
          refine (HN.out.2 w2 H2.out).mono ?_
          rintro e w3 ⟨rfl, b3⟩
          have H3 := Lib.hid (H2.out.trans (b3.mono H2.out.size))
          clear b3
          try dsimp only
          go_wp2_with (go_at_call 66; (first | (refine (HL.out.1 _).mono ?_; rintro e w4 ⟨rfl, hw⟩; obtain rfl := hw.symm) | (refine (HL.out.2 _).mono ?_; rintro e w4 ⟨rfl, hw⟩; obtain rfl := hw.symm)))
          go_ret3
          exact ⟨rfl, H3.out⟩
      · simp only [decide_eq_false cu] at hiu
        rw [if_neg (fun h => cu h.1)] at hres
        subst hres
        have HL := Lib.hid (And.intro hiu hiv)
        clear hiu hiv cu
        go_wp2_with fail
        refine HN.out.1.mono ?_
        rintro e w2 ⟨rfl, b2⟩
        have H2 := Lib.hid (H1.out.1.trans (b2.mono H1.out.1.size))
        clear b2
        try dsimp only
        go_wp2_with fail
        refine (HN.out.2 w2 H2.out).mono ?_
        rintro e w3 ⟨rfl, b3⟩
        have H3 := Lib.hid (H2.out.trans (b3.mono H2.out.size))
        clear b3
        try dsimp only
        go_wp2_with (go_at_call 66; (first | (refine (HL.out.1 _).mono ?_; rintro e w4 ⟨rfl, hw⟩; obtain rfl := hw.symm) | (refine (HL.out.2 _).mono ?_; rintro e w4 ⟨rfl, hw⟩; obtain rfl := hw.symm)))
        go_ret3
        exact ⟨rfl, H3.out⟩
end Go.Proofs.YthnbcilpallhjaaDoor
