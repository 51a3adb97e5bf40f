/-
  The program's number of a text, and what is read of a truth and of a text.
-/
/-
  A text cut in two at a sign; the program's link of a text.
-/
/-
  A number's text is read as it.
-/
import Derived.Test.YtbclgalocipmfaaDoorPlPWrite
import Derived.Test.YtbclgalocipmfaaDoorShelfP
import Derived.Lib.AtoiErrMem
import Derived.Lib.ParseIntBTie
import Derived.Test.YtbclgalocipmfaaDoorShelfC
namespace Go.Proofs.YtbclgalocipmfaaDoor
open Go.RowKit
set_option maxRecDepth 100000
set_option maxRecDepth 100000
set_option linter.unusedVariables false
/-- The two errors of package strconv as they are laid. -/
def TabE (w : World) : Prop := (∃ tp p, w.var? Tryd.prog "strconv.ErrSyntax" = some #[.iface tp p]) ∧ ∃ tp p, w.var? Tryd.prog "strconv.ErrRange" = some #[.iface tp p]
theorem errs_named : Tryd.prog.globalNamed "strconv.ErrSyntax" = some 4 ∧ Tryd.prog.globalNamed "strconv.ErrRange" = some 5 := ⟨by kernel_rfl, by kernel_rfl⟩
theorem var_below {B : Nat} {a w : World} {nm : String} {g : Nat} (hb : Below B a w) (hn : Tryd.prog.globalNamed nm = some g) (hg : g < B) : w.var? Tryd.prog nm = a.var? Tryd.prog nm := by
  unfold World.var?
  rw [hn, Option.bind_some, Option.bind_some, hb.block g hg]
theorem TabE.below {B : Nat} {a w : World} (h : TabE a) (hb : Below B a w) (hB : 6 ≤ B) : TabE w := by
  obtain ⟨⟨t1, p1, h1⟩, t2, p2, h2⟩ := h
  exact ⟨⟨t1, p1, (var_below hb errs_named.1 (Nat.lt_of_lt_of_le (by decide) hB)).trans h1⟩, t2, p2, (var_below hb errs_named.2 (Nat.lt_of_lt_of_le (by decide) hB)).trans h2⟩
theorem TabE.size {w : World} (h : TabE w) : 6 ≤ w.heap.size := by
  obtain ⟨_, t2, p2, h2⟩ := h
  unfold World.var? at h2
  rw [errs_named.2, Option.bind_some] at h2
  rcases Nat.lt_or_ge 5 w.heap.size with h' | h'
  · exact h'
  · rw [Array.getElem?_eq_none h'] at h2; simp at h2
/-- The number that a text is read as, if it is one. -/
def parsed (l : List UInt8) : Option Int := match Lib.parseIntB 64 l with | .ok v => some v | _ => none
theorem parse_f (s : ByteArray) (hs : s.size ≤ 1000000) (w : World) (hE : TabE w) :
    Calls Tryd.prog 67 #[.string s, .int .i64 10, .int .i64 64] w fun e w' => ∃ (v : Int) (er : Value), e = .returned (.tuple #[.int .i64 v, er]) ∧ ((er = .nilIface ∧ parsed s.data.toList = some v) ∨ (∃ N, er = .iface 171 (.pointer (some ⟨N, 0, none⟩))) ∧ parsed s.data.toList = none) ∧ Below w.heap.size w w' := by
  obtain ⟨⟨t1, p1, h1⟩, t2, p2, h2⟩ := hE
  unfold parsed
  rcases hp : Lib.parseIntB 64 s.data.toList with v | _ | _
  · refine (Go.Proofs.Any.strconv_ParseInt_10_at64_ok Tryd.laysC174 s (by omega) v hp w).mono ?_
    rintro e w' ⟨rfl, hw⟩
    refine ⟨v, .nilIface, rfl, .inl ⟨rfl, rfl⟩, ?_⟩
    rcases hw with rfl | ⟨t, rfl⟩
    · exact Below.refl _ _
    · exact Lib.bytesWorld_below _ _ _
  · refine (Go.Proofs.Any.strconv_ParseInt_10_at64_syntax_var Tryd.laysC174 s (by omega) hp t1 p1 w h1).mono ?_
    rintro e w' ⟨N, rfl, _, _, hb⟩
    exact ⟨0, _, rfl, .inr ⟨⟨N, rfl⟩, rfl⟩, hb⟩
  · refine (Go.Proofs.Any.strconv_ParseInt_10_at64_range_var Tryd.laysC174 s (by omega) hp t2 p2 w h2).mono ?_
    rintro e w' ⟨N, rfl, _, _, hb⟩
    exact ⟨_, _, rfl, .inr ⟨⟨N, rfl⟩, rfl⟩, hb⟩
def numP (l : List UInt8) : Option Int := if 20 < l.length then none else match parsed l with | some v => if Lib.itoa v = l then some v else none | none => none
def numR (o : Option Int) : Ending := .returned (.tuple #[.int .i64 (o.getD 0), .int .i64 (if o.isSome then 0 else 20)])
theorem parsed_in {l : List UInt8} {v : Int} (h : parsed l = some v) : -9223372036854775808 ≤ v ∧ v ≤ 9223372036854775807 := by
  unfold parsed at h
  split at h
  · rename_i u hu
    cases h
    have := Lib.parseIntB_bounds hu
    omega
  · cases h
set_option maxHeartbeats 4000000 in
theorem number_p (s : ByteArray) (hs : s.size ≤ 1000000) (w : World) (hE : TabE w) (hD : TabD w) : Calls Tryd.prog 37 #[.string s] w fun e w' => e = numR (numP s.data.toList) ∧ Below w.heap.size w w' := by
  have hsl : s.data.toList.length = s.size := Array.length_toList
  obtain ⟨res, hres⟩ : ∃ res, numP s.data.toList = res := ⟨_, rfl⟩
  rw [hres]
  unfold numP at hres
  by_cases h20 : 20 < s.size
  · rw [if_pos (by omega)] at hres
    subst hres
    have hI : (20 : Int) < s.size := by omega
    clear hE hD hsl
    go_enter Tryd.func37, Tryd.ntmps37
    go_wp2
    go_ret2
    exact ⟨rfl, Below.refl _ _⟩
  rw [if_neg (by omega)] at hres
  have hI : ¬ (20 : Int) < s.size := by omega
  have hp := parse_f s hs w hE
  have HD := Lib.hid (And.intro hD hsl)
  obtain ⟨P, hP⟩ : ∃ P, parsed s.data.toList = P := ⟨_, rfl⟩
  rw [hP] at hp hres
  have HP := Lib.hid hP
  have HR := Lib.hid hres
  clear hP hE hD hsl hres
  go_enter Tryd.func37, Tryd.ntmps37
  go_wp2_with fail
  refine hp.mono ?_
  rintro e w1 ⟨v, er, rfl, hc, b1⟩
  have H1 := Lib.hid b1
  clear b1 hp
  rcases hc with ⟨rfl, rfl⟩ | ⟨⟨N, rfl⟩, rfl⟩
  · obtain ⟨v0, v1⟩ := parsed_in HP.out
    have hF := fmtInt_f v v0 v1 w1 (HD.out.1.below H1.out HD.out.1.size)
    obtain ⟨t, ht⟩ : ∃ t : ByteArray, ⟨(Lib.itoa v).toArray⟩ = t := ⟨_, rfl⟩
    rw [ht] at hF
    have HF := Lib.hid (And.intro hF ht)
    have HR2 : (if Lib.itoa v = s.data.toList then some v else none) = res := HR.out
    have HR3 := Lib.hid HR2
    clear hF ht HR2 v0 v1
    try dsimp only
    go_wp2_with fail
    refine (HF.out.1).mono ?_
    rintro e w2 ⟨rfl, b2⟩
    have H2 := Lib.hid (H1.out.trans (b2.mono H1.out.size))
    clear b2
    by_cases hq : Lib.itoa v = s.data.toList
    · have hts : t = s := by rw [← HF.out.2]; rw [hq]
      have hrs : some v = res := by have := HR3.out; rw [if_pos hq] at this; exact this
      subst hts
      subst hrs
      have hss : (t.toList == t.toList) = true := beq_self_eq_true _
      clear hq
      go_wp2
      go_ret2
      exact ⟨rfl, H2.out⟩
    · have hts : ¬ t.toList = s.toList := fun h => hq (by
        have h1 : t.data.toList = s.data.toList := by rw [← ByteArray.toList_eq, ← ByteArray.toList_eq]; exact h
        rw [← h1, ← HF.out.2])
      have hrs : none = res := by have := HR3.out; rw [if_neg hq] at this; exact this
      subst hrs
      have hss : (t.toList == s.toList) = false := beq_eq_false_iff_ne.2 hts
      clear hq hts
      go_wp2
      go_ret2
      exact ⟨rfl, H2.out⟩
  · have hrs : none = res := HR.out
    subst hrs
    try dsimp only
    go_wp2
    go_ret2
    exact ⟨rfl, H1.out⟩
def truthQ (l : List UInt8) : Option Int := if l = [48] then some 0 else if l = [49] then some 1 else none
theorem bytes_is {s : ByteArray} {l : List UInt8} : s.toList = l ↔ s.data.toList = l := by rw [ByteArray.toList_eq]
set_option maxHeartbeats 4000000 in
theorem truth_p (s : ByteArray) (w : World) : Calls Tryd.prog 38 #[.string s] w fun e w' => e = numR (truthQ s.data.toList) ∧ w' = w := by
  obtain ⟨res, hres⟩ : ∃ res, truthQ s.data.toList = res := ⟨_, rfl⟩
  rw [hres]
  unfold truthQ at hres
  by_cases h0 : s.toList = [48]
  · rw [if_pos (bytes_is.1 h0)] at hres
    subst hres
    have e0 : (s.toList == [48]) = true := beq_iff_eq.2 h0
    go_enter Tryd.func38, Tryd.ntmps38
    go_wp2
    go_ret2
    exact ⟨rfl, rfl⟩
  rw [if_neg (fun h => h0 (bytes_is.2 h))] at hres
  have e0 : (s.toList == [48]) = false := beq_eq_false_iff_ne.2 h0
  by_cases h1 : s.toList = [49]
  · rw [if_pos (bytes_is.1 h1)] at hres
    subst hres
    have e1 : (s.toList == [49]) = true := beq_iff_eq.2 h1
    clear h0
    go_enter Tryd.func38, Tryd.ntmps38
    go_wp2
    go_ret2
    exact ⟨rfl, rfl⟩
  · rw [if_neg (fun h => h1 (bytes_is.2 h))] at hres
    subst hres
    have e1 : (s.toList == [49]) = false := beq_eq_false_iff_ne.2 h1
    clear h0 h1
    go_enter Tryd.func38, Tryd.ntmps38
    go_wp2
    go_ret2
    exact ⟨rfl, rfl⟩
def textE (l : List UInt8) : Int := if 200 < l.length then 2 else if okN (runesQ l) = 1 then 0 else 20
set_option maxHeartbeats 4000000 in
theorem text_p (s : ByteArray) (hs : s.size ≤ 1000000) (w : World) (hU : Tabs w) : Calls Tryd.prog 39 #[.string s] w fun e w' => ∃ t : ByteArray, e = .returned (.tuple #[.string t, .int .i64 (textE s.data.toList)]) ∧ t = (if textE s.data.toList = 0 then s else ⟨#[]⟩) ∧ Below w.heap.size w w' := by
  have hsl : s.data.toList.length = s.size := Array.length_toList
  obtain ⟨er, her⟩ : ∃ er, textE s.data.toList = er := ⟨_, rfl⟩
  rw [her]
  unfold textE at her
  by_cases h200 : 200 < s.size
  · rw [if_pos (by omega)] at her
    subst her
    have hI : (200 : Int) < s.size := by omega
    clear hsl
    go_enter Tryd.func39, Tryd.ntmps39
    go_wp2
    go_ret2
    exact ⟨_, rfl, rfl, Below.refl _ _⟩
  rw [if_neg (by omega)] at her
  have hI : ¬ (200 : Int) < s.size := by omega
  have cP := isPlain_f s w hs hU
  obtain ⟨q, hq⟩ : ∃ q, decide (okN (runesQ s.data.toList) = 1) = q := ⟨_, rfl⟩
  rw [hq] at cP
  have HC := Lib.hid cP
  cases q with
  | true =>
    rw [if_pos (of_decide_eq_true hq)] at her
    subst her
    clear hq hsl cP
    go_enter Tryd.func39, Tryd.ntmps39
    go_wp2_with fail
    refine HC.out.mono ?_
    rintro e w1 ⟨rfl, b1⟩
    have H1 := Lib.hid b1
    clear b1
    go_wp2_with fail
    refine (sclone_f s w1 hs).mono ?_
    rintro e w2 ⟨rfl, b2⟩
    have H2 := Lib.hid (H1.out.trans (b2.mono H1.out.size))
    clear b2
    go_wp2
    go_ret2
    exact ⟨_, rfl, rfl, H2.out⟩
  | false =>
    rw [if_neg (of_decide_eq_false hq)] at her
    subst her
    clear hq hsl cP
    go_enter Tryd.func39, Tryd.ntmps39
    go_wp2_with fail
    refine HC.out.mono ?_
    rintro e w1 ⟨rfl, b1⟩
    have H1 := Lib.hid b1
    clear b1
    go_wp2
    go_ret2
    exact ⟨_, rfl, rfl, H1.out⟩
theorem idx_range (c : UInt8) : ∀ l : List UInt8, Lib.indexByte l c = -1 ∨ (0 ≤ Lib.indexByte l c ∧ Lib.indexByte l c < l.length)
  | [] => .inl rfl
  | b :: l => by
    have ih := idx_range c l
    unfold Lib.indexByte
    split
    · exact .inr ⟨by omega, by simp⟩
    · split
      · exact .inl rfl
      · rename_i h1 h2
        rcases ih with h | ⟨h3, h4⟩
        · rw [h] at h2; exact absurd rfl h2
        · exact .inr ⟨by omega, by simp only [List.length_cons]; omega⟩
def cutA (l : List UInt8) (c : UInt8) : List UInt8 := if Lib.indexByte l c = -1 then l else l.take (Lib.indexByte l c).toNat
def cutB (l : List UInt8) (c : UInt8) : List UInt8 := if Lib.indexByte l c = -1 then [] else l.drop ((Lib.indexByte l c).toNat + 1)
def CutRet (l : List UInt8) (c : UInt8) (w : World) (e : Ending) (w' : World) : Prop :=
  ∃ (a b : ByteArray) (ok : Bool), e = .returned (.tuple #[.string a, .string b, .bool ok]) ∧ a.data.toList = cutA l c ∧ b.data.toList = cutB l c ∧ Below w.heap.size w w'
set_option maxHeartbeats 4000000 in
theorem scut_f (s : ByteArray) (c : UInt8) (w : World) (hs : s.size ≤ 1000000) : Calls Tryd.prog 101 #[.string s, .string ⟨#[c]⟩] w (CutRet s.data.toList c w) := by
  have hI := Tryd.stringslite_Index_one s c w
  have hsl : s.data.toList.length = s.size := Array.length_toList
  have hr := idx_range c s.data.toList
  obtain ⟨i, hi⟩ : ∃ i, Lib.indexByte s.data.toList c = i := ⟨_, rfl⟩
  have hA : cutA s.data.toList c = if i = -1 then s.data.toList else s.data.toList.take i.toNat := by unfold cutA; rw [hi]
  have hB : cutB s.data.toList c = if i = -1 then [] else s.data.toList.drop (i.toNat + 1) := by unfold cutB; rw [hi]
  rw [hi] at hI hr
  rcases hr with rfl | ⟨h0, h1⟩
  · have HH := Lib.hid (And.intro hI (And.intro hA hB))
    clear hI hA hB hi hsl
    go_enter Tryd.func101, Tryd.ntmps101
    go_wp2_with fail
    refine HH.out.1.mono ?_
    rintro e w1 ⟨rfl, hw⟩
    obtain rfl := hw.symm
    go_wp2
    go_ret3
    exact ⟨s, ⟨#[]⟩, false, rfl, by rw [HH.out.2.1]; rfl, by rw [HH.out.2.2]; rfl, Below.refl _ _⟩
  · obtain ⟨k, rfl⟩ := Int.eq_ofNat_of_zero_le h0
    have hkI : (k : Int) < s.size := by omega
    have hkn : ¬ (k : Int) = -1 := by omega
    rw [if_neg hkn] at hA hB
    have hsI : (s.size : Int) ≤ 1000000 := by omega
    have HH := Lib.hid (And.intro hI (And.intro hA (And.intro hB hsl)))
    clear hI hA hB hi hsl h1
    go_enter Tryd.func101, Tryd.ntmps101
    go_wp2_with fail
    refine HH.out.1.mono ?_
    rintro e w1 ⟨rfl, hw⟩
    obtain rfl := hw.symm
    go_wp2
    go_quiet (fail)
    go_wp2
    go_ret3
    have e1 : (s.extract 0 k).data.toList = s.data.toList.take k := by simp [ByteArray.data_extract, Array.toList_extract]
    have e2 : (s.extract (k + 1) s.size).data.toList = s.data.toList.drop (k + 1) := by
      simp only [ByteArray.data_extract, Array.toList_extract, List.extract_eq_take_drop]
      rw [List.take_of_length_le (by rw [List.length_drop, HH.out.2.2.2]; exact Nat.le_refl _)]
    exact ⟨_, _, true, rfl, by rw [HH.out.2.1, e1, Int.toNat_natCast], by rw [HH.out.2.2.1, e2, Int.toNat_natCast], drewN_below _ _ _⟩
set_option maxHeartbeats 4000000 in
theorem cut_f (s : ByteArray) (c : UInt8) (w : World) (hs : s.size ≤ 1000000) : Calls Tryd.prog 70 #[.string s, .string ⟨#[c]⟩] w (CutRet s.data.toList c w) := by
  have HH := Lib.hid (scut_f s c w hs)
  clear hs
  go_enter Tryd.func70, Tryd.ntmps70
  go_wp2_with fail
  refine HH.out.mono ?_
  rintro e w1 ⟨a, b, ok, rfl, h1, h2, h3⟩
  have H1 := Lib.hid (And.intro h1 (And.intro h2 h3))
  clear h1 h2 h3
  go_wp2
  go_ret3
  exact ⟨a, b, ok, rfl, H1.out⟩
theorem isLink_f (n : Int) (w : World) : Calls Tryd.prog 66 #[.int .i64 n] w fun e w' => e = .returned (.bool (decide (0 ≤ n ∧ n ≤ 65535))) ∧ w' = w := by
  obtain ⟨q, hq⟩ : ∃ q, decide (0 ≤ n ∧ n ≤ 65535) = q := ⟨_, rfl⟩
  rw [hq]
  by_cases h0 : 0 ≤ n
  · by_cases h1 : n ≤ 65535
    · obtain rfl : true = q := by rw [← hq]; exact (decide_eq_true ⟨h0, h1⟩).symm
      clear hq
      go_enter Tryd.func66, Tryd.ntmps66
      go_wp2
      go_ret
      exact ⟨rfl, rfl⟩
    · obtain rfl : false = q := by rw [← hq]; exact (decide_eq_false (by omega)).symm
      clear hq
      go_enter Tryd.func66, Tryd.ntmps66
      go_wp2
      go_ret
      exact ⟨rfl, rfl⟩
  · obtain rfl : false = q := by rw [← hq]; exact (decide_eq_false (by omega)).symm
    clear hq
    go_enter Tryd.func66, Tryd.ntmps66
    go_wp2
    go_ret
    exact ⟨rfl, rfl⟩
theorem numR_none : numR none = .returned (.tuple #[.int .i64 0, .int .i64 20]) := rfl
theorem numR_some (v : Int) : numR (some v) = .returned (.tuple #[.int .i64 v, .int .i64 0]) := rfl
/-- A link's numbers. -/
def linkQ (l : List UInt8) : Option (Int × Int) :=
  match numP (cutA l 58), numP (cutB l 58) with
  | some a, some b => if (0 ≤ a ∧ a ≤ 65535) ∧ 0 ≤ b ∧ b ≤ 65535 then some (a, b) else none
  | _, _ => none
def linkR (o : Option (Int × Int)) : Ending := .returned (.tuple #[.int .i64 (o.getD (0, 0)).1, .int .i64 (o.getD (0, 0)).2, .int .i64 (if o.isSome then 0 else 20)])
set_option maxHeartbeats 4000000 in
theorem link_p (s : ByteArray) (hs : s.size ≤ 1000000) (w : World) (hE : TabE w) (hD : TabD w) : Calls Tryd.prog 41 #[.string s] w fun e w' => e = linkR (linkQ s.data.toList) ∧ Below w.heap.size w w' := by
  obtain ⟨res, hres⟩ : ∃ res, linkQ s.data.toList = res := ⟨_, rfl⟩
  rw [hres]
  unfold linkQ at hres
  have hC := cut_f s 58 w hs
  have hsl : s.data.toList.length = s.size := Array.length_toList
  have hla : (cutA s.data.toList 58).length ≤ 1000000 := by unfold cutA; split <;> simp [List.length_take] <;> omega
  have hlb : (cutB s.data.toList 58).length ≤ 1000000 := by unfold cutB; split <;> simp [List.length_drop] <;> omega
  have HH := Lib.hid (And.intro hC (And.intro hE (And.intro hD (And.intro hres (And.intro hla hlb)))))
  clear hC hE hD hres hsl hla hlb
  go_enter Tryd.func41, Tryd.ntmps41
  go_wp2_with fail
  refine HH.out.1.mono ?_
  rintro e w1 ⟨a, b, ok, rfl, h1, h2, b1⟩
  have hza : a.size ≤ 1000000 := by have h := HH.out.2.2.2.2.1; rw [← h1, Array.length_toList] at h; exact h
  have hzb : b.size ≤ 1000000 := by have h := HH.out.2.2.2.2.2; rw [← h2, Array.length_toList] at h; exact h
  have hna := number_p a hza w1 (HH.out.2.1.below b1 HH.out.2.1.size) (HH.out.2.2.1.below b1 HH.out.2.2.1.size)
  have hnb := fun W (h : Below w.heap.size w W) => number_p b hzb W (HH.out.2.1.below h HH.out.2.1.size) (HH.out.2.2.1.below h HH.out.2.2.1.size)
  rw [h1] at hna
  rw [h2] at hnb
  obtain ⟨x, hx⟩ : ∃ x, numP (cutA s.data.toList 58) = x := ⟨_, rfl⟩
  obtain ⟨y, hy⟩ : ∃ y, numP (cutB s.data.toList 58) = y := ⟨_, rfl⟩
  have hr := HH.out.2.2.2.1
  rw [hx, hy] at hr
  rw [hx] at hna
  rw [hy] at hnb
  have H1 := Lib.hid (And.intro b1 hr)
  clear b1 hr hx hy hza hzb h1 h2
  try dsimp only
  rcases x with _ | u
  · have hres : none = res := by have h := H1.out.2; cases y <;> exact h
    subst hres
    rw [numR_none] at hna
    rcases y with _ | v
    · simp only [numR_none] at hnb
      have HN := Lib.hid (And.intro hna hnb)
      clear hna hnb
      go_wp2_with fail
      refine HN.out.1.mono ?_
      rintro e w2 ⟨rfl, b2⟩
      have H2 := Lib.hid (H1.out.1.trans (b2.mono H1.out.1.size))
      clear b2
      try dsimp only
      go_wp2_with fail
      refine (HN.out.2 w2 H2.out).mono ?_
      rintro e w3 ⟨rfl, b3⟩
      have H3 := Lib.hid (H2.out.trans (b3.mono H2.out.size))
      clear b3
      try dsimp only
      go_wp2
      go_ret3
      exact ⟨rfl, H3.out⟩
    · simp only [numR_some] at hnb
      have HN := Lib.hid (And.intro hna hnb)
      clear hna hnb
      go_wp2_with fail
      refine HN.out.1.mono ?_
      rintro e w2 ⟨rfl, b2⟩
      have H2 := Lib.hid (H1.out.1.trans (b2.mono H1.out.1.size))
      clear b2
      try dsimp only
      go_wp2_with fail
      refine (HN.out.2 w2 H2.out).mono ?_
      rintro e w3 ⟨rfl, b3⟩
      have H3 := Lib.hid (H2.out.trans (b3.mono H2.out.size))
      clear b3
      try dsimp only
      go_wp2
      go_ret3
      exact ⟨rfl, H3.out⟩
  · rw [numR_some] at hna
    rcases y with _ | v
    · have hres : none = res := H1.out.2
      subst hres
      simp only [numR_none] at hnb
      have HN := Lib.hid (And.intro hna hnb)
      clear hna hnb
      go_wp2_with fail
      refine HN.out.1.mono ?_
      rintro e w2 ⟨rfl, b2⟩
      have H2 := Lib.hid (H1.out.1.trans (b2.mono H1.out.1.size))
      clear b2
      try dsimp only
      go_wp2_with fail
      refine (HN.out.2 w2 H2.out).mono ?_
      rintro e w3 ⟨rfl, b3⟩
      have H3 := Lib.hid (H2.out.trans (b3.mono H2.out.size))
      clear b3
      try dsimp only
      go_wp2
      go_ret3
      exact ⟨rfl, H3.out⟩
    · have hres : (if (0 ≤ u ∧ u ≤ 65535) ∧ 0 ≤ v ∧ v ≤ 65535 then some (u, v) else none) = res := H1.out.2
      simp only [numR_some] at hnb
      have HN := Lib.hid (And.intro hna hnb)
      have hiu := fun W => isLink_f u W
      have hiv := fun W => isLink_f v W
      clear hna hnb
      by_cases cu : 0 ≤ u ∧ u ≤ 65535
      · simp only [decide_eq_true cu] at hiu
        by_cases cv : 0 ≤ v ∧ v ≤ 65535
        · simp only [decide_eq_true cv] at hiv
          rw [if_pos ⟨cu, cv⟩] at hres
          subst hres
          have HL := Lib.hid (And.intro hiu hiv)
          clear hiu hiv cu cv
          go_wp2_with fail
          refine HN.out.1.mono ?_
          rintro e w2 ⟨rfl, b2⟩
          have H2 := Lib.hid (H1.out.1.trans (b2.mono H1.out.1.size))
          clear b2
          try dsimp only
          go_wp2_with fail
          refine (HN.out.2 w2 H2.out).mono ?_
          rintro e w3 ⟨rfl, b3⟩
          have H3 := Lib.hid (H2.out.trans (b3.mono H2.out.size))
          clear b3
          try dsimp only
          go_wp2_with (go_at_call 66; (first | (refine (HL.out.1 _).mono ?_; rintro e w4 ⟨rfl, hw⟩; obtain rfl := hw.symm) | (refine (HL.out.2 _).mono ?_; rintro e w4 ⟨rfl, hw⟩; obtain rfl := hw.symm)))
          go_ret3
          exact ⟨rfl, H3.out⟩
        · simp only [decide_eq_false cv] at hiv
          rw [if_neg (fun h => cv h.2)] at hres
          subst hres
          have HL := Lib.hid (And.intro hiu hiv)
          clear hiu hiv cu cv
          go_wp2_with fail
          refine HN.out.1.mono ?_
          rintro e w2 ⟨rfl, b2⟩
          have H2 := Lib.hid (H1.out.1.trans (b2.mono H1.out.1.size))
          clear b2
          try dsimp only
          go_wp2_with fail
          refine (HN.out.2 w2 H2.out).mono ?_
          rintro e w3 ⟨rfl, b3⟩
          have H3 := Lib.hid (H2.out.trans (b3.mono H2.out.size))
          clear b3
          try dsimp only
          go_wp2_with (go_at_call 66; (first | (refine (HL.out.1 _).mono ?_; rintro e w4 ⟨rfl, hw⟩; obtain rfl := hw.symm) | (refine (HL.out.2 _).mono ?_; rintro e w4 ⟨rfl, hw⟩; obtain rfl := hw.symm)))
          go_ret3
          exact ⟨rfl, H3.out⟩
      · simp only [decide_eq_false cu] at hiu
        rw [if_neg (fun h => cu h.1)] at hres
        subst hres
        have HL := Lib.hid (And.intro hiu hiv)
        clear hiu hiv cu
        go_wp2_with fail
        refine HN.out.1.mono ?_
        rintro e w2 ⟨rfl, b2⟩
        have H2 := Lib.hid (H1.out.1.trans (b2.mono H1.out.1.size))
        clear b2
        try dsimp only
        go_wp2_with fail
        refine (HN.out.2 w2 H2.out).mono ?_
        rintro e w3 ⟨rfl, b3⟩
        have H3 := Lib.hid (H2.out.trans (b3.mono H2.out.size))
        clear b3
        try dsimp only
        go_wp2_with (go_at_call 66; (first | (refine (HL.out.1 _).mono ?_; rintro e w4 ⟨rfl, hw⟩; obtain rfl := hw.symm) | (refine (HL.out.2 _).mono ?_; rintro e w4 ⟨rfl, hw⟩; obtain rfl := hw.symm)))
        go_ret3
        exact ⟨rfl, H3.out⟩
theorem pu_app (M : Nat) (c : UInt8) : ∀ (l : List UInt8) (acc a : Nat), Lib.parseUintM M acc l = .ok a → Lib.parseUintM M acc (l ++ [c]) = Lib.parseUintM M a [c]
  | [], acc, a, h => by
    have e : Lib.NumEnd.ok acc = Lib.NumEnd.ok a := h
    injection e with e
    subst e
    rfl
  | d :: l, acc, a, h => by
    rw [List.cons_append]
    unfold Lib.parseUintM at h ⊢
    split at h
    · rename_i h1
      rw [if_pos h1]
      split at h
      · cases h
      · rename_i h2
        rw [if_neg h2]
        split at h
        · cases h
        · rename_i h3
          rw [if_neg h3]
          exact pu_app M c l _ a h
    · cases h
theorem pu_digit (M acc d : Nat) (hd : d < 10) (h1 : acc < 1844674407370955162) (h2 : acc * 10 + d ≤ M) : Lib.parseUintM M acc [UInt8.ofNat (48 + d)] = .ok (acc * 10 + d) := by
  have e : (UInt8.ofNat (48 + d)).toNat = 48 + d := by rw [UInt8.toNat_ofNat']; omega
  unfold Lib.parseUintM
  rw [e, if_pos (by omega), if_neg (by omega), show 48 + d - 48 = d by omega, if_neg (by omega)]
  rfl
theorem pu_dec (u : Nat) (hu : u ≤ 18446744073709551615) : Lib.parseUintM 18446744073709551615 0 (Lib.decDigits u) = .ok u := by
  induction u using Nat.strongRecOn with
  | _ u ih =>
    unfold Lib.decDigits
    by_cases h : u < 10
    · rw [dif_pos h]
      have := pu_digit 18446744073709551615 0 u h (by omega) (by omega)
      rw [this]
      congr 1
      omega
    · rw [dif_neg h, pu_app _ _ _ _ _ (ih (u / 10) (by omega) (by omega)), pu_digit _ _ _ (Nat.mod_lt _ (by omega)) (by omega) (by omega)]
      congr 1
      omega
theorem dec_len (k : Nat) : ∀ u, u < 10 ^ (k + 1) → (Lib.decDigits u).length ≤ k + 1 := by
  induction k with
  | zero =>
    intro u h
    unfold Lib.decDigits
    rw [dif_pos (by simpa using h)]
    exact Nat.le_refl _
  | succ k ih =>
    intro u h
    unfold Lib.decDigits
    by_cases h10 : u < 10
    · rw [dif_pos h10]; exact Nat.succ_le_succ (Nat.zero_le _)
    · rw [dif_neg h10, List.length_append]
      have := ih (u / 10) (by rw [Nat.pow_succ] at h; omega)
      simp only [List.length_cons, List.length_nil]
      omega
/-- The first sign of a number's digits. -/
theorem dec_first (u : Nat) : ∃ c r, Lib.decDigits u = c :: r ∧ 48 ≤ c.toNat ∧ c.toNat ≤ 57 ∧ (c.toNat = 48 → u = 0) := by
  induction u using Nat.strongRecOn with
  | _ u ih =>
    unfold Lib.decDigits
    by_cases h : u < 10
    · rw [dif_pos h]
      have e : (UInt8.ofNat (48 + u)).toNat = 48 + u := by rw [UInt8.toNat_ofNat']; omega
      exact ⟨_, [], rfl, by rw [e]; omega, by rw [e]; omega, by rw [e]; omega⟩
    · rw [dif_neg h]
      obtain ⟨c, r, h1, h2, h3, h4⟩ := ih (u / 10) (by omega)
      exact ⟨c, r ++ [UInt8.ofNat (48 + u % 10)], by rw [h1]; rfl, h2, h3, fun e => by have := h4 e; omega⟩
theorem dec_digits (u : Nat) : ∀ c ∈ Lib.decDigits u, 48 ≤ c.toNat ∧ c.toNat ≤ 57 := by
  induction u using Nat.strongRecOn with
  | _ u ih =>
    unfold Lib.decDigits
    by_cases h : u < 10
    · rw [dif_pos h]
      intro c hc
      obtain rfl := List.mem_singleton.1 hc
      have e : (UInt8.ofNat (48 + u)).toNat = 48 + u := by rw [UInt8.toNat_ofNat']; omega
      rw [e]; omega
    · rw [dif_neg h]
      intro c hc
      rcases List.mem_append.1 hc with h1 | h1
      · exact ih (u / 10) (by omega) c h1
      · obtain rfl := List.mem_singleton.1 h1
        have e : (UInt8.ofNat (48 + u % 10)).toNat = 48 + u % 10 := by rw [UInt8.toNat_ofNat']; omega
        rw [e]; omega
theorem parsed_itoa (n : Int) (h0 : -9223372036854775808 ≤ n) (h1 : n ≤ 9223372036854775807) : parsed (Lib.itoa n) = some n := by
  unfold parsed Lib.itoa
  by_cases hn : n < 0
  · rw [if_pos hn]
    have hp := pu_dec n.natAbs (by omega)
    obtain ⟨c, r, hcr, _⟩ := dec_first n.natAbs
    have hne : Lib.decDigits n.natAbs ≠ [] := by rw [hcr]; simp
    have e : Lib.parseIntB 64 (45 :: Lib.decDigits n.natAbs) = .ok n := by
      unfold Lib.parseIntB Lib.parseUintB
      have h45 : (45 : UInt8).toNat = 45 := rfl
      dsimp only
      rw [h45, if_pos (Or.inr rfl), if_neg hne, show 2 ^ 64 - 1 = 18446744073709551615 from rfl, hp]
      dsimp only
      rw [if_neg (by simp), if_neg (by simp; omega), if_pos rfl]
      congr 1
      omega
    rw [e]
  · rw [if_neg hn]
    have hp := pu_dec n.toNat (by omega)
    obtain ⟨c, r, hcr, hc0, hc1, _⟩ := dec_first n.toNat
    have e : Lib.parseIntB 64 (Lib.decDigits n.toNat) = .ok n := by
      rw [hcr] at hp ⊢
      unfold Lib.parseIntB Lib.parseUintB
      dsimp only
      rw [if_neg (show ¬ (c.toNat = 43 ∨ c.toNat = 45) by omega), if_neg (show ¬ (c :: r = []) by simp), show 2 ^ 64 - 1 = 18446744073709551615 from rfl, hp]
      dsimp only
      rw [if_neg (show ¬ (¬ c.toNat = 45 ∧ 2 ^ (64 - 1) ≤ n.toNat) by rw [show 2 ^ (64 - 1) = 9223372036854775808 from rfl]; omega), if_neg (show ¬ (c.toNat = 45 ∧ 2 ^ (64 - 1) < n.toNat) by omega), if_neg (show ¬ (c.toNat = 45) by omega)]
      congr 1
      omega
    rw [e]
theorem itoa_len (n : Int) (h0 : -9223372036854775808 ≤ n) (h1 : n ≤ 9223372036854775807) : (Lib.itoa n).length ≤ 20 := by
  unfold Lib.itoa
  by_cases hn : n < 0
  · rw [if_pos hn, List.length_cons]
    have := dec_len 18 n.natAbs (by show n.natAbs < 10000000000000000000; omega)
    omega
  · rw [if_neg hn]
    have := dec_len 18 n.toNat (by show n.toNat < 10000000000000000000; omega)
    omega
theorem numP_itoa (n : Int) (h0 : -9223372036854775808 ≤ n) (h1 : n ≤ 9223372036854775807) : numP (Lib.itoa n) = some n := by
  unfold numP
  rw [if_neg (by have := itoa_len n h0 h1; omega), parsed_itoa n h0 h1]
  show (if Lib.itoa n = Lib.itoa n then some n else none) = some n
  rw [if_pos rfl]
theorem idx_at (a r : List UInt8) (c : UInt8) (h : ∀ x ∈ a, x ≠ c) : Lib.indexByte (a ++ c :: r) c = (a.length : Int) := by
  induction a with
  | nil => unfold Lib.indexByte; rw [List.nil_append]; simp
  | cons x a ih =>
    rw [List.cons_append]
    unfold Lib.indexByte
    have hx : (x == c) = false := beq_eq_false_iff_ne.2 (h x List.mem_cons_self)
    have ih := ih (fun y hy => h y (List.mem_cons_of_mem _ hy))
    rw [hx, ih]
    have hn : (((a.length : Int)) == -1) = false := beq_eq_false_iff_ne.2 (by omega)
    rw [hn]
    simp
theorem linkQ_itoa (o i : Int) (h0 : 0 ≤ o ∧ o ≤ 65535) (h1 : 0 ≤ i ∧ i ≤ 65535) : linkQ (Lib.itoa o ++ 58 :: Lib.itoa i) = some (o, i) := by
  have hne : ∀ x ∈ Lib.itoa o, x ≠ 58 := fun x hx e => by
    unfold Lib.itoa at hx
    rw [if_neg (by omega)] at hx
    have := dec_digits _ x hx
    rw [e] at this
    have h58 : (58 : UInt8).toNat = 58 := rfl
    omega
  have hi := idx_at (Lib.itoa o) (Lib.itoa i) 58 hne
  have hA : cutA (Lib.itoa o ++ 58 :: Lib.itoa i) 58 = Lib.itoa o := by
    unfold cutA
    rw [hi, if_neg (by omega), Int.toNat_natCast, List.take_left]
  have hB : cutB (Lib.itoa o ++ 58 :: Lib.itoa i) 58 = Lib.itoa i := by
    unfold cutB
    rw [hi, if_neg (by omega), Int.toNat_natCast, ← List.drop_drop, List.drop_left]
    rfl
  unfold linkQ
  rw [hA, hB, numP_itoa o (by omega) (by omega), numP_itoa i (by omega) (by omega)]
  show (if (0 ≤ o ∧ o ≤ 65535) ∧ 0 ≤ i ∧ i ≤ 65535 then some (o, i) else none) = _
  rw [if_pos ⟨h0, h1⟩]
theorem linkQ_nil : linkQ [] = none := by decide +kernel
end Go.Proofs.YtbclgalocipmfaaDoor
