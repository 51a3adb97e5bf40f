/-
  The program's number of a text, and what is read of a truth and of a text.
-/
import Derived.Test.YthnbcilpallhjaaDoorPlPWrite
import Derived.Test.YthnbcilpallhjaaDoorShelfP
import Derived.Lib.AtoiErrMem
import Derived.Lib.ParseIntBTie
namespace Go.Proofs.YthnbcilpallhjaaDoor
open Go.RowKit
set_option maxRecDepth 100000
set_option maxRecDepth 100000
set_option linter.unusedVariables false
/-- The two errors of package strconv as they are laid. -/
def TabE (w : World) : Prop := (∃ tp p, w.var? Tryd.prog "strconv.ErrSyntax" = some #[.iface tp p]) ∧ ∃ tp p, w.var? Tryd.prog "strconv.ErrRange" = some #[.iface tp p]
theorem errs_named : Tryd.prog.globalNamed "strconv.ErrSyntax" = some 4 ∧ Tryd.prog.globalNamed "strconv.ErrRange" = some 5 := ⟨by kernel_rfl, by kernel_rfl⟩
theorem var_below {B : Nat} {a w : World} {nm : String} {g : Nat} (hb : Below B a w) (hn : Tryd.prog.globalNamed nm = some g) (hg : g < B) : w.var? Tryd.prog nm = a.var? Tryd.prog nm := by
  unfold World.var?
  rw [hn, Option.bind_some, Option.bind_some, hb.block g hg]
theorem TabE.below {B : Nat} {a w : World} (h : TabE a) (hb : Below B a w) (hB : 6 ≤ B) : TabE w := by
  obtain ⟨⟨t1, p1, h1⟩, t2, p2, h2⟩ := h
  exact ⟨⟨t1, p1, (var_below hb errs_named.1 (Nat.lt_of_lt_of_le (by decide) hB)).trans h1⟩, t2, p2, (var_below hb errs_named.2 (Nat.lt_of_lt_of_le (by decide) hB)).trans h2⟩
theorem TabE.size {w : World} (h : TabE w) : 6 ≤ w.heap.size := by
  obtain ⟨_, t2, p2, h2⟩ := h
  unfold World.var? at h2
  rw [errs_named.2, Option.bind_some] at h2
  rcases Nat.lt_or_ge 5 w.heap.size with h' | h'
  · exact h'
  · rw [Array.getElem?_eq_none h'] at h2; simp at h2
/-- The number that a text is read as, if it is one. -/
def parsed (l : List UInt8) : Option Int := match Lib.parseIntB 64 l with | .ok v => some v | _ => none
theorem parse_f (s : ByteArray) (hs : s.size ≤ 1000000) (w : World) (hE : TabE w) :
    Calls Tryd.prog 67 #[.string s, .int .i64 10, .int .i64 64] w fun e w' => ∃ (v : Int) (er : Value), e = .returned (.tuple #[.int .i64 v, er]) ∧ ((er = .nilIface ∧ parsed s.data.toList = some v) ∨ (∃ N, er = .iface 171 (.pointer (some ⟨N, 0, none⟩))) ∧ parsed s.data.toList = none) ∧ Below w.heap.size w w' := by
  obtain ⟨⟨t1, p1, h1⟩, t2, p2, h2⟩ := hE
  unfold parsed
  rcases hp : Lib.parseIntB 64 s.data.toList with v | _ | _
  · refine (Go.Proofs.Any.strconv_ParseInt_10_at64_ok Tryd.laysC174 s (by omega) v hp w).mono ?_
    rintro e w' ⟨rfl, hw⟩
    refine ⟨v, .nilIface, rfl, .inl ⟨rfl, rfl⟩, ?_⟩
    rcases hw with rfl | ⟨t, rfl⟩
    · exact Below.refl _ _
    · exact Lib.bytesWorld_below _ _ _
  · refine (Go.Proofs.Any.strconv_ParseInt_10_at64_syntax_var Tryd.laysC174 s (by omega) hp t1 p1 w h1).mono ?_
    rintro e w' ⟨N, rfl, _, _, hb⟩
    exact ⟨0, _, rfl, .inr ⟨⟨N, rfl⟩, rfl⟩, hb⟩
  · refine (Go.Proofs.Any.strconv_ParseInt_10_at64_range_var Tryd.laysC174 s (by omega) hp t2 p2 w h2).mono ?_
    rintro e w' ⟨N, rfl, _, _, hb⟩
    exact ⟨_, _, rfl, .inr ⟨⟨N, rfl⟩, rfl⟩, hb⟩
def numP (l : List UInt8) : Option Int := if 20 < l.length then none else match parsed l with | some v => if Lib.itoa v = l then some v else none | none => none
def numR (o : Option Int) : Ending := .returned (.tuple #[.int .i64 (o.getD 0), .int .i64 (if o.isSome then 0 else 20)])
theorem parsed_in {l : List UInt8} {v : Int} (h : parsed l = some v) : -9223372036854775808 ≤ v ∧ v ≤ 9223372036854775807 := by
  unfold parsed at h
  split at h
  · rename_i u hu
    cases h
    have := Lib.parseIntB_bounds hu
    omega
  · cases h
set_option maxHeartbeats 4000000 in
theorem number_p (s : ByteArray) (hs : s.size ≤ 1000000) (w : World) (hE : TabE w) (hD : TabD w) : Calls Tryd.prog 37 #[.string s] w fun e w' => e = numR (numP s.data.toList) ∧ Below w.heap.size w w' := by
  have hsl : s.data.toList.length = s.size := Array.length_toList
  obtain ⟨res, hres⟩ : ∃ res, numP s.data.toList = res := ⟨_, rfl⟩
  rw [hres]
  unfold numP at hres
  by_cases h20 : 20 < s.size
  · rw [if_pos (by omega)] at hres
    subst hres
    have hI : (20 : Int) < s.size := by omega
    clear hE hD hsl
    go_enter Tryd.func37, Tryd.ntmps37
    go_wp2
    go_ret2
    exact ⟨rfl, Below.refl _ _⟩
  rw [if_neg (by omega)] at hres
  have hI : ¬ (20 : Int) < s.size := by omega
  have hp := parse_f s hs w hE
  have HD := Lib.hid (And.intro hD hsl)
  obtain ⟨P, hP⟩ : ∃ P, parsed s.data.toList = P := ⟨_, rfl⟩
  rw [hP] at hp hres
  have HP := Lib.hid hP
  have HR := Lib.hid hres
  clear hP hE hD hsl hres
  go_enter Tryd.func37, Tryd.ntmps37
  go_wp2_with fail
  refine hp.mono ?_
  rintro e w1 ⟨v, er, rfl, hc, b1⟩
  have H1 := Lib.hid b1
  clear b1 hp
  rcases hc with ⟨rfl, rfl⟩ | ⟨⟨N, rfl⟩, rfl⟩
  · obtain ⟨v0, v1⟩ := parsed_in HP.out
    have hF := fmtInt_f v v0 v1 w1 (HD.out.1.below H1.out HD.out.1.size)
    obtain ⟨t, ht⟩ : ∃ t : ByteArray, ⟨(Lib.itoa v).toArray⟩ = t := ⟨_, rfl⟩
    rw [ht] at hF
    have HF := Lib.hid (And.intro hF ht)
    have HR2 : (if Lib.itoa v = s.data.toList then some v else none) = res := HR.out
    have HR3 := Lib.hid HR2
    clear hF ht HR2 v0 v1
    try dsimp only
    go_wp2_with fail
    refine (HF.out.1).mono ?_
    rintro e w2 ⟨rfl, b2⟩
    have H2 := Lib.hid (H1.out.trans (b2.mono H1.out.size))
    clear b2
    by_cases hq : Lib.itoa v = s.data.toList
    · have hts : t = s := by rw [← HF.out.2]; rw [hq]
      have hrs : some v = res := by have := HR3.out; rw [if_pos hq] at this; exact this
      subst hts
      subst hrs
      have hss : (t.toList == t.toList) = true := beq_self_eq_true _
      clear hq
      go_wp2
      go_ret2
      exact ⟨rfl, H2.out⟩
    · have hts : ¬ t.toList = s.toList := fun h => hq (by
        have h1 : t.data.toList = s.data.toList := by rw [← ByteArray.toList_eq, ← ByteArray.toList_eq]; exact h
        rw [← h1, ← HF.out.2])
      have hrs : none = res := by have := HR3.out; rw [if_neg hq] at this; exact this
      subst hrs
      have hss : (t.toList == s.toList) = false := beq_eq_false_iff_ne.2 hts
      clear hq hts
      go_wp2
      go_ret2
      exact ⟨rfl, H2.out⟩
  · have hrs : none = res := HR.out
    subst hrs
    try dsimp only
    go_wp2
    go_ret2
    exact ⟨rfl, H1.out⟩
def truthQ (l : List UInt8) : Option Int := if l = [48] then some 0 else if l = [49] then some 1 else none
theorem bytes_is {s : ByteArray} {l : List UInt8} : s.toList = l ↔ s.data.toList = l := by rw [ByteArray.toList_eq]
set_option maxHeartbeats 4000000 in
theorem truth_p (s : ByteArray) (w : World) : Calls Tryd.prog 38 #[.string s] w fun e w' => e = numR (truthQ s.data.toList) ∧ w' = w := by
  obtain ⟨res, hres⟩ : ∃ res, truthQ s.data.toList = res := ⟨_, rfl⟩
  rw [hres]
  unfold truthQ at hres
  by_cases h0 : s.toList = [48]
  · rw [if_pos (bytes_is.1 h0)] at hres
    subst hres
    have e0 : (s.toList == [48]) = true := beq_iff_eq.2 h0
    go_enter Tryd.func38, Tryd.ntmps38
    go_wp2
    go_ret2
    exact ⟨rfl, rfl⟩
  rw [if_neg (fun h => h0 (bytes_is.2 h))] at hres
  have e0 : (s.toList == [48]) = false := beq_eq_false_iff_ne.2 h0
  by_cases h1 : s.toList = [49]
  · rw [if_pos (bytes_is.1 h1)] at hres
    subst hres
    have e1 : (s.toList == [49]) = true := beq_iff_eq.2 h1
    clear h0
    go_enter Tryd.func38, Tryd.ntmps38
    go_wp2
    go_ret2
    exact ⟨rfl, rfl⟩
  · rw [if_neg (fun h => h1 (bytes_is.2 h))] at hres
    subst hres
    have e1 : (s.toList == [49]) = false := beq_eq_false_iff_ne.2 h1
    clear h0 h1
    go_enter Tryd.func38, Tryd.ntmps38
    go_wp2
    go_ret2
    exact ⟨rfl, rfl⟩
def textE (l : List UInt8) : Int := if 200 < l.length then 2 else if okN (runesQ l) = 1 then 0 else 20
set_option maxHeartbeats 4000000 in
theorem text_p (s : ByteArray) (hs : s.size ≤ 1000000) (w : World) (hU : Tabs w) : Calls Tryd.prog 39 #[.string s] w fun e w' => ∃ t : ByteArray, e = .returned (.tuple #[.string t, .int .i64 (textE s.data.toList)]) ∧ t = (if textE s.data.toList = 0 then s else ⟨#[]⟩) ∧ Below w.heap.size w w' := by
  have hsl : s.data.toList.length = s.size := Array.length_toList
  obtain ⟨er, her⟩ : ∃ er, textE s.data.toList = er := ⟨_, rfl⟩
  rw [her]
  unfold textE at her
  by_cases h200 : 200 < s.size
  · rw [if_pos (by omega)] at her
    subst her
    have hI : (200 : Int) < s.size := by omega
    clear hsl
    go_enter Tryd.func39, Tryd.ntmps39
    go_wp2
    go_ret2
    exact ⟨_, rfl, rfl, Below.refl _ _⟩
  rw [if_neg (by omega)] at her
  have hI : ¬ (200 : Int) < s.size := by omega
  have cP := isPlain_f s w hs hU
  obtain ⟨q, hq⟩ : ∃ q, decide (okN (runesQ s.data.toList) = 1) = q := ⟨_, rfl⟩
  rw [hq] at cP
  have HC := Lib.hid cP
  cases q with
  | true =>
    rw [if_pos (of_decide_eq_true hq)] at her
    subst her
    clear hq hsl cP
    go_enter Tryd.func39, Tryd.ntmps39
    go_wp2_with fail
    refine HC.out.mono ?_
    rintro e w1 ⟨rfl, b1⟩
    have H1 := Lib.hid b1
    clear b1
    go_wp2_with fail
    refine (sclone_f s w1 hs).mono ?_
    rintro e w2 ⟨rfl, b2⟩
    have H2 := Lib.hid (H1.out.trans (b2.mono H1.out.size))
    clear b2
    go_wp2
    go_ret2
    exact ⟨_, rfl, rfl, H2.out⟩
  | false =>
    rw [if_neg (of_decide_eq_false hq)] at her
    subst her
    clear hq hsl cP
    go_enter Tryd.func39, Tryd.ntmps39
    go_wp2_with fail
    refine HC.out.mono ?_
    rintro e w1 ⟨rfl, b1⟩
    have H1 := Lib.hid b1
    clear b1
    go_wp2
    go_ret2
    exact ⟨_, rfl, rfl, H1.out⟩
end Go.Proofs.YthnbcilpallhjaaDoor
