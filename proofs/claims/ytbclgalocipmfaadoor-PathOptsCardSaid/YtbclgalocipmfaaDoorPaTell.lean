/-
  strings.TrimLeftFunc with a closure that says no to each rune of 128 and more; strings.CutPrefix with a sign.
-/
/-
  A number's text up to a bound: the program's number and signed.
-/
/-
  A number's text that may be below 0; what a pair tells of a condition.
-/
import Derived.Test.YtbclgalocipmfaaDoorPlUn
import Derived.Test.YtbclgalocipmfaaDoorMem
import Derived.Test.YtbclgalocipmfaaDoorPlNumEq
namespace Go.Proofs.YtbclgalocipmfaaDoor
open Go.RowKit
set_option maxRecDepth 100000
set_option maxRecDepth 100000
set_option linter.unusedVariables false
/-- What a closure on runes answers, in each later world. -/
def PredR (g : Nat) (lb : Array Value) (p : Nat → Bool) (w : World) : Prop :=
  ∀ (W : World) (r : Nat), Below w.heap.size w W → Calls Tryd.prog g (#[.int .i32 (r : Int)] ++ lb) W fun e w' => e = .returned (.bool (p r)) ∧ Below W.heap.size W w'
theorem PredR.later {g : Nat} {lb : Array Value} {p : Nat → Bool} {w W : World} (h : PredR g lb p w) (hb : Below w.heap.size w W) : PredR g lb p W :=
  fun W' r hb' => h W' r (hb.trans (hb'.mono hb.size))
def FnR (g : Nat) : Prop := ∀ args w, (callFunc g args).run Tryd.prog w = .ok (.enter g args) w
def headP (p : Nat → Bool) (l : List UInt8) : List UInt8 := l.takeWhile fun b => p b.toNat
def skipP (p : Nat → Bool) (l : List UInt8) : List UInt8 := l.dropWhile fun b => p b.toNat
theorem hp_get (p : Nat → Bool) : ∀ (l : List UInt8) (k : Nat), k < (headP p l).length → ∃ u, l[k]? = some u ∧ p u.toNat = true
  | [], k, h => absurd h (by simp [headP])
  | c :: l, k, h => by
    unfold headP at h
    rw [List.takeWhile_cons] at h
    by_cases hc : p c.toNat = true
    · rw [if_pos hc] at h
      cases k with
      | zero => exact ⟨c, rfl, hc⟩
      | succ k =>
        rw [List.getElem?_cons_succ]
        exact hp_get p l k (by simpa [headP] using h)
    · rw [if_neg hc] at h; exact absurd h (by simp)
theorem hp_end (p : Nat → Bool) : ∀ (l : List UInt8), (headP p l).length < l.length → ∃ u, l[(headP p l).length]? = some u ∧ p u.toNat = false
  | [], h => absurd h (by simp)
  | c :: l, h => by
    unfold headP at h ⊢
    rw [List.takeWhile_cons] at h ⊢
    by_cases hc : p c.toNat = true
    · rw [if_pos hc] at h ⊢
      rw [List.length_cons, List.getElem?_cons_succ]
      exact hp_end p l (by simpa [headP] using h)
    · rw [if_neg hc]
      exact ⟨c, rfl, by simpa using hc⟩
theorem hp_split (p : Nat → Bool) (l : List UInt8) : headP p l ++ skipP p l = l := List.takeWhile_append_dropWhile
theorem hp_len (p : Nat → Bool) (l : List UInt8) : (headP p l).length + (skipP p l).length = l.length := by
  have := congrArg List.length (hp_split p l)
  rwa [List.length_append] at this
theorem skip_drop (p : Nat → Bool) (l : List UInt8) : skipP p l = l.drop (headP p l).length := by
  have h := congrArg (List.drop (headP p l).length) (hp_split p l)
  rw [List.drop_left' rfl] at h
  exact h
theorem str_at' {s : ByteArray} {k : Nat} {u : UInt8} (hk : k < s.size) (h : s.data.toList[k]? = some u) : s[k]'hk = u := by
  have h1 : s.data.toList[k]? = some (s[k]'hk) := by rw [Array.getElem?_toList, Array.getElem?_eq_getElem hk]; rfl
  rw [h1] at h
  exact Option.some.inj h
set_option maxHeartbeats 8000000 in
theorem indexf_f (g : Nat) (lb : Array Value) (p : Nat → Bool) (eg : FnR g) (h128 : ∀ r, 128 ≤ r → p r = false) (s : ByteArray) (hs : s.size ≤ 1000000) (w : World) (hp : PredR g lb p w) :
    Calls Tryd.prog 133 #[.string s, .func (.func g) #[] lb, .bool false] w fun e w' => e = .returned (.int .i64 (if (headP p s.data.toList).length < s.size then ((headP p s.data.toList).length : Int) else -1)) ∧ Below w.heap.size w w' := by
  unfold FnR at eg
  have hsl : s.data.toList.length = s.size := Array.length_toList
  have hget := hp_get p s.data.toList
  have hend := hp_end p s.data.toList
  have hlen := hp_len p s.data.toList
  obtain ⟨K, hK⟩ : ∃ K, (headP p s.data.toList).length = K := ⟨_, rfl⟩
  rw [hK] at hget hend hlen ⊢
  rw [hsl] at hend hlen
  have hKs : K ≤ s.size := by omega
  obtain ⟨R, hR⟩ : ∃ R : Int, (if K < s.size then (K : Int) else -1) = R := ⟨_, rfl⟩
  rw [hR]
  have HA := Lib.hid (And.intro hget (And.intro hend (And.intro hR (And.intro h128 hp))))
  clear hget hend hR hsl hK hlen hp h128
  have hsI : (s.size : Int) ≤ 1000000 := by omega
  go_enter Tryd.func133, Tryd.ntmps133
  go_wp2_with fail
  have hI0 : (w.iter s 0).heap[w.heap.size]? = some (.stringIter s 0) := World.iter_heap _ s 0
  have hb0 : Below w.heap.size w (w.iter s 0) := (Below.refl _ w).alloc (Nat.le_refl _) _
  obtain ⟨B, hB⟩ : ∃ B, w.heap.size = B := ⟨_, rfl⟩
  have H0 := Lib.hid (And.intro hI0 (And.intro hb0 hB))
  rw [hB]
  clear hI0 hb0 hB
  go_loopw [] (fun wr => ∃ k : Nat, k ≤ K ∧ Aside (wr.heap[B]? = some (.stringIter s k) ∧ Below w.heap.size w wr)) (fun wr => s.size - wr.iterPos B)
  case atStart => exact ⟨0, Nat.zero_le _, (show Aside _ from ⟨by have := H0.out.1; rw [H0.out.2.2] at this; exact this, H0.out.2.1⟩)⟩
  case round =>
    obtain ⟨k, hk, hrel⟩ := hrel
    obtain ⟨hI, hb⟩ := hrel.out
    have hBz : w.heap.size = B := H0.out.2.2
    have hBlt : B < wr.heap.size := (Array.getElem?_eq_some_iff.1 hI).1
    clear hrel
    by_cases hlt : k < K
    · obtain ⟨u, hu, hpu⟩ := HA.out.1 k hlt
      have hks : k < s.size := by omega
      have hsu := str_at' hks hu
      have hua : u.toNat < 128 := by
        rcases Nat.lt_or_ge u.toNat 128 with h | h
        · exact h
        · rw [HA.out.2.2.2.1 _ h] at hpu; cases hpu
      have hnx := fun ty => Lib.run_next_ascii_at (P := Tryd.prog) wr B s k ty hI hks (by rw [hsu]; exact hua)
      rw [hsu] at hnx
      have hI' := Lib.iterAt_heap wr B s k (k + 1) hI
      have hb' := Lib.below_iterAt (k := B) hb (by omega) s (k + 1)
      have hcall := HA.out.2.2.2.2 (wr.iterAt B s (k + 1)) u.toNat hb'
      rw [hpu] at hcall
      have hip : wr.iterPos B = k := by unfold World.iterPos; rw [hI]
      obtain ⟨un, hun⟩ : ∃ un, u.toNat = un := ⟨_, rfl⟩
      rw [hun] at hnx hcall
      have HI := Lib.hid (And.intro hI' (And.intro hb' (And.intro hip hBlt)))
      have HC := Lib.hid hcall
      clear hun hu hpu hsu hua hI hb hI' hb' hip hcall hBlt hBz
      go_wp2_with (go_at_fn g; refine HC.out.mono ?_; rintro e w2 ⟨rfl, b2⟩)
      have hB2 : w2.heap[B]? = some (.stringIter s (k + 1)) := (b2.block B (by rw [Lib.iterAt_size]; exact HI.out.2.2.2)).trans HI.out.1
      have hip2 : w2.iterPos B = k + 1 := by unfold World.iterPos; rw [hB2]
      go_roundw
      case rel => exact ⟨k + 1, by omega, (show Aside _ from ⟨hB2, HI.out.2.1.trans (b2.mono HI.out.2.1.size)⟩)⟩
      case measure => rw [hip2, HI.out.2.2.1]; omega
    · obtain rfl : k = K := by omega
      by_cases hks : k < s.size
      · have hRK : R = (k : Int) := by rw [← HA.out.2.2.1, if_pos hks]
        subst hRK
        obtain ⟨u, hu, hpu⟩ := HA.out.2.1 hks
        have hsu := str_at' hks hu
        obtain ⟨r, d, hnx, hpr⟩ : ∃ r d : Nat, (∀ ty, (Instr.next (.pointer (some ⟨B, 0, none⟩)) true ty).run Tryd.prog wr = .ok (.tuple #[.bool true, .int .i64 k, .int .i32 (r : Int)]) (wr.iterAt B s (k + d))) ∧ p r = false := by
          by_cases hua : u.toNat < 128
          · refine ⟨u.toNat, 1, fun ty => ?_, hpu⟩
            have h := Lib.run_next_ascii_at (P := Tryd.prog) wr B s k ty hI hks (by rw [hsu]; exact hua)
            rw [hsu] at h
            exact h
          · refine ⟨(Utf8.decode s k).1, (Utf8.decode s k).2, fun ty => Lib.run_next_any_at (P := Tryd.prog) wr B s k ty hI hks, ?_⟩
            exact HA.out.2.2.2.1 _ (decode_high s k hks (by rw [hsu]; omega)).1
        have hb' := Lib.below_iterAt (k := B) hb (by omega) s (k + d)
        have hcall := HA.out.2.2.2.2 (wr.iterAt B s (k + d)) r hb'
        rw [hpr] at hcall
        have HC := Lib.hid hcall
        have HI := Lib.hid hb'
        clear hu hpu hsu hI hb hb' hcall hBlt hBz hpr hlt
        go_wp2_with (go_at_fn g; refine HC.out.mono ?_; rintro e w2 ⟨rfl, b2⟩)
        go_ret
        exact ⟨rfl, HI.out.trans (b2.mono HI.out.size)⟩
      · have hRK : R = -1 := by rw [← HA.out.2.2.1, if_neg hks]
        subst hRK
        have hnx := fun ty => Lib.run_next_end_at (P := Tryd.prog) wr B s k ty hI hks
        have HI := Lib.hid hb
        clear hI hb hBlt hBz hlt
        go_wp2
        go_ret
        exact ⟨rfl, HI.out⟩
set_option maxHeartbeats 4000000 in
theorem trimleft_f (g : Nat) (lb : Array Value) (p : Nat → Bool) (eg : FnR g) (h128 : ∀ r, 128 ≤ r → p r = false) (s : ByteArray) (hs : s.size ≤ 1000000) (w : World) (hp : PredR g lb p w) :
    Calls Tryd.prog 104 #[.string s, .func (.func g) #[] lb] w fun e w' => ∃ t : ByteArray, e = .returned (.string t) ∧ t.data.toList = skipP p s.data.toList ∧ Below w.heap.size w w' := by
  have hI := indexf_f g lb p eg h128 s hs w hp
  have hsl : s.data.toList.length = s.size := Array.length_toList
  have hlen := hp_len p s.data.toList
  have hsd := skip_drop p s.data.toList
  obtain ⟨K, hK⟩ : ∃ K, (headP p s.data.toList).length = K := ⟨_, rfl⟩
  rw [hK] at hI hlen hsd
  rw [hsl] at hlen
  by_cases hks : K < s.size
  · rw [if_pos hks] at hI
    have hn1 : ¬ (K : Int) = -1 := by omega
    have hn2 : ((K : Int) == -1) = false := beq_eq_false_iff_ne.2 hn1
    have hkI : (K : Int) < s.size := by omega
    have hsI : (s.size : Int) ≤ 1000000 := by omega
    have HH := Lib.hid (And.intro hI hsd)
    clear hI hsl hlen hsd hK hp
    go_enter Tryd.func104, Tryd.ntmps104
    go_wp2_with fail
    refine HH.out.1.mono ?_
    rintro e w1 ⟨rfl, b1⟩
    go_wp2
    go_ret
    exact ⟨_, rfl, by rw [HH.out.2]; exact Lib.ext_list s K, b1⟩
  · rw [if_neg hks] at hI
    have hz : skipP p s.data.toList = [] := List.eq_nil_of_length_eq_zero (by omega)
    have HH := Lib.hid (And.intro hI hz)
    clear hI hsl hlen hsd hK hp hz
    go_enter Tryd.func104, Tryd.ntmps104
    go_wp2_with fail
    refine HH.out.1.mono ?_
    rintro e w1 ⟨rfl, b1⟩
    go_wp2
    go_ret
    exact ⟨_, rfl, by rw [HH.out.2], b1⟩
/-- What stands behind a sign, if a text begins so. -/
def cutP (c : UInt8) (l : List UInt8) : List UInt8 × Bool := if l.head? = some c then (l.drop 1, true) else (l, false)
def CutPRet (c : UInt8) (l : List UInt8) (w : World) (e : Ending) (w' : World) : Prop :=
  ∃ t : ByteArray, e = .returned (.tuple #[.string t, .bool (cutP c l).2]) ∧ t.data.toList = (cutP c l).1 ∧ Below w.heap.size w w'
theorem head_ext {s : ByteArray} (h0 : 0 < s.size) (c : UInt8) : (s.extract 0 1).data.toList = [c] ↔ s.data.toList.head? = some c := by
  have e1 : (s.extract 0 1).data.toList = s.data.toList.take 1 := by simp [ByteArray.data_extract, Array.toList_extract]
  rw [e1]
  rcases hl : s.data.toList with _ | ⟨d, r⟩
  · have : s.data.toList.length = s.size := Array.length_toList
    rw [hl] at this
    exact absurd this (by simp; omega)
  · simp
set_option maxHeartbeats 1000000 in
theorem hasp_f (s : ByteArray) (c : UInt8) (w : World) (hs : s.size ≤ 1000000) : Calls Tryd.prog 103 #[.string s, .string ⟨#[c]⟩] w fun e w' => e = .returned (.bool (decide (s.data.toList.head? = some c))) ∧ w' = w := by
  have hsl : s.data.toList.length = s.size := Array.length_toList
  by_cases h0 : 0 < s.size
  · have h0I : (1 : Int) ≤ s.size := by omega
    have h0J : ¬ (s.size : Int) < 1 := by omega
    have hx := head_ext h0 c
    by_cases hc : s.data.toList.head? = some c
    · have e := hx.2 hc
      have e2 : ((s.extract 0 1).toList == [c]) = true := beq_iff_eq.2 (by rw [ByteArray.toList_eq]; exact e)
      rw [decide_eq_true hc]
      clear hx hc e hsl
      go_enter Tryd.func103, Tryd.ntmps103
      go_wp2
      go_ret
      exact ⟨rfl, rfl⟩
    · have e2 : ((s.extract 0 1).toList == [c]) = false := beq_eq_false_iff_ne.2 (fun e => hc (hx.1 (by rw [← ByteArray.toList_eq]; exact e)))
      rw [decide_eq_false hc]
      clear hx hc hsl
      go_enter Tryd.func103, Tryd.ntmps103
      go_wp2
      go_ret
      exact ⟨rfl, rfl⟩
  · have h0I : ¬ (1 : Int) ≤ s.size := by omega
    have h0J : (s.size : Int) < 1 := by omega
    have hn : s.data.toList = [] := List.eq_nil_of_length_eq_zero (by omega)
    rw [hn, decide_eq_false (by simp)]
    clear hn hsl
    go_enter Tryd.func103, Tryd.ntmps103
    go_wp2
    go_ret
    exact ⟨rfl, rfl⟩
theorem hasprefix_f (s : ByteArray) (c : UInt8) (w : World) (hs : s.size ≤ 1000000) : Calls Tryd.prog 106 #[.string s, .string ⟨#[c]⟩] w fun e w' => e = .returned (.bool (decide (s.data.toList.head? = some c))) ∧ w' = w := by
  go_enter Tryd.func106, Tryd.ntmps106
  go_wp2_with (go_at_call 103; refine (hasp_f s c _ hs).mono ?_; rintro e w' ⟨rfl, rfl⟩)
  go_ret
  exact ⟨rfl, rfl⟩
set_option maxHeartbeats 1000000 in
theorem cutp1_f (s : ByteArray) (c : UInt8) (w : World) (hs : s.size ≤ 1000000) : Calls Tryd.prog 74 #[.string s, .string ⟨#[c]⟩] w (CutPRet c s.data.toList w) := by
  have hsl : s.data.toList.length = s.size := Array.length_toList
  have hp := hasp_f s c w hs
  have hsI : (s.size : Int) ≤ 1000000 := by omega
  by_cases hc : s.data.toList.head? = some c
  · rw [decide_eq_true hc] at hp
    have h0 : 0 < s.size := by
      rcases Nat.eq_zero_or_pos s.size with h | h
      · exfalso
        have hn : s.data.toList = [] := List.eq_nil_of_length_eq_zero (by omega)
        rw [hn] at hc; cases hc
      · exact h
    have h0I : (1 : Int) ≤ s.size := by omega
    have hq : cutP c s.data.toList = (s.data.toList.drop 1, true) := by unfold cutP; rw [if_pos hc]
    have HH := Lib.hid (And.intro hp hq)
    clear hp hq hsl hc
    go_enter Tryd.func74, Tryd.ntmps74
    go_wp2_with fail
    refine HH.out.1.mono ?_
    rintro e w1 ⟨rfl, hw⟩
    obtain rfl := hw.symm
    go_wp2
    go_ret2
    exact ⟨_, by rw [HH.out.2]; rfl, by rw [HH.out.2]; exact Lib.ext_list s 1, Below.refl _ _⟩
  · rw [decide_eq_false hc] at hp
    have hq : cutP c s.data.toList = (s.data.toList, false) := by unfold cutP; rw [if_neg hc]
    have HH := Lib.hid (And.intro hp hq)
    clear hp hq hsl hc
    go_enter Tryd.func74, Tryd.ntmps74
    go_wp2_with fail
    refine HH.out.1.mono ?_
    rintro e w1 ⟨rfl, hw⟩
    obtain rfl := hw.symm
    go_wp2
    go_ret2
    exact ⟨s, by rw [HH.out.2]; rfl, by rw [HH.out.2], Below.refl _ _⟩
theorem cutprefix_f (s : ByteArray) (c : UInt8) (w : World) (hs : s.size ≤ 1000000) : Calls Tryd.prog 46 #[.string s, .string ⟨#[c]⟩] w (CutPRet c s.data.toList w) := by
  have hp := cutp1_f s c w hs
  obtain ⟨q, hq⟩ : ∃ q, cutP c s.data.toList = q := ⟨_, rfl⟩
  unfold CutPRet at hp ⊢
  rw [hq] at hp ⊢
  obtain ⟨ql, qb⟩ := q
  dsimp only at hp ⊢
  have HH := Lib.hid hp
  clear hp hq
  go_enter Tryd.func46, Tryd.ntmps46
  go_wp2_with fail
  refine HH.out.mono ?_
  rintro e w1 ⟨t, rfl, ht, b1⟩
  have H1 := Lib.hid (And.intro ht b1)
  clear ht b1
  try dsimp only
  go_wp2
  go_ret2
  exact ⟨t, rfl, H1.out.1, H1.out.2⟩
def isDig (r : Nat) : Bool := decide (48 ≤ r ∧ r ≤ 57)
/-- The number of a text, up to a bound. -/
def numM (most : Nat) (l : List UInt8) : Option Nat :=
  if l.length = 0 ∨ (1 < l.length ∧ l.head? = some 48) then none else match digs l 0 with | some v => if v ≤ most then some v else none | none => none
def numN (o : Option Nat) : Ending := match o with | some v => .returned (.tuple #[.int .i64 (v : Int), .bool true]) | none => .returned (.tuple #[.int .i64 0, .bool false])
theorem dig128 : ∀ r, 128 ≤ r → isDig r = false := fun r h => decide_eq_false (by omega)
theorem digs_mono : ∀ (l : List UInt8) (a v : Nat), digs l a = some v → a ≤ v
  | [], a, v, h => by injection h with h; omega
  | c :: r, a, v, h => by
    unfold digs at h
    split at h
    · cases h
    · have := digs_mono r _ v h; omega
theorem digs_skip : ∀ (l : List UInt8) (a : Nat), (digs l a = none → skipP isDig l ≠ []) ∧ (∀ v, digs l a = some v → skipP isDig l = [])
  | [], a => ⟨fun h => (by cases h), fun v h => rfl⟩
  | c :: r, a => by
    unfold digs skipP
    rw [List.dropWhile_cons]
    by_cases h : c.toNat < 48 ∨ 57 < c.toNat
    · rw [if_pos h, if_neg (by unfold isDig; rw [decide_eq_false (by omega)]; decide)]
      exact ⟨fun _ => (by simp), fun v h => (by cases h)⟩
    · rw [if_neg h, if_pos (by unfold isDig; exact decide_eq_true (by omega))]
      exact digs_skip r _
theorem pu_digs : ∀ (l : List UInt8) (acc v : Nat), digs l acc = some v → Lib.parseUintM 18446744073709551615 acc l = .ok v ∨ (Lib.parseUintM 18446744073709551615 acc l = .range ∧ 18446744073709551615 < v)
  | [], acc, v, h => .inl (by injection h with h; rw [← h]; rfl)
  | c :: r, acc, v, h => by
    unfold digs at h
    split at h
    · cases h
    · rename_i hc
      have hm := digs_mono r _ v h
      unfold Lib.parseUintM
      rw [if_pos (by omega)]
      by_cases h1 : 1844674407370955162 ≤ acc
      · rw [if_pos h1]; exact .inr ⟨rfl, by omega⟩
      · rw [if_neg h1]
        by_cases h2 : 18446744073709551615 < acc * 10 + (c.toNat - 48)
        · rw [if_pos h2]; exact .inr ⟨rfl, by omega⟩
        · rw [if_neg h2]; exact pu_digs r _ v h
theorem parsed_digs {l : List UInt8} {v : Nat} (h0 : l ≠ []) (h : digs l 0 = some v) : parsed l = if v ≤ 9223372036854775807 then some (v : Int) else none := by
  cases l with
  | nil => exact absurd rfl h0
  | cons c r =>
    have hc : ¬ (c.toNat < 48 ∨ 57 < c.toNat) := fun hc => by unfold digs at h; rw [if_pos hc] at h; cases h
    have hu := pu_digs (c :: r) 0 v h
    unfold parsed Lib.parseIntB
    dsimp only
    rw [if_neg (show ¬ (c.toNat = 43 ∨ c.toNat = 45) by omega)]
    unfold Lib.parseUintB
    rw [if_neg (by simp), show (2 : Nat) ^ 64 - 1 = 18446744073709551615 from rfl]
    rcases hu with hu | ⟨hu, hv⟩
    · rw [hu]
      dsimp only
      have h45 : ¬ c.toNat = 45 := by omega
      by_cases hv : v ≤ 9223372036854775807
      · rw [if_neg (fun hh => by have h2 := hh.2; rw [show (2 : Nat) ^ (64 - 1) = 9223372036854775808 from rfl] at h2; omega), if_neg (fun hh => h45 hh.1), if_neg h45, if_pos hv]
      · rw [if_pos ⟨h45, by rw [show (2 : Nat) ^ (64 - 1) = 9223372036854775808 from rfl]; omega⟩, if_neg hv]
    · rw [hu, if_neg (by omega)]
theorem parsed_nil : parsed [] = none := rfl
theorem fn_dig : FnR 105 := enters_of Tryd.func105 (by kernel_rfl) rfl
theorem dig1_f (r : Nat) (w : World) : Calls Tryd.prog 105 #[.int .i32 (r : Int)] w fun e w' => e = .returned (.bool (isDig r)) ∧ w' = w := by
  unfold isDig
  by_cases h1 : (48 : Int) ≤ r
  · by_cases h2 : (r : Int) ≤ 57
    · rw [decide_eq_true (by omega)]
      go_enter Tryd.func105, Tryd.ntmps105
      go_wp2
      go_ret
      exact ⟨rfl, rfl⟩
    · rw [decide_eq_false (by omega)]
      go_enter Tryd.func105, Tryd.ntmps105
      go_wp2
      go_ret
      exact ⟨rfl, rfl⟩
  · rw [decide_eq_false (by omega)]
    go_enter Tryd.func105, Tryd.ntmps105
    go_wp2
    go_ret
    exact ⟨rfl, rfl⟩
theorem pred_dig (w : World) : PredR 105 #[] isDig w := fun W r _ => (dig1_f r W).mono fun e w' h => ⟨h.1, by rw [h.2]; exact Below.refl _ _⟩
theorem str_empty {t : ByteArray} (h : t.data.toList = []) : t = ⟨#[]⟩ := by
  have h2 := Array.toList_inj.1 (show t.data.toList = (#[] : Array UInt8).toList from h)
  cases t; exact congrArg ByteArray.mk h2
set_option maxHeartbeats 8000000 in
theorem pnumber_f (s : ByteArray) (hs : s.size ≤ 1000000) (most : Nat) (hm : most ≤ 9223372036854775807) (w : World) (hE : TabE w) :
    Calls Tryd.prog 75 #[.string s, .int .i64 (most : Int)] w fun e w' => e = numN (numM most s.data.toList) ∧ Below w.heap.size w w' := by
  have hsl : s.data.toList.length = s.size := Array.length_toList
  have hT := trimleft_f 105 #[] isDig fn_dig dig128 s hs w (pred_dig w)
  have hP := fun W (h : Below w.heap.size w W) => parse_f s hs W (hE.below h hE.size)
  have hx := fun W => hasprefix_f s 48 W hs
  have hds := digs_skip s.data.toList 0
  have hpd := @parsed_digs s.data.toList
  obtain ⟨R, hR⟩ : ∃ R, numM most s.data.toList = R := ⟨_, rfl⟩
  rw [hR]
  unfold numM at hR
  rw [hsl] at hR
  obtain ⟨HD, hHD⟩ : ∃ HD, s.data.toList.head? = HD := ⟨_, rfl⟩
  rw [hHD] at hR hx
  obtain ⟨PR, hPR⟩ : ∃ PR, parsed s.data.toList = PR := ⟨_, rfl⟩
  rw [hPR] at hpd
  simp only [hPR] at hP
  have HA := Lib.hid (And.intro hT (And.intro hP hx))
  clear hT hP hx hE hHD
  by_cases h0 : s.size = 0
  · rw [if_pos (.inl h0)] at hR
    subst hR
    obtain rfl : s = ⟨#[]⟩ := str_empty (List.eq_nil_of_length_eq_zero (by omega))
    obtain rfl : none = PR := hPR
    have ht0 : skipP isDig (ByteArray.data ⟨#[]⟩).toList = [] := rfl
    have HT0 := Lib.hid ht0
    clear hds hpd hsl h0 ht0 hs
    go_enter Tryd.func75, Tryd.ntmps75
    go_wp2_with fail
    refine HA.out.1.mono ?_
    rintro e w1 ⟨t, rfl, ht, b1⟩
    obtain rfl : t = ⟨#[]⟩ := str_empty (ht.trans HT0.out)
    have HB := Lib.hid b1
    clear b1 ht
    have n1 : ¬ (1 : Int) < (ByteArray.size ⟨#[]⟩ : Nat) := by decide
    go_wp2_with fail
    refine (HA.out.2.1 _ HB.out).mono ?_
    rintro e w2 ⟨v, er, rfl, hc, b2⟩
    have H2 := Lib.hid (HB.out.trans (b2.mono HB.out.size))
    clear b2
    rcases hc with ⟨_, h⟩ | ⟨⟨N, rfl⟩, _⟩
    · cases h
    try dsimp only
    go_wp2
    go_ret2
    exact ⟨rfl, H2.out⟩
  have hne : s.data.toList ≠ [] := fun e => h0 (by rw [← hsl, e]; rfl)
  have h0I : (0 : Int) < s.size := by omega
  rcases hD : digs s.data.toList 0 with _ | v
  · have hRn : R = none := by rw [← hR, hD]; exact ite_self _
    subst hRn
    have hsk := hds.1 hD
    clear hds hpd hsl h0 hR hPR hD hne
    have HSK := Lib.hid hsk
    clear hsk
    go_enter Tryd.func75, Tryd.ntmps75
    go_wp2_with fail
    refine HA.out.1.mono ?_
    rintro e w1 ⟨t, rfl, ht, b1⟩
    have HB := Lib.hid (And.intro b1 ht)
    clear b1 ht
    have g1 : (t.toList == []) = false := beq_eq_false_iff_ne.2 (fun e => HSK.out (by rw [← HB.out.2, ← ByteArray.toList_eq]; exact e))
    have g2 : ¬ t.toList = [] := fun e => HSK.out (by rw [← HB.out.2, ← ByteArray.toList_eq]; exact e)
    have g3 : t.toList.isEmpty = false := by cases hh : t.toList with | nil => exact absurd hh g2 | cons a b => rfl
    have G := Lib.hid (And.intro g1 (And.intro g2 g3))
    clear g1 g2 g3
    by_cases n1 : (1 : Int) < s.size
    · obtain ⟨dq, hdq⟩ : ∃ dq, decide (HD = some 48) = dq := ⟨_, rfl⟩
      go_wp2_with fail
      refine (HA.out.2.2 _).mono ?_
      rw [hdq]
      rintro e w9 ⟨rfl, hw⟩
      obtain rfl := hw.symm
      clear hdq
      try dsimp only
      go_wp2_with fail
      refine (HA.out.2.1 _ HB.out.1).mono ?_
      rintro e w2 ⟨v, er, rfl, hc, b2⟩
      have H2 := Lib.hid (HB.out.1.trans (b2.mono HB.out.1.size))
      clear b2 hc
      obtain ⟨g1, g2, g3⟩ := G.out
      try dsimp only
      go_wp2
      go_ret2
      exact ⟨rfl, H2.out⟩
    · go_wp2_with fail
      refine (HA.out.2.1 _ HB.out.1).mono ?_
      rintro e w2 ⟨v, er, rfl, hc, b2⟩
      have H2 := Lib.hid (HB.out.1.trans (b2.mono HB.out.1.size))
      clear b2 hc
      obtain ⟨g1, g2, g3⟩ := G.out
      try dsimp only
      go_wp2
      go_ret2
      exact ⟨rfl, H2.out⟩
  · have hsk := hds.2 v hD
    have hp := hpd hne hD
    have HSK := Lib.hid hsk
    rw [hD] at hR
    dsimp only at hR
    have HRR := Lib.hid (And.intro hR hp)
    clear hds hpd hsl hPR hD hne hsk hR hp
    by_cases hn : 1 < s.size ∧ HD = some 48
    · have hRn : R = none := by rw [← HRR.out.1, if_pos (.inr hn)]
      subst hRn
      have hd : decide (HD = some 48) = true := decide_eq_true hn.2
      have n1 : (1 : Int) < s.size := by omega
      clear hn h0
      go_enter Tryd.func75, Tryd.ntmps75
      go_wp2_with fail
      refine HA.out.1.mono ?_
      rintro e w1 ⟨t, rfl, ht, b1⟩
      obtain rfl : t = ⟨#[]⟩ := str_empty (ht.trans HSK.out)
      have HB := Lib.hid b1
      clear b1 ht
      go_wp2_with fail
      refine (HA.out.2.2 _).mono ?_
      rw [hd]
      rintro e w9 ⟨rfl, hw⟩
      obtain rfl := hw.symm
      try dsimp only
      go_wp2_with fail
      refine (HA.out.2.1 _ HB.out).mono ?_
      rintro e w2 ⟨v2, er, rfl, hc, b2⟩
      have H2 := Lib.hid (HB.out.trans (b2.mono HB.out.size))
      clear b2 hc
      try dsimp only
      go_wp2
      go_ret2
      exact ⟨rfl, H2.out⟩
    · have HRR2 : (if v ≤ most then some v else none) = R := by have := HRR.out.1; rw [if_neg (fun h => h.elim h0 hn)] at this; exact this
      have HR2 := Lib.hid (And.intro HRR2 HRR.out.2)
      clear HRR HRR2 h0
      by_cases n1 : (1 : Int) < s.size
      · have hd : decide (HD = some 48) = false := decide_eq_false (fun h => hn ⟨by omega, h⟩)
        clear hn
        go_enter Tryd.func75, Tryd.ntmps75
        go_wp2_with fail
        refine HA.out.1.mono ?_
        rintro e w1 ⟨t, rfl, ht, b1⟩
        obtain rfl : t = ⟨#[]⟩ := str_empty (ht.trans HSK.out)
        have HB := Lib.hid b1
        clear b1 ht
        go_wp2_with fail
        refine (HA.out.2.2 _).mono ?_
        rw [hd]
        rintro e w9 ⟨rfl, hw⟩
        obtain rfl := hw.symm
        try dsimp only
        go_wp2_with fail
        refine (HA.out.2.1 _ HB.out).mono ?_
        rintro e w2 ⟨v2, er, rfl, hc, b2⟩
        have H2 := Lib.hid (HB.out.trans (b2.mono HB.out.size))
        clear b2
        rw [HR2.out.2] at hc
        rcases hc with ⟨rfl, h⟩ | ⟨⟨N, rfl⟩, h⟩
        · have hv : v ≤ 9223372036854775807 ∧ v2 = (v : Int) := by
            by_cases hv : v ≤ 9223372036854775807
            · rw [if_pos hv] at h; injection h with h; exact ⟨hv, h.symm⟩
            · rw [if_neg hv] at h; cases h
          obtain ⟨hv, rfl⟩ := hv
          have hRR := HR2.out.1
          clear h hv
          by_cases hvm : (most : Int) < v
          · have hRn : R = none := by rw [← hRR, if_neg (by omega)]
            subst hRn
            clear hRR
            try dsimp only
            go_wp2
            go_ret2
            exact ⟨rfl, H2.out⟩
          · have hRn : R = some v := by rw [← hRR, if_pos (by omega)]
            subst hRn
            clear hRR
            try dsimp only
            go_wp2
            go_ret2
            exact ⟨rfl, H2.out⟩
        · have hv : ¬ v ≤ 9223372036854775807 := fun hv => by rw [if_pos hv] at h; cases h
          have hRn : R = none := by rw [← HR2.out.1, if_neg (by omega)]
          subst hRn
          clear h hv
          try dsimp only
          go_wp2
          go_ret2
          exact ⟨rfl, H2.out⟩
      · clear hn
        go_enter Tryd.func75, Tryd.ntmps75
        go_wp2_with fail
        refine HA.out.1.mono ?_
        rintro e w1 ⟨t, rfl, ht, b1⟩
        obtain rfl : t = ⟨#[]⟩ := str_empty (ht.trans HSK.out)
        have HB := Lib.hid b1
        clear b1 ht
        go_wp2_with fail
        refine (HA.out.2.1 _ HB.out).mono ?_
        rintro e w2 ⟨v2, er, rfl, hc, b2⟩
        have H2 := Lib.hid (HB.out.trans (b2.mono HB.out.size))
        clear b2
        rw [HR2.out.2] at hc
        rcases hc with ⟨rfl, h⟩ | ⟨⟨N, rfl⟩, h⟩
        · have hv : v ≤ 9223372036854775807 ∧ v2 = (v : Int) := by
            by_cases hv : v ≤ 9223372036854775807
            · rw [if_pos hv] at h; injection h with h; exact ⟨hv, h.symm⟩
            · rw [if_neg hv] at h; cases h
          obtain ⟨hv, rfl⟩ := hv
          have hRR := HR2.out.1
          clear h hv
          by_cases hvm : (most : Int) < v
          · have hRn : R = none := by rw [← hRR, if_neg (by omega)]
            subst hRn
            clear hRR
            try dsimp only
            go_wp2
            go_ret2
            exact ⟨rfl, H2.out⟩
          · have hRn : R = some v := by rw [← hRR, if_pos (by omega)]
            subst hRn
            clear hRR
            try dsimp only
            go_wp2
            go_ret2
            exact ⟨rfl, H2.out⟩
        · have hv : ¬ v ≤ 9223372036854775807 := fun hv => by rw [if_pos hv] at h; cases h
          have hRn : R = none := by rw [← HR2.out.1, if_neg (by omega)]
          subst hRn
          clear h hv
          try dsimp only
          go_wp2
          go_ret2
          exact ⟨rfl, H2.out⟩
def signedQ (l : List UInt8) : Option Int :=
  if l.head? = some 45 then (match numM 2147483647 (l.drop 1) with | some v => if v = 0 then none else some (-(v : Int)) | none => none)
  else (match numM 2147483647 l with | some v => some (v : Int) | none => none)
def numI (o : Option Int) : Ending := match o with | some v => .returned (.tuple #[.int .i64 v, .bool true]) | none => .returned (.tuple #[.int .i64 0, .bool false])
theorem numM_le {m : Nat} {l : List UInt8} {v : Nat} (h : numM m l = some v) : v ≤ m := by
  unfold numM at h
  split at h
  · cases h
  · split at h
    · split at h
      · injection h with h; omega
      · cases h
    · cases h
theorem signed_in {l : List UInt8} {v : Int} (h : signedQ l = some v) : -2147483647 ≤ v ∧ v ≤ 2147483647 := by
  unfold signedQ at h
  split at h
  · split at h
    · rename_i u hu
      have := numM_le hu
      split at h
      · cases h
      · injection h with h; omega
    · cases h
  · split at h
    · rename_i u hu
      have := numM_le hu
      injection h with h; omega
    · cases h
set_option maxHeartbeats 4000000 in
theorem psigned_f (s : ByteArray) (hs : s.size ≤ 1000000) (w : World) (hE : TabE w) :
    Calls Tryd.prog 81 #[.string s] w fun e w' => e = numI (signedQ s.data.toList) ∧ Below w.heap.size w w' := by
  have hC := cutprefix_f s 45 w hs
  have hsl : s.data.toList.length = s.size := Array.length_toList
  have hN := fun (t : ByteArray) (ht : t.size ≤ 1000000) W (h : Below w.heap.size w W) => pnumber_f t ht 2147483647 (by decide) W (hE.below h hE.size)
  obtain ⟨R, hR⟩ : ∃ R, signedQ s.data.toList = R := ⟨_, rfl⟩
  rw [hR]
  unfold signedQ at hR
  unfold CutPRet cutP at hC
  by_cases h45 : s.data.toList.head? = some 45
  · rw [if_pos h45] at hR hC
    dsimp only at hC
    obtain ⟨L, hL⟩ : ∃ L, s.data.toList.drop 1 = L := ⟨_, rfl⟩
    have hLl : L.length ≤ 1000000 := by rw [← hL, List.length_drop]; omega
    rw [hL] at hR hC
    have HH := Lib.hid (And.intro hC (And.intro hN hLl))
    clear hC hN hE h45 hL hsl hLl
    go_enter Tryd.func81, Tryd.ntmps81
    go_wp2_with fail
    refine HH.out.1.mono ?_
    rintro e w1 ⟨t, rfl, ht, b1⟩
    have hts : t.size ≤ 1000000 := by have h2 := HH.out.2.2; rw [← ht, size_list] at h2; exact h2
    have hc := HH.out.2.1 t hts w1 b1
    rw [ht] at hc
    have H1 := Lib.hid (And.intro b1 hc)
    clear b1 hc ht hts
    try dsimp only
    go_wp2_with fail
    refine H1.out.2.mono ?_
    rcases hq : numM 2147483647 L with _ | v
    · rw [hq] at hR
      replace hR : none = R := hR
      subst hR
      rintro e w2 ⟨rfl, b2⟩
      have H2 := Lib.hid (H1.out.1.trans (b2.mono H1.out.1.size))
      clear b2 hq
      unfold numN
      try dsimp only
      go_wp2
      go_ret2
      exact ⟨rfl, H2.out⟩
    · rw [hq] at hR
      replace hR : (if v = 0 then none else some (-(v : Int))) = R := hR
      have hvm := numM_le hq
      rintro e w2 ⟨rfl, b2⟩
      have H2 := Lib.hid (H1.out.1.trans (b2.mono H1.out.1.size))
      clear b2 hq
      unfold numN
      by_cases hv : v = 0
      · subst hv
        rw [if_pos rfl] at hR
        subst hR
        clear hvm
        try dsimp only
        go_wp2
        go_ret2
        exact ⟨rfl, H2.out⟩
      · rw [if_neg hv] at hR
        subst hR
        have hv1 : ¬ (v : Int) = 0 := by omega
        have hv2 : ((v : Int) == 0) = false := beq_eq_false_iff_ne.2 hv1
        have hvI : (v : Int) ≤ 2147483647 := by omega
        clear hv hvm
        try dsimp only
        go_wp2
        go_ret2
        exact ⟨rfl, H2.out⟩
  · rw [if_neg h45] at hR hC
    dsimp only at hC
    obtain ⟨L, hL⟩ : ∃ L, s.data.toList = L := ⟨_, rfl⟩
    have hLl : L.length ≤ 1000000 := by rw [← hL]; omega
    rw [hL] at hR hC
    have HH := Lib.hid (And.intro hC (And.intro hN hLl))
    clear hC hN hE h45 hL hsl hLl
    go_enter Tryd.func81, Tryd.ntmps81
    go_wp2_with fail
    refine HH.out.1.mono ?_
    rintro e w1 ⟨t, rfl, ht, b1⟩
    have hts : t.size ≤ 1000000 := by have h2 := HH.out.2.2; rw [← ht, size_list] at h2; exact h2
    have hc := HH.out.2.1 t hts w1 b1
    rw [ht] at hc
    have H1 := Lib.hid (And.intro b1 hc)
    clear b1 hc ht hts
    try dsimp only
    go_wp2_with fail
    refine H1.out.2.mono ?_
    rcases hq : numM 2147483647 L with _ | v
    · rw [hq] at hR
      replace hR : none = R := hR
      subst hR
      rintro e w2 ⟨rfl, b2⟩
      have H2 := Lib.hid (H1.out.1.trans (b2.mono H1.out.1.size))
      clear b2 hq
      unfold numN
      try dsimp only
      go_wp2
      go_ret2
      exact ⟨rfl, H2.out⟩
    · rw [hq] at hR
      replace hR : some (v : Int) = R := hR
      subst hR
      rintro e w2 ⟨rfl, b2⟩
      have H2 := Lib.hid (H1.out.1.trans (b2.mono H1.out.1.size))
      clear b2 hq
      unfold numN
      try dsimp only
      go_wp2
      go_ret2
      exact ⟨rfl, H2.out⟩
/-- A condition: its numbers, and which are told. -/
structure Cq where
  a : Int
  b : Int
  ha : Bool
  hb : Bool
  g : Int
  l : Int
  s : Int
  hg : Bool
  hl : Bool
  hs : Bool
def cq0 : Cq := ⟨0, 0, false, false, 0, 0, 0, false, false, false⟩
def Cq.vals (c : Cq) : List Value := [.int .i64 c.a, .int .i64 c.b, .bool c.ha, .bool c.hb, .int .i64 c.g, .int .i64 c.l, .int .i64 c.s, .bool c.hg, .bool c.hl, .bool c.hs]
def tellQ (c : Cq) (name val : List UInt8) : Option Cq :=
  if name = [112, 109, 105, 110] then (match numM 65535 val with | some v => some { c with a := (v : Int), ha := true } | none => none)
  else if name = [112, 109, 97, 120] then (match numM 65535 val with | some v => some { c with b := (v : Int), hb := true } | none => none)
  else if name = [103, 116] then (match signedQ val with | some v => some { c with g := v, hg := true } | none => none)
  else if name = [108, 116] then (match signedQ val with | some v => some { c with l := v, hl := true } | none => none)
  else if name = [115, 116] then (match signedQ val with | some v => some { c with s := v, hs := true } | none => none)
  else some c
theorem ten {w : World} {b : Nat} {c0 c1 c2 c3 c4 c5 c6 c7 c8 c9 : Value} (h : w.rangeAt b 0 [c0, c1, c2, c3, c4, c5, c6, c7, c8, c9]) :
    w.cell? ⟨b, 0, none⟩ = some c0 ∧ w.cell? ⟨b, 1, none⟩ = some c1 ∧ w.cell? ⟨b, 2, none⟩ = some c2 ∧ w.cell? ⟨b, 3, none⟩ = some c3 ∧ w.cell? ⟨b, 4, none⟩ = some c4 ∧ w.cell? ⟨b, 5, none⟩ = some c5 ∧ w.cell? ⟨b, 6, none⟩ = some c6 ∧ w.cell? ⟨b, 7, none⟩ = some c7 ∧ w.cell? ⟨b, 8, none⟩ = some c8 ∧ w.cell? ⟨b, 9, none⟩ = some c9 :=
  ⟨h 0 _ rfl, h 1 _ rfl, h 2 _ rfl, h 3 _ rfl, h 4 _ rfl, h 5 _ rfl, h 6 _ rfl, h 7 _ rfl, h 8 _ rfl, h 9 _ rfl⟩
/-- A condition as it lies in a block. -/
structure CqAt (w : World) (b : Nat) (c : Cq) : Prop where
  r : w.rangeAt b 0 c.vals
  t : w.there b 0 10
  lt : b < w.heap.size
theorem CqAt.below {w w' : World} {b : Nat} {c : Cq} (h : CqAt w b c) (hb : Below w.heap.size w w') : CqAt w' b c := ⟨range_below h.r hb h.lt, there_below h.t hb h.lt, Nat.lt_of_lt_of_le h.lt hb.size⟩
def TellRet (b : Nat) (o : Option Cq) (w : World) (e : Ending) (w' : World) : Prop :=
  e = .returned (.bool o.isSome) ∧ (∀ c, o = some c → CqAt w' b c) ∧ Only w.heap.size b w w'
theorem CqAt.set2 {w : World} {b : Nat} {c : Cq} (h : CqAt w b c) (j k : Nat) (hj : j < 10) (hk : k < 10) (v u : Value) (c' : Cq) (hv : (c.vals.set j v).set k u = c'.vals) : CqAt ((w.setCell ⟨b, j, none⟩ v).setCell ⟨b, k, none⟩ u) b c' := by
  have h1 := range_set h.r (show w.there b 0 c.vals.length from h.t) j hj v
  rw [Nat.zero_add] at h1
  have t1 := there_set h.t ⟨b, j, none⟩ v
  have h2 := range_set h1 (show (w.setCell ⟨b, j, none⟩ v).there b 0 (c.vals.set j v).length by rw [List.length_set]; exact t1) k (by rw [List.length_set]; exact hk) u
  rw [Nat.zero_add, hv] at h2
  exact ⟨h2, there_set t1 _ _, by rw [World.size_setCell, World.size_setCell]; exact h.lt⟩
set_option maxHeartbeats 4000000 in
theorem tell_0 (b : Nat) (c : Cq) (nm vl : ByteArray) (bare : Bool) (hv : vl.size ≤ 1000000) (w : World) (hE : TabE w) (hc : CqAt w b c) (hn : nm.data.toList = [112, 109, 105, 110]) :
    Calls Tryd.prog 55 #[.pointer (some ⟨b, 0, none⟩), .agg #[.string nm, .string vl, .bool bare]] w (TellRet b (tellQ c nm.data.toList vl.data.toList) w) := by
  have hq : tellQ c nm.data.toList vl.data.toList = (match numM 65535 vl.data.toList with | some v => some { c with a := (v : Int), ha := true } | none => none) := by
    unfold tellQ
    rw [hn]
    rfl
  rw [hq]
  have n0 : (nm.toList == [112, 109, 105, 110]) = true := beq_iff_eq.2 (by rw [ByteArray.toList_eq]; exact hn)
  have hb0 := alloc_below w (.cells #[.string nm, .string vl, .bool bare] 60)
  have hN := pnumber_f vl hv 65535 (by decide) _ (hE.below hb0 hE.size)
  have HH := Lib.hid (And.intro hN (And.intro hb0 hc))
  clear hN hb0 hc hE hq hn
  rcases hq : numM 65535 vl.data.toList with _ | v
  · rw [hq] at HH
    go_enter Tryd.func55, Tryd.ntmps55
    go_wp2_with fail
    refine HH.out.1.mono ?_
    rintro e w1 ⟨rfl, b1⟩
    have k1 := HH.out.2.1.trans (b1.mono HH.out.2.1.size)
    have c1 := HH.out.2.2.below k1
    obtain ⟨x0, x1, x2, x3, x4, x5, x6, x7, x8, x9⟩ := ten c1.r
    have f1 := (c1.t 0 (by omega)).2
    have f2 := (c1.t 2 (by omega)).2
    have K := Lib.hid (And.intro k1 c1)
    clear k1 c1 b1 hq
    unfold numN
    try dsimp only
    go_wp2
    go_ret
    exact ⟨rfl, fun c' h => (by cases h), ((Only.refl _ _ _).below K.out.1).setCell 0 _ |>.setCell 2 _⟩
  · rw [hq] at HH
    go_enter Tryd.func55, Tryd.ntmps55
    go_wp2_with fail
    refine HH.out.1.mono ?_
    rintro e w1 ⟨rfl, b1⟩
    have k1 := HH.out.2.1.trans (b1.mono HH.out.2.1.size)
    have c1 := HH.out.2.2.below k1
    obtain ⟨x0, x1, x2, x3, x4, x5, x6, x7, x8, x9⟩ := ten c1.r
    have f1 := (c1.t 0 (by omega)).2
    have f2 := (c1.t 2 (by omega)).2
    have K := Lib.hid (And.intro k1 c1)
    clear k1 c1 b1 hq
    unfold numN
    try dsimp only
    go_wp2
    go_ret
    exact ⟨rfl, fun c' h => (by injection h with h; subst h; exact K.out.2.set2 0 2 (by omega) (by omega) _ _ _ rfl), ((Only.refl _ _ _).below K.out.1).setCell 0 _ |>.setCell 2 _⟩
set_option maxHeartbeats 4000000 in
theorem tell_1 (b : Nat) (c : Cq) (nm vl : ByteArray) (bare : Bool) (hv : vl.size ≤ 1000000) (w : World) (hE : TabE w) (hc : CqAt w b c) (hn : nm.data.toList = [112, 109, 97, 120]) :
    Calls Tryd.prog 55 #[.pointer (some ⟨b, 0, none⟩), .agg #[.string nm, .string vl, .bool bare]] w (TellRet b (tellQ c nm.data.toList vl.data.toList) w) := by
  have hq : tellQ c nm.data.toList vl.data.toList = (match numM 65535 vl.data.toList with | some v => some { c with b := (v : Int), hb := true } | none => none) := by
    unfold tellQ
    rw [hn]
    rfl
  rw [hq]
  have n0 : (nm.toList == [112, 109, 105, 110]) = false := beq_eq_false_iff_ne.2 (by rw [ByteArray.toList_eq, hn]; decide)
  have n1 : (nm.toList == [112, 109, 97, 120]) = true := beq_iff_eq.2 (by rw [ByteArray.toList_eq]; exact hn)
  have hb0 := alloc_below w (.cells #[.string nm, .string vl, .bool bare] 60)
  have hN := pnumber_f vl hv 65535 (by decide) _ (hE.below hb0 hE.size)
  have HH := Lib.hid (And.intro hN (And.intro hb0 hc))
  clear hN hb0 hc hE hq hn
  rcases hq : numM 65535 vl.data.toList with _ | v
  · rw [hq] at HH
    go_enter Tryd.func55, Tryd.ntmps55
    go_wp2_with fail
    refine HH.out.1.mono ?_
    rintro e w1 ⟨rfl, b1⟩
    have k1 := HH.out.2.1.trans (b1.mono HH.out.2.1.size)
    have c1 := HH.out.2.2.below k1
    obtain ⟨x0, x1, x2, x3, x4, x5, x6, x7, x8, x9⟩ := ten c1.r
    have f1 := (c1.t 1 (by omega)).2
    have f2 := (c1.t 3 (by omega)).2
    have K := Lib.hid (And.intro k1 c1)
    clear k1 c1 b1 hq
    unfold numN
    try dsimp only
    go_wp2
    go_ret
    exact ⟨rfl, fun c' h => (by cases h), ((Only.refl _ _ _).below K.out.1).setCell 1 _ |>.setCell 3 _⟩
  · rw [hq] at HH
    go_enter Tryd.func55, Tryd.ntmps55
    go_wp2_with fail
    refine HH.out.1.mono ?_
    rintro e w1 ⟨rfl, b1⟩
    have k1 := HH.out.2.1.trans (b1.mono HH.out.2.1.size)
    have c1 := HH.out.2.2.below k1
    obtain ⟨x0, x1, x2, x3, x4, x5, x6, x7, x8, x9⟩ := ten c1.r
    have f1 := (c1.t 1 (by omega)).2
    have f2 := (c1.t 3 (by omega)).2
    have K := Lib.hid (And.intro k1 c1)
    clear k1 c1 b1 hq
    unfold numN
    try dsimp only
    go_wp2
    go_ret
    exact ⟨rfl, fun c' h => (by injection h with h; subst h; exact K.out.2.set2 1 3 (by omega) (by omega) _ _ _ rfl), ((Only.refl _ _ _).below K.out.1).setCell 1 _ |>.setCell 3 _⟩
set_option maxHeartbeats 4000000 in
theorem tell_2 (b : Nat) (c : Cq) (nm vl : ByteArray) (bare : Bool) (hv : vl.size ≤ 1000000) (w : World) (hE : TabE w) (hc : CqAt w b c) (hn : nm.data.toList = [103, 116]) :
    Calls Tryd.prog 55 #[.pointer (some ⟨b, 0, none⟩), .agg #[.string nm, .string vl, .bool bare]] w (TellRet b (tellQ c nm.data.toList vl.data.toList) w) := by
  have hq : tellQ c nm.data.toList vl.data.toList = (match signedQ vl.data.toList with | some v => some { c with g := v, hg := true } | none => none) := by
    unfold tellQ
    rw [hn]
    rfl
  rw [hq]
  have n0 : (nm.toList == [112, 109, 105, 110]) = false := beq_eq_false_iff_ne.2 (by rw [ByteArray.toList_eq, hn]; decide)
  have n1 : (nm.toList == [112, 109, 97, 120]) = false := beq_eq_false_iff_ne.2 (by rw [ByteArray.toList_eq, hn]; decide)
  have n2 : (nm.toList == [103, 116]) = true := beq_iff_eq.2 (by rw [ByteArray.toList_eq]; exact hn)
  have hb0 := alloc_below w (.cells #[.string nm, .string vl, .bool bare] 60)
  have hN := psigned_f vl hv _ (hE.below hb0 hE.size)
  have HH := Lib.hid (And.intro hN (And.intro hb0 hc))
  clear hN hb0 hc hE hq hn
  rcases hq : signedQ vl.data.toList with _ | v
  · rw [hq] at HH
    go_enter Tryd.func55, Tryd.ntmps55
    go_wp2_with fail
    refine HH.out.1.mono ?_
    rintro e w1 ⟨rfl, b1⟩
    have k1 := HH.out.2.1.trans (b1.mono HH.out.2.1.size)
    have c1 := HH.out.2.2.below k1
    obtain ⟨x0, x1, x2, x3, x4, x5, x6, x7, x8, x9⟩ := ten c1.r
    have f1 := (c1.t 4 (by omega)).2
    have f2 := (c1.t 7 (by omega)).2
    have K := Lib.hid (And.intro k1 c1)
    clear k1 c1 b1 hq
    unfold numI
    try dsimp only
    go_wp2
    go_ret
    exact ⟨rfl, fun c' h => (by cases h), ((Only.refl _ _ _).below K.out.1).setCell 4 _ |>.setCell 7 _⟩
  · rw [hq] at HH
    go_enter Tryd.func55, Tryd.ntmps55
    go_wp2_with fail
    refine HH.out.1.mono ?_
    rintro e w1 ⟨rfl, b1⟩
    have k1 := HH.out.2.1.trans (b1.mono HH.out.2.1.size)
    have c1 := HH.out.2.2.below k1
    obtain ⟨x0, x1, x2, x3, x4, x5, x6, x7, x8, x9⟩ := ten c1.r
    have f1 := (c1.t 4 (by omega)).2
    have f2 := (c1.t 7 (by omega)).2
    have K := Lib.hid (And.intro k1 c1)
    clear k1 c1 b1 hq
    unfold numI
    try dsimp only
    go_wp2
    go_ret
    exact ⟨rfl, fun c' h => (by injection h with h; subst h; exact K.out.2.set2 4 7 (by omega) (by omega) _ _ _ rfl), ((Only.refl _ _ _).below K.out.1).setCell 4 _ |>.setCell 7 _⟩
set_option maxHeartbeats 4000000 in
theorem tell_3 (b : Nat) (c : Cq) (nm vl : ByteArray) (bare : Bool) (hv : vl.size ≤ 1000000) (w : World) (hE : TabE w) (hc : CqAt w b c) (hn : nm.data.toList = [108, 116]) :
    Calls Tryd.prog 55 #[.pointer (some ⟨b, 0, none⟩), .agg #[.string nm, .string vl, .bool bare]] w (TellRet b (tellQ c nm.data.toList vl.data.toList) w) := by
  have hq : tellQ c nm.data.toList vl.data.toList = (match signedQ vl.data.toList with | some v => some { c with l := v, hl := true } | none => none) := by
    unfold tellQ
    rw [hn]
    rfl
  rw [hq]
  have n0 : (nm.toList == [112, 109, 105, 110]) = false := beq_eq_false_iff_ne.2 (by rw [ByteArray.toList_eq, hn]; decide)
  have n1 : (nm.toList == [112, 109, 97, 120]) = false := beq_eq_false_iff_ne.2 (by rw [ByteArray.toList_eq, hn]; decide)
  have n2 : (nm.toList == [103, 116]) = false := beq_eq_false_iff_ne.2 (by rw [ByteArray.toList_eq, hn]; decide)
  have n3 : (nm.toList == [108, 116]) = true := beq_iff_eq.2 (by rw [ByteArray.toList_eq]; exact hn)
  have hb0 := alloc_below w (.cells #[.string nm, .string vl, .bool bare] 60)
  have hN := psigned_f vl hv _ (hE.below hb0 hE.size)
  have HH := Lib.hid (And.intro hN (And.intro hb0 hc))
  clear hN hb0 hc hE hq hn
  rcases hq : signedQ vl.data.toList with _ | v
  · rw [hq] at HH
    go_enter Tryd.func55, Tryd.ntmps55
    go_wp2_with fail
    refine HH.out.1.mono ?_
    rintro e w1 ⟨rfl, b1⟩
    have k1 := HH.out.2.1.trans (b1.mono HH.out.2.1.size)
    have c1 := HH.out.2.2.below k1
    obtain ⟨x0, x1, x2, x3, x4, x5, x6, x7, x8, x9⟩ := ten c1.r
    have f1 := (c1.t 5 (by omega)).2
    have f2 := (c1.t 8 (by omega)).2
    have K := Lib.hid (And.intro k1 c1)
    clear k1 c1 b1 hq
    unfold numI
    try dsimp only
    go_wp2
    go_ret
    exact ⟨rfl, fun c' h => (by cases h), ((Only.refl _ _ _).below K.out.1).setCell 5 _ |>.setCell 8 _⟩
  · rw [hq] at HH
    go_enter Tryd.func55, Tryd.ntmps55
    go_wp2_with fail
    refine HH.out.1.mono ?_
    rintro e w1 ⟨rfl, b1⟩
    have k1 := HH.out.2.1.trans (b1.mono HH.out.2.1.size)
    have c1 := HH.out.2.2.below k1
    obtain ⟨x0, x1, x2, x3, x4, x5, x6, x7, x8, x9⟩ := ten c1.r
    have f1 := (c1.t 5 (by omega)).2
    have f2 := (c1.t 8 (by omega)).2
    have K := Lib.hid (And.intro k1 c1)
    clear k1 c1 b1 hq
    unfold numI
    try dsimp only
    go_wp2
    go_ret
    exact ⟨rfl, fun c' h => (by injection h with h; subst h; exact K.out.2.set2 5 8 (by omega) (by omega) _ _ _ rfl), ((Only.refl _ _ _).below K.out.1).setCell 5 _ |>.setCell 8 _⟩
set_option maxHeartbeats 4000000 in
theorem tell_4 (b : Nat) (c : Cq) (nm vl : ByteArray) (bare : Bool) (hv : vl.size ≤ 1000000) (w : World) (hE : TabE w) (hc : CqAt w b c) (hn : nm.data.toList = [115, 116]) :
    Calls Tryd.prog 55 #[.pointer (some ⟨b, 0, none⟩), .agg #[.string nm, .string vl, .bool bare]] w (TellRet b (tellQ c nm.data.toList vl.data.toList) w) := by
  have hq : tellQ c nm.data.toList vl.data.toList = (match signedQ vl.data.toList with | some v => some { c with s := v, hs := true } | none => none) := by
    unfold tellQ
    rw [hn]
    rfl
  rw [hq]
  have n0 : (nm.toList == [112, 109, 105, 110]) = false := beq_eq_false_iff_ne.2 (by rw [ByteArray.toList_eq, hn]; decide)
  have n1 : (nm.toList == [112, 109, 97, 120]) = false := beq_eq_false_iff_ne.2 (by rw [ByteArray.toList_eq, hn]; decide)
  have n2 : (nm.toList == [103, 116]) = false := beq_eq_false_iff_ne.2 (by rw [ByteArray.toList_eq, hn]; decide)
  have n3 : (nm.toList == [108, 116]) = false := beq_eq_false_iff_ne.2 (by rw [ByteArray.toList_eq, hn]; decide)
  have n4 : (nm.toList == [115, 116]) = true := beq_iff_eq.2 (by rw [ByteArray.toList_eq]; exact hn)
  have hb0 := alloc_below w (.cells #[.string nm, .string vl, .bool bare] 60)
  have hN := psigned_f vl hv _ (hE.below hb0 hE.size)
  have HH := Lib.hid (And.intro hN (And.intro hb0 hc))
  clear hN hb0 hc hE hq hn
  rcases hq : signedQ vl.data.toList with _ | v
  · rw [hq] at HH
    go_enter Tryd.func55, Tryd.ntmps55
    go_wp2_with fail
    refine HH.out.1.mono ?_
    rintro e w1 ⟨rfl, b1⟩
    have k1 := HH.out.2.1.trans (b1.mono HH.out.2.1.size)
    have c1 := HH.out.2.2.below k1
    obtain ⟨x0, x1, x2, x3, x4, x5, x6, x7, x8, x9⟩ := ten c1.r
    have f1 := (c1.t 6 (by omega)).2
    have f2 := (c1.t 9 (by omega)).2
    have K := Lib.hid (And.intro k1 c1)
    clear k1 c1 b1 hq
    unfold numI
    try dsimp only
    go_wp2
    go_ret
    exact ⟨rfl, fun c' h => (by cases h), ((Only.refl _ _ _).below K.out.1).setCell 6 _ |>.setCell 9 _⟩
  · rw [hq] at HH
    go_enter Tryd.func55, Tryd.ntmps55
    go_wp2_with fail
    refine HH.out.1.mono ?_
    rintro e w1 ⟨rfl, b1⟩
    have k1 := HH.out.2.1.trans (b1.mono HH.out.2.1.size)
    have c1 := HH.out.2.2.below k1
    obtain ⟨x0, x1, x2, x3, x4, x5, x6, x7, x8, x9⟩ := ten c1.r
    have f1 := (c1.t 6 (by omega)).2
    have f2 := (c1.t 9 (by omega)).2
    have K := Lib.hid (And.intro k1 c1)
    clear k1 c1 b1 hq
    unfold numI
    try dsimp only
    go_wp2
    go_ret
    exact ⟨rfl, fun c' h => (by injection h with h; subst h; exact K.out.2.set2 6 9 (by omega) (by omega) _ _ _ rfl), ((Only.refl _ _ _).below K.out.1).setCell 6 _ |>.setCell 9 _⟩
set_option maxHeartbeats 4000000 in
theorem tell_f (b : Nat) (c : Cq) (nm vl : ByteArray) (bare : Bool) (hv : vl.size ≤ 1000000) (w : World) (hE : TabE w) (hc : CqAt w b c) :
    Calls Tryd.prog 55 #[.pointer (some ⟨b, 0, none⟩), .agg #[.string nm, .string vl, .bool bare]] w (TellRet b (tellQ c nm.data.toList vl.data.toList) w) := by
  by_cases h0 : nm.data.toList = [112, 109, 105, 110]
  · exact tell_0 b c nm vl bare hv w hE hc h0
  by_cases h1 : nm.data.toList = [112, 109, 97, 120]
  · exact tell_1 b c nm vl bare hv w hE hc h1
  by_cases h2 : nm.data.toList = [103, 116]
  · exact tell_2 b c nm vl bare hv w hE hc h2
  by_cases h3 : nm.data.toList = [108, 116]
  · exact tell_3 b c nm vl bare hv w hE hc h3
  by_cases h4 : nm.data.toList = [115, 116]
  · exact tell_4 b c nm vl bare hv w hE hc h4
  have hq : tellQ c nm.data.toList vl.data.toList = some c := by
    unfold tellQ
    rw [if_neg h0, if_neg h1, if_neg h2, if_neg h3, if_neg h4]
  rw [hq]
  have n0 : (nm.toList == [112, 109, 105, 110]) = false := beq_eq_false_iff_ne.2 (by rw [ByteArray.toList_eq]; exact h0)
  have n1 : (nm.toList == [112, 109, 97, 120]) = false := beq_eq_false_iff_ne.2 (by rw [ByteArray.toList_eq]; exact h1)
  have n2 : (nm.toList == [103, 116]) = false := beq_eq_false_iff_ne.2 (by rw [ByteArray.toList_eq]; exact h2)
  have n3 : (nm.toList == [108, 116]) = false := beq_eq_false_iff_ne.2 (by rw [ByteArray.toList_eq]; exact h3)
  have n4 : (nm.toList == [115, 116]) = false := beq_eq_false_iff_ne.2 (by rw [ByteArray.toList_eq]; exact h4)
  have hb0 := alloc_below w (.cells #[.string nm, .string vl, .bool bare] 60)
  have HH := Lib.hid (And.intro hb0 hc)
  clear hb0 hc hE hq h0 h1 h2 h3 h4
  go_enter Tryd.func55, Tryd.ntmps55
  go_wp2
  go_ret
  exact ⟨rfl, fun c' h => (by injection h with h; subst h; exact HH.out.2.below HH.out.1), (Only.refl _ _ _).below HH.out.1⟩
end Go.Proofs.YtbclgalocipmfaaDoor
