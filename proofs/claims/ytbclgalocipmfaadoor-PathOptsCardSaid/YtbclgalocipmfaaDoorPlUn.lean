/-
  A sign of more than a byte is none of the 64.
-/
/-
  The program's bytes of signs.
-/
import Derived.Test.YtbclgalocipmfaaDoorPlB64
import Derived.Test.YtbclgalocipmfaaDoorPlRunes
import Derived.Test.YtbclgalocipmfaaDoorShelfB
import Derived.Lib.Bytealg
import Derived.Laws.Runes
import Derived.Laws.RangeAny
import Derived.Lib.QuoteLoop
import Derived.Lib.DecodeN
import Derived.Lib.TrimUEq
import Derived.Lib.OthersKept
import Derived.WalkMore
import Derived.Deep.QuietTactic
import Derived.BigQuiet
import Derived.Deep.LoopGhost
namespace Go.Proofs.YtbclgalocipmfaaDoor
open Go.RowKit
set_option maxRecDepth 100000
set_option maxRecDepth 100000
set_option linter.unusedVariables false
theorem vrune_f (r : Int) (hr0 : 128 ≤ r) (hr1 : r ≤ 1114111) (hv : r < 55296 ∨ 57343 < r) (w : World) :
    Calls Tryd.prog 98 #[.int .i32 r] w fun e w' => e = .returned (.bool true) ∧ w' = w := by
  have h0 : (0 : Int) ≤ r := by omega
  rcases hv with hv | hv
  · go_enter Tryd.func98, Tryd.ntmps98
    go_wp2
    go_ret
    exact ⟨rfl, rfl⟩
  · have h1 : ¬ r < 55296 := by omega
    go_enter Tryd.func98, Tryd.ntmps98
    go_wp2
    go_ret
    exact ⟨rfl, rfl⟩
theorem signs_lo (k : Nat) (hk : k = 1 ∨ k = 2 ∨ k = 3) : ∃ h : k < signsB.size, (signsB[k]'h).toNat < 128 := by
  rcases hk with rfl | rfl | rfl
  · exact ⟨by decide, by decide +kernel⟩
  · exact ⟨by decide, by decide +kernel⟩
  · exact ⟨by decide, by decide +kernel⟩
theorem signs_ascI : ∀ b ∈ signsB.data.toList, b.toNat < 128 := by decide +kernel
set_option maxHeartbeats 16000000 in
theorem idx_high (r : Int) (hr0 : 128 ≤ r) (hr1 : r ≤ 1114111) (hne : r ≠ 65533) (hv : r < 55296 ∨ 57343 < r) (w : World) :
    Calls Tryd.prog 69 #[.string signsB, .int .i32 r] w fun e w' => e = .returned (.int .i64 (-1)) ∧ Below w.heap.size w w' := by
  have h1 : ¬ (r < 128) := by omega
  have h2 : ¬ (r = 65533) := hne
  obtain ⟨hE2, hE4, hEl⟩ := encode_facts r (by rw [validRune_eq]; exact decide_eq_true (by omega)) hr0
  have HV := Lib.hid (vrune_f r hr0 hr1 hv)
  obtain ⟨E, hE⟩ : ∃ E, Utf8.encode r = E := ⟨_, rfl⟩
  rw [hE] at hE2 hE4 hEl
  obtain ⟨k, hk⟩ : ∃ k, E.size = k + 1 := ⟨E.size - 1, by omega⟩
  have hk3 : k = 1 ∨ k = 2 ∨ k = 3 := by omega
  have hkE : k < E.size := by omega
  obtain ⟨c, hc⟩ : ∃ c, E[k]'hkE = c := ⟨_, rfl⟩
  have hc128 : 128 ≤ c.toNat := by
    have := hEl (by omega)
    rw [← hc]
    have e : E.size - 1 = k := by omega
    simp only [e] at this
    exact this
  obtain ⟨hks, hs⟩ := signs_lo k hk3
  obtain ⟨d, hd⟩ : ∃ d, signsB[k]'hks = d := ⟨_, rfl⟩
  rw [hd] at hs
  have hcd : ((d.toNat : Int) == (c.toNat : Int)) = false := beq_eq_false_iff_ne.2 (by omega)
  have hfi := fun a e => firstIdx_ascii signsB a e c signs_ascI hc128
  have hix : ∀ (a e : Nat) (W : World), Calls Tryd.prog 97 #[.string (signsB.extract a e), .int .u8 (c.toNat : Int)] W fun e w' => e = .returned (.int .i64 (-1)) ∧ w' = W := fun a e W => by
    have h : Calls Tryd.prog 97 #[.string (signsB.extract a e), .int .u8 (c.toNat : Int)] W _ := Any.strings_IndexByte { Tryd.lays152 with } (signsB.extract a e) (c.toNat : Int) W
    refine h.mono ?_
    rintro x y ⟨rfl, rfl⟩
    refine ⟨?_, rfl⟩
    rw [show (c.toNat : Int).toNat.toUInt8 = c by simp, ← Lib.firstIdx_eq, hfi a e]
  have hEk : ∀ W, (Instr.index 9 (.string E) (.int .i64 (k : Int))).run Tryd.prog W = .ok (.int .u8 (c.toNat : Int)) W := fun W => by
    rw [run_index_string W 9 E .i64 (k : Int) (by kernel_rfl), dif_pos ⟨by omega, by omega⟩]
    simp only [Int.toNat_natCast, hc]
  have HF := Lib.hid hix
  have hsz : ((E.size : Int) - 1) = k := by omega
  have hsz2 : (E.size : Int) = k + 1 := by omega
  have hkI : (k : Int) < 64 := by omega
  have hk0 : (0 : Int) ≤ k := by omega
  have hS : (signsB.size : Int) = 64 := rfl
  clear hix hEl hE2 hE4 hfi hv hr0 hr1 hne hk3
  go_enter Tryd.func69, Tryd.ntmps69
  go_wp2_with fail
  refine (HV.out w).mono ?_
  rintro e w1 ⟨rfl, rfl⟩
  try dsimp only
  go_wp2
  go_step3
  go_wp2
  obtain ⟨B, hB⟩ : ∃ B, w1.heap.size = B := ⟨_, rfl⟩
  go_loopw [9, 10] (fun v9 v10 wr => v9 = .int .i64 (k : Int) ∧ v10 = .int .i64 0 ∧ Aside (Below w1.heap.size w1 wr)) (fun _ _ _ => 0)
  case atStart => exact ⟨rfl, rfl, (show Aside _ from Below.refl _ _)⟩
  case round =>
    obtain ⟨rfl, rfl, hrel⟩ := hrel
    have HR := Lib.hid hrel.out
    clear hrel
    go_wp2_with fail
    have hk1 : (k : Int) < (E.size : Int) := by omega
    have hk2 : (k : Int) < (signsB.size : Int) := by omega
    have hcn : ((d.toNat : Int) != (c.toNat : Int)) = true := by rw [bne, hcd]; rfl
    go_step3
    go_wp2_with fail
    go_quiet (fail)
    go_wp2_with fail
    have hk5 : (k : Int) + 1 ≤ 64 := by omega
    have hk6 : (0 : Int) ≤ (k : Int) + 1 := by omega
    have hk7 : (k : Int) + 1 ≤ (signsB.size : Int) := by omega
    have hwr : IntKind.i64.wrap ((k : Int) + 1) = (k : Int) + 1 := IntWalk.i64_in _ (by omega)
    go_quiet ((exact (HF.out _ _ _).mono fun _ _ h => ⟨h.1, _, h.2⟩))
    go_wp2_with fail
    rw [Exit.noGoto_ret]
    simp (config := {zetaDelta := true}) only [Exit.inBlock, Exit.noGoto, Exit.then]
    go_ret
    exact ⟨rfl, HR.out.trans (drewN_below _ _ _)⟩
set_option maxHeartbeats 16000000 in
theorem idx_err (w : World) :
    Calls Tryd.prog 69 #[.string signsB, .int .i32 65533] w fun e w' => e = .returned (.int .i64 (-1)) ∧ Below w.heap.size w w' := by
  have hS : (signsB.size : Int) = 64 := rfl
  go_enter Tryd.func69, Tryd.ntmps69
  go_wp2_with fail
  have hI0 : (w.iter signsB 0).heap[w.heap.size]? = some (.stringIter signsB 0) := World.iter_heap _ signsB 0
  have hb0 : Below w.heap.size w (w.iter signsB 0) := (Below.refl _ w).alloc (Nat.le_refl _) _
  obtain ⟨B, hB⟩ : ∃ B, w.heap.size = B := ⟨_, rfl⟩
  have H0 := Lib.hid (And.intro hI0 (And.intro hb0 hB))
  rw [hB]
  clear hI0 hb0
  go_loopw [5, 6] (fun v5 v6 wr => ∃ (k : Nat), k ≤ 64 ∧ Aside (wr.heap[B]? = some (.stringIter signsB k) ∧ Below w.heap.size w wr)) (fun _ _ wr => 64 - wr.iterPos B)
  case atStart => exact ⟨0, by omega, (show Aside _ from ⟨by have := H0.out.1; rw [H0.out.2.2] at this; exact this, H0.out.2.1⟩)⟩
  case round =>
    obtain ⟨k, hk, hrel⟩ := hrel
    obtain ⟨hI, hb⟩ := hrel.out
    have hBz : w.heap.size = B := H0.out.2.2
    clear hrel
    by_cases hlt : k < signsB.size
    · have hl : k < 64 := hlt
      obtain ⟨u, hu⟩ : ∃ u, signsB[k]'hlt = u := ⟨_, rfl⟩
      have hua : u.toNat < 128 := signs_ascI u (by rw [← hu]; exact List.getElem_mem (l := signsB.data.toList) (n := k) (by rw [Array.length_toList]; exact hlt))
      have hnx := fun ty => Lib.run_next_ascii_at (P := Tryd.prog) wr B signsB k ty hI hlt (by rw [hu]; exact hua)
      rw [hu] at hnx
      have hI' := Lib.iterAt_heap wr B signsB k (k + 1) hI
      have hb' := Lib.below_iterAt (k := B) hb (by omega) signsB (k + 1)
      have hiz : (wr.iterAt B signsB (k + 1)).iterPos B = k + 1 := by unfold World.iterPos; rw [hI']
      have hip : wr.iterPos B = k := by unfold World.iterPos; rw [hI]
      have hne : ((u.toNat : Int) == 65533) = false := beq_eq_false_iff_ne.2 (by omega)
      have HI := Lib.hid (And.intro hI' hb')
      have HP := Lib.hid (And.intro hiz hip)
      clear hI hb hI' hb' hiz hip hu
      go_wp2
      go_roundw
      case rel => exact ⟨k + 1, by omega, (show Aside _ from ⟨HI.out.1, HI.out.2⟩)⟩
      case measure => rw [HP.out.1, HP.out.2]; omega
    · obtain rfl : k = signsB.size := by have : signsB.size = 64 := rfl; omega
      have hnx := fun ty => Lib.run_next_end_at (P := Tryd.prog) wr B signsB signsB.size ty hI (by omega)
      have HI := Lib.hid (And.intro hI hb)
      clear hI hb
      go_wp2
      go_ret
      exact ⟨rfl, HI.out.2⟩
/-- A sign that begins with a byte of 128 or more is none of the 64. -/
theorem idx_any (s : ByteArray) (pos : Nat) (h : pos < s.size) (ha : 128 ≤ (s[pos]'h).toNat) (w : World) :
    Calls Tryd.prog 69 #[.string signsB, .int .i32 ((Utf8.decode s pos).1 : Int)] w fun e w' => e = .returned (.int .i64 (-1)) ∧ Below w.heap.size w w' := by
  have h0 := (decode_high s pos h ha).1
  have hv := Lib.decodeN_valid (s.size - pos) (s.get! pos).toNat (s.get! (pos + 1)).toNat (s.get! (pos + 2)).toNat (s.get! (pos + 3)).toNat (UInt8.toNat_lt _)
  rw [← Lib.decode_at] at hv
  obtain ⟨r, hr⟩ : ∃ r, (Utf8.decode s pos).1 = r := ⟨_, rfl⟩
  rw [hr] at h0 hv ⊢
  by_cases he : r = 65533
  · subst he
    exact idx_err w
  · exact idx_high (r : Int) (by omega) (by omega) (by omega) (by omega) w
theorem idx_all : ∀ c : Fin 256, Lib.indexByte signsB.data.toList (UInt8.ofNat c.val) = sixI c.val := by decide +kernel
theorem idx_sign (u : UInt8) : Lib.indexByte signsB.data.toList u = sixI u.toNat := by
  have := idx_all ⟨u.toNat, u.toNat_lt⟩
  rwa [UInt8.ofNat_toNat] at this
def unS (st : Nat × Nat × List UInt8) (six : Nat) : Nat × Nat × List UInt8 :=
  if st.2.1 + 6 < 8 then (st.1 * 64 + six, st.2.1 + 6, st.2.2)
  else ((st.1 * 64 + six) % 2 ^ (st.2.1 - 2), st.2.1 - 2, if st.2.2.length ≤ 200 then st.2.2 ++ [UInt8.ofNat ((st.1 * 64 + six) / 2 ^ (st.2.1 - 2))] else st.2.2)
def unF : List UInt8 → Nat × Nat × List UInt8 → Option (Nat × Nat × List UInt8)
  | [], st => some st
  | u :: r, st => if sixI u.toNat < 0 then none else unF r (unS st (sixI u.toNat).toNat)
def unE (o : Option (Nat × Nat × List UInt8)) : List UInt8 × Int :=
  match o with
  | none => ([], 20)
  | some (rest, _, out) => if rest ≠ 0 then ([], 20) else if 200 < out.length then ([], 2) else (out, 0)
def unQ (l : List UInt8) : List UInt8 × Int :=
  if l.length % 4 ≠ 0 ∨ 2 < l.length - (Lib.trimRightB l 61).length then ([], 20) else unE (unF (Lib.trimRightB l 61) (0, 0, []))
def UnRet (r : List UInt8 × Int) (w : World) (e : Ending) (w' : World) : Prop :=
  ∃ A n c, e = .returned (.tuple #[.slice A n c, .int .i64 r.2]) ∧ n ≤ c ∧ n = r.1.length ∧ Bs w' w'.heap.size A n r.1 ∧ Below w.heap.size w w' ∧ ∀ ad, A = some ad → w.heap.size ≤ ad.block
theorem and0b (x : Int) : bits .and .i64 x 0 = x % 1 := by
  show IntKind.i64.wrap ((BitVec.ofInt 64 x &&& BitVec.ofInt 64 0).toNat : Int) = x % 1
  rw [BitVec.toNat_and, show (BitVec.ofInt 64 0).toNat = 2 ^ 0 - 1 from rfl, Nat.and_two_pow_sub_one_eq_mod, BitVec.toNat_ofInt, IntWalk.i64_in _ (by omega)]
  omega
theorem and3b (x : Int) : bits .and .i64 x 3 = x % 4 := by
  show IntKind.i64.wrap ((BitVec.ofInt 64 x &&& BitVec.ofInt 64 3).toNat : Int) = x % 4
  rw [BitVec.toNat_and, show (BitVec.ofInt 64 3).toNat = 2 ^ 2 - 1 from rfl, Nat.and_two_pow_sub_one_eq_mod, BitVec.toNat_ofInt, IntWalk.i64_in _ (by omega)]
  omega
theorem and15b (x : Int) : bits .and .i64 x 15 = x % 16 := by
  show IntKind.i64.wrap ((BitVec.ofInt 64 x &&& BitVec.ofInt 64 15).toNat : Int) = x % 16
  rw [BitVec.toNat_and, show (BitVec.ofInt 64 15).toNat = 2 ^ 4 - 1 from rfl, Nat.and_two_pow_sub_one_eq_mod, BitVec.toNat_ofInt, IntWalk.i64_in _ (by omega)]
  omega
theorem trim_len (c : UInt8) (l : List UInt8) : (Lib.trimRightB l c).length ≤ l.length ∧ ∀ u ∈ Lib.trimRightB l c, u ∈ l := by
  unfold Lib.trimRightB
  have h := List.dropWhile_sublist (l := l.reverse) (· == c)
  refine ⟨by rw [List.length_reverse]; have := h.length_le; rwa [List.length_reverse] at this, fun u hu => ?_⟩
  have := h.subset (List.mem_reverse.1 hu)
  exact List.mem_reverse.1 this
theorem sixI_lt (c : Nat) : sixI c < 0 ∧ sixI c = -1 ∨ 0 ≤ sixI c ∧ sixI c < 64 := by unfold sixI; (repeat' split) <;> omega
theorem iter_grown (w : World) (B : Nat) (s : ByteArray) (p : Nat) : w.grownBy (w.iterAt B s p) (some B) :=
  ⟨rfl, rfl, rfl, by rw [Lib.iterAt_size]; exact Nat.le_refl _, fun k _ hne => Lib.iterAt_other w B k s p (fun e => hne (by rw [e]))⟩
set_option maxHeartbeats 16000000 in
theorem unbase64_a (s : ByteArray) (hs : s.size ≤ 1000000) (w : World) :
    Calls Tryd.prog 40 #[.string s] w (UnRet (unQ s.data.toList) w) := by
  obtain ⟨i0, hi0, hz0, hz1, hz2⟩ := info_parts info_u8
  have hT := Tryd.strings_TrimRight_one s 61 (by decide) w (by omega)
  have hsl : s.data.toList.length = s.size := Array.length_toList
  obtain ⟨htl, htm⟩ := trim_len 61 s.data.toList
  obtain ⟨t, ht⟩ : ∃ t : ByteArray, ⟨(Lib.trimRightB s.data.toList 61).toArray⟩ = t := ⟨_, rfl⟩
  have htd : t.data.toList = Lib.trimRightB s.data.toList 61 := by rw [← ht]
  have hts : t.data.toList.length = t.size := Array.length_toList
  rw [ht] at hT
  obtain ⟨RES, hRES⟩ : ∃ RES, unQ s.data.toList = RES := ⟨_, rfl⟩
  rw [hRES]
  unfold unQ at hRES
  rw [← htd] at hRES htl htm
  have HT := Lib.hid hT
  by_cases h4 : s.size % 4 ≠ 0
  · rw [if_pos (.inl (by omega))] at hRES
    obtain ⟨m4, hm4⟩ : ∃ m4, s.size % 4 = m4 := ⟨_, rfl⟩
    have hm4I : (s.size : Int) % 4 = (m4 : Int) := by omega
    have hm4T : (s.size : Int).tmod 4 = (m4 : Int) := by rw [Int.tmod_eq_emod_of_nonneg (by omega)]; exact hm4I
    have hm0 : ¬ (m4 : Int) = 0 := by omega
    have hm1 : ((m4 : Int) != 0) = true := bne_iff_ne.2 hm0
    have hm2 : ((m4 : Int) == 0) = false := beq_eq_false_iff_ne.2 hm0
    subst hRES
    clear hT hsl htl htm ht htd hts h4 hm4
    go_enter Tryd.func40, Tryd.ntmps40
    go_wp2_with fail
    refine HT.out.mono ?_
    rintro e w1 ⟨rfl, hw⟩
    obtain rfl := hw.symm
    go_wp2
    go_ret2
    exact ⟨none, 0, 0, rfl, Nat.le_refl _, rfl, Bs.empty _ _ _, Below.refl _ _, fun ad h => by cases h⟩
  have hm4I : (s.size : Int) % 4 = 0 := by omega
  have hm4T : (s.size : Int).tmod 4 = 0 := by rw [Int.tmod_eq_emod_of_nonneg (by omega)]; exact hm4I
  by_cases h2 : 2 < s.size - t.size
  · rw [if_pos (.inr (by omega))] at hRES
    have h2I : (2 : Int) < (s.size : Int) - t.size := by omega
    subst hRES
    clear hT hsl htl htm ht htd hts h4 h2
    go_enter Tryd.func40, Tryd.ntmps40
    go_wp2_with fail
    refine HT.out.mono ?_
    rintro e w1 ⟨rfl, hw⟩
    obtain rfl := hw.symm
    go_wp2
    go_ret2
    exact ⟨none, 0, 0, rfl, Nat.le_refl _, rfl, Bs.empty _ _ _, Below.refl _ _, fun ad h => by cases h⟩
  have h2I : ¬ (2 : Int) < (s.size : Int) - t.size := by omega
  rw [if_neg (by omega)] at hRES
  obtain ⟨G, hG⟩ : ∃ G, unF t.data.toList (0, 0, []) = G := ⟨_, rfl⟩
  rw [hG] at hRES
  have hGd : unF (t.data.toList.drop 0) (0, 0, []) = G := hG
  have htz : t.size ≤ 1000000 := by omega
  have HA := Lib.hid (And.intro hRES (And.intro True.intro (And.intro hts hGd)))
  clear hT hsl htl htm ht htd hts h4 h2 hRES hG hGd
  go_enter Tryd.func40, Tryd.ntmps40
  go_wp2_with fail
  refine HT.out.mono ?_
  rintro e w1 ⟨rfl, hw⟩
  obtain rfl := hw.symm
  go_wp2_with fail
  have hI0 : (w.iter t 0).heap[w.heap.size]? = some (.stringIter t 0) := World.iter_heap _ t 0
  have hb0 : Below w.heap.size w (w.iter t 0) := (Below.refl _ w).alloc (Nat.le_refl _) _
  obtain ⟨B, hB⟩ : ∃ B, w.heap.size = B := ⟨_, rfl⟩
  have hz0 : (w.iter t 0).heap.size = w.heap.size + 1 := alloc_size _ _
  have H0 := Lib.hid (And.intro hI0 (And.intro hb0 (And.intro hB hz0)))
  rw [hB]
  clear hI0 hb0
  clear hz0
  go_loopw [5, 6, 7] (fun v5 v6 v7 wr => ∃ (k rest bits N c' : Nat) (A' : Option Addr), v5 = .slice A' N c' ∧ v6 = .int .i64 (rest : Int) ∧ v7 = .int .i64 (bits : Int) ∧ k ≤ t.size ∧ (bits = 0 ∨ bits = 2 ∨ bits = 4 ∨ bits = 6) ∧ rest < 2 ^ bits ∧ N ≤ 201 ∧ Aside (wr.heap[B]? = some (.stringIter t k) ∧ Below w.heap.size w wr ∧ ∃ out, unF (t.data.toList.drop k) (rest, bits, out) = G ∧ out.length = N ∧ wr.ownsRow (B + 1) 5 1 (.slice A' N c') N (U8 out))) (fun _ _ _ wr => t.size - wr.iterPos B)
  case atStart => exact ⟨0, 0, 0, 0, 0, none, rfl, rfl, rfl, by omega, .inl rfl, by decide, by omega, (show Aside _ from ⟨by have := H0.out.1; rw [H0.out.2.2.1] at this; exact this, H0.out.2.1, [], HA.out.2.2.2, rfl, World.ownsRow_nil _ _ _ _⟩)⟩
  case round =>
    obtain ⟨k, rest, bits, N, c', A', rfl, rfl, rfl, hk, hbits, hrest, hN, hrel⟩ := hrel
    obtain ⟨hI, hb, out, hgo, hol, hown⟩ := hrel.out
    have hBz : w.heap.size = B := H0.out.2.2.1
    have hBlt : B < wr.heap.size := (Array.getElem?_eq_some_iff.1 hI).1
    clear hrel
    by_cases hlt : k < t.size
    · have hkl : k < t.data.toList.length := by rw [HA.out.2.2.1]; exact hlt
      obtain ⟨u, hu⟩ : ∃ u, t.data.toList[k]'hkl = u := ⟨_, rfl⟩
      have hu2 : t[k]'hlt = u := by rw [← hu]; rfl
      rw [List.drop_eq_getElem_cons hkl, hu] at hgo
      by_cases hua : u.toNat < 128
      · have hnx := fun ty => Lib.run_next_ascii_at (P := Tryd.prog) wr B t k ty hI hlt (by rw [hu2]; exact hua)
        rw [hu2] at hnx
        have hI' := Lib.iterAt_heap wr B t k (k + 1) hI
        have hb' := Lib.below_iterAt (k := B) hb (by omega) t (k + 1)
        have hown2 := hown.kept (iter_grown wr B t (k + 1)) (.inr (fun e => by have := (hown.lt B e).1; omega))
        have hix := Tryd.strings_IndexRune_ascii signsB (u.toNat : Int) (wr.iterAt B t (k + 1)) (by omega) (by omega)
        rw [show (u.toNat : Int).toNat.toUInt8 = u by simp, idx_sign u] at hix
        obtain ⟨un, hun⟩ : ∃ un, u.toNat = un := ⟨_, rfl⟩
        rw [hun] at hnx hix
        have HI := Lib.hid (And.intro hI' hb')
        have hsl := sixI_lt un
        have hgo : (if sixI u.toNat < 0 then none else unF (t.data.toList.drop (k + 1)) (unS (rest, bits, out) (sixI u.toNat).toNat)) = G := hgo
        rw [hun] at hgo
        obtain ⟨sx, hsx⟩ : ∃ sx, sixI un = sx := ⟨_, rfl⟩
        rw [hsx] at hix hgo hsl
        have hiz : (wr.iterAt B t (k + 1)).iterPos B = k + 1 := by unfold World.iterPos; rw [hI']
        have hip : wr.iterPos B = k := by unfold World.iterPos; rw [hI]
        have HP := Lib.hid (And.intro hiz hip)
        have HX := Lib.hid hix
        clear hsx hun hu hu2 hua hkl hown hI hb hI' hb' hix hiz hip
        rcases hsl with ⟨_, rfl⟩ | ⟨hs0, hs64⟩
        · rw [if_pos (by decide)] at hgo
          have hE : unE G = ([], 20) := by rw [← hgo]; rfl
          have HE := Lib.hid hE
          clear hgo hE hown2 hol hrest hbits
          go_wp2_with fail
          refine HX.out.mono ?_
          rintro e w2 ⟨rfl, hw⟩
          obtain rfl := hw.symm
          go_wp2
          go_ret2
          have hr2 := HA.out.1
          rw [HE.out] at hr2
          subst hr2
          exact ⟨none, 0, 0, rfl, Nat.le_refl _, rfl, Bs.empty _ _ _, HI.out.2, fun ad h => by cases h⟩
        · obtain ⟨S6, rfl⟩ := Int.eq_ofNat_of_zero_le hs0
          rw [if_neg (by omega), Int.toNat_natCast] at hgo
          have hS64 : S6 < 64 := by omega
          have hS64I : (S6 : Int) < 64 := hs64
          have hS0 : ¬ (S6 : Int) < 0 := by omega
          clear hs0 hs64
          go_wp2_with fail
          refine HX.out.mono ?_
          rintro e w2 ⟨rfl, hw⟩
          obtain rfl := hw.symm
          rcases hbits with rfl | rfl | rfl | rfl
          · obtain rfl : rest = 0 := by simpa using hrest
            have hst : unS (0, 0, out) S6 = (S6, 6, out) := by unfold unS; dsimp only; rw [if_pos (by omega)]; simp
            rw [hst] at hgo
            have hor : bits .or .i64 0 (S6 : Int) = (S6 : Int) := by
              have h := or_lowB 6 0 S6 (by show S6 < 64; omega) (by show 64 * 0 + S6 < _; omega)
              simpa using h
            have H2 := Lib.hid (And.intro hgo (And.intro hS64 (And.intro hol hown2)))
            clear hgo hol hown2 hst hrest
            go_wp2
            go_roundw
            case rel => exact ⟨k + 1, S6, 6, N, c', A', rfl, by first | rfl | go_num, by first | rfl | go_num, by omega, .inr (.inr (.inr rfl)), by have := H2.out.2.1; simpa using this, hN, (show Aside _ from ⟨HI.out.1, HI.out.2, out, H2.out.1, H2.out.2.2.1, H2.out.2.2.2⟩)⟩
            case measure => rw [HP.out.1, HP.out.2]; omega
          · have hS12 : rest < 4 := by have := hrest; simpa using this
            obtain ⟨V, hV⟩ : ∃ V, rest * 64 + S6 = V := ⟨_, rfl⟩
            have hVm : V < 256 := by omega
            obtain ⟨q, hq⟩ : ∃ q, V / 1 = q := ⟨_, rfl⟩
            obtain ⟨y, hy⟩ : ∃ y, V % 1 = y := ⟨_, rfl⟩
            have hqu : ((UInt8.ofNat q).toNat : Int) = (q : Int) := by rw [UInt8.toNat_ofNat']; omega
            have hor : bits .or .i64 ((rest : Int) * 64) (S6 : Int) = (V : Int) := by
              have h := or_lowB 6 rest S6 (by show S6 < 64; omega) (by show 64 * rest + S6 < _; omega)
              rw [show ((2 ^ 6 * rest : Nat) : Int) = (rest : Int) * 64 by show ((64 * rest : Nat) : Int) = _; omega] at h
              rw [h]; show ((64 * rest + S6 : Nat) : Int) = _; omega
            have hand : bits .and .i64 (V : Int) 0 = (y : Int) := by rw [and0b]; omega
            have hqI : (V : Int) % 256 = (q : Int) := by omega
            have hst : unS (rest, 2, out) S6 = (y, 0, if out.length ≤ 200 then out ++ [UInt8.ofNat q] else out) := by
              unfold unS; dsimp only; rw [if_neg (by omega), hV, show 2 - 2 = 0 from rfl, show (2 : Nat) ^ 0 = 1 from rfl, hq, hy]
            rw [hst] at hgo
            have hym : y < 1 := by omega
            have hrI : (rest : Int) < 4 := by omega
            by_cases h200 : N ≤ 200
            · have h2I : (N : Int) ≤ 200 := by omega
              rw [if_pos (by omega)] at hgo
              have H2 := Lib.hid (And.intro hgo (And.intro hqu (And.intro hym (And.intro hol hown2))))
              clear hgo hqu hym hol hown2 hV hVm hq hy hst hrest hS12
              go_wp2_with (at_builtin; refine wpList_append_bs _ rfl (.tmp 47) (.tmp 52) 24 rfl (B + 1) 5 i0 Tryd.underlying24 hi0 hz0 hz1 hz2 (.slice A' N c') N _ rfl (H2.out.2.2.2.2.alloc _) ((wr.iterAt B t (k + 1)).heap.size + 1) (some ⟨(wr.iterAt B t (k + 1)).heap.size, 0, none⟩) 1 1 [UInt8.ofNat q] rfl (Bs.lit_ (wr.iterAt B t (k + 1)) 5 _ _ [UInt8.ofNat q] (by show [Value.int .u8 (q : Int)] = [Value.int .u8 ((UInt8.ofNat q).toNat : Int)]; rw [H2.out.2.1])) (by omega) (by rw [alloc_size, Lib.iterAt_size]; omega) ?_; intro v2 w2 hown3 hgrow3; obtain ⟨A3, c3, rfl, hc3⟩ := own_slice (l := out ++ [UInt8.ofNat q]) (by rw [U8_append]; exact hown3); have HO := Lib.hid (And.intro hown3 (And.intro hgrow3 hc3)); clear hown3 hgrow3 hc3)
              go_roundw
              case rel =>
                refine ⟨k + 1, y, 0, N + 1, c3, A3, rfl, by first | rfl | go_num, by first | rfl | go_num, by omega, by omega, by have := H2.out.2.2.1; simpa using this, by omega, (show Aside _ from ⟨?_, ?_, out ++ [UInt8.ofNat q], H2.out.1, by rw [List.length_append, H2.out.2.2.2.1]; rfl, by rw [U8_append]; exact HO.out.1⟩)⟩
                · exact (HO.out.2.1.block B (by rw [alloc_size, Lib.iterAt_size]; omega) (fun e => by have := (H2.out.2.2.2.2.lt B e.symm).1; omega)).trans ((Lib.alloc_old _ _ B (by rw [Lib.iterAt_size]; omega)).trans HI.out.1)
                · exact (HI.out.2.alloc HI.out.2.size _).grown HO.out.2.1 (by rw [alloc_size]; have := HI.out.2.size; omega) (fun k e => by have := (H2.out.2.2.2.2.lt k e).1; omega)
              case measure =>
                have h1 : w2.iterPos B = k + 1 := by unfold World.iterPos; rw [(HO.out.2.1.block B (by rw [alloc_size, Lib.iterAt_size]; omega) (fun e => by have := (H2.out.2.2.2.2.lt B e.symm).1; omega)).trans ((Lib.alloc_old _ _ B (by rw [Lib.iterAt_size]; omega)).trans HI.out.1)]
                rw [h1, HP.out.2]; omega
            · have h2I : ¬ (N : Int) ≤ 200 := by omega
              rw [if_neg (by omega)] at hgo
              have H2 := Lib.hid (And.intro hgo (And.intro hym (And.intro hol hown2)))
              clear hgo hqu hym hol hown2 hV hVm hq hy hst hrest hS12
              go_wp2
              go_roundw
              case rel => exact ⟨k + 1, y, 0, N, c', A', rfl, by first | rfl | go_num, by first | rfl | go_num, by omega, by omega, by have := H2.out.2.1; simpa using this, hN, (show Aside _ from ⟨HI.out.1, HI.out.2, out, H2.out.1, H2.out.2.2.1, H2.out.2.2.2⟩)⟩
              case measure => rw [HP.out.1, HP.out.2]; omega
          · have hS12 : rest < 16 := by have := hrest; simpa using this
            obtain ⟨V, hV⟩ : ∃ V, rest * 64 + S6 = V := ⟨_, rfl⟩
            have hVm : V < 1024 := by omega
            obtain ⟨q, hq⟩ : ∃ q, V / 4 = q := ⟨_, rfl⟩
            obtain ⟨y, hy⟩ : ∃ y, V % 4 = y := ⟨_, rfl⟩
            have hqu : ((UInt8.ofNat q).toNat : Int) = (q : Int) := by rw [UInt8.toNat_ofNat']; omega
            have hor : bits .or .i64 ((rest : Int) * 64) (S6 : Int) = (V : Int) := by
              have h := or_lowB 6 rest S6 (by show S6 < 64; omega) (by show 64 * rest + S6 < _; omega)
              rw [show ((2 ^ 6 * rest : Nat) : Int) = (rest : Int) * 64 by show ((64 * rest : Nat) : Int) = _; omega] at h
              rw [h]; show ((64 * rest + S6 : Nat) : Int) = _; omega
            have hand : bits .and .i64 (V : Int) 3 = (y : Int) := by rw [and3b]; omega
            have hqI : (V : Int) / 4 % 256 = (q : Int) := by omega
            have hst : unS (rest, 4, out) S6 = (y, 2, if out.length ≤ 200 then out ++ [UInt8.ofNat q] else out) := by
              unfold unS; dsimp only; rw [if_neg (by omega), hV, show 4 - 2 = 2 from rfl, show (2 : Nat) ^ 2 = 4 from rfl, hq, hy]
            rw [hst] at hgo
            have hym : y < 4 := by omega
            have hrI : (rest : Int) < 16 := by omega
            by_cases h200 : N ≤ 200
            · have h2I : (N : Int) ≤ 200 := by omega
              rw [if_pos (by omega)] at hgo
              have H2 := Lib.hid (And.intro hgo (And.intro hqu (And.intro hym (And.intro hol hown2))))
              clear hgo hqu hym hol hown2 hV hVm hq hy hst hrest hS12
              go_wp2_with (at_builtin; refine wpList_append_bs _ rfl (.tmp 47) (.tmp 52) 24 rfl (B + 1) 5 i0 Tryd.underlying24 hi0 hz0 hz1 hz2 (.slice A' N c') N _ rfl (H2.out.2.2.2.2.alloc _) ((wr.iterAt B t (k + 1)).heap.size + 1) (some ⟨(wr.iterAt B t (k + 1)).heap.size, 0, none⟩) 1 1 [UInt8.ofNat q] rfl (Bs.lit_ (wr.iterAt B t (k + 1)) 5 _ _ [UInt8.ofNat q] (by show [Value.int .u8 (q : Int)] = [Value.int .u8 ((UInt8.ofNat q).toNat : Int)]; rw [H2.out.2.1])) (by omega) (by rw [alloc_size, Lib.iterAt_size]; omega) ?_; intro v2 w2 hown3 hgrow3; obtain ⟨A3, c3, rfl, hc3⟩ := own_slice (l := out ++ [UInt8.ofNat q]) (by rw [U8_append]; exact hown3); have HO := Lib.hid (And.intro hown3 (And.intro hgrow3 hc3)); clear hown3 hgrow3 hc3)
              go_roundw
              case rel =>
                refine ⟨k + 1, y, 2, N + 1, c3, A3, rfl, by first | rfl | go_num, by first | rfl | go_num, by omega, by omega, by have := H2.out.2.2.1; simpa using this, by omega, (show Aside _ from ⟨?_, ?_, out ++ [UInt8.ofNat q], H2.out.1, by rw [List.length_append, H2.out.2.2.2.1]; rfl, by rw [U8_append]; exact HO.out.1⟩)⟩
                · exact (HO.out.2.1.block B (by rw [alloc_size, Lib.iterAt_size]; omega) (fun e => by have := (H2.out.2.2.2.2.lt B e.symm).1; omega)).trans ((Lib.alloc_old _ _ B (by rw [Lib.iterAt_size]; omega)).trans HI.out.1)
                · exact (HI.out.2.alloc HI.out.2.size _).grown HO.out.2.1 (by rw [alloc_size]; have := HI.out.2.size; omega) (fun k e => by have := (H2.out.2.2.2.2.lt k e).1; omega)
              case measure =>
                have h1 : w2.iterPos B = k + 1 := by unfold World.iterPos; rw [(HO.out.2.1.block B (by rw [alloc_size, Lib.iterAt_size]; omega) (fun e => by have := (H2.out.2.2.2.2.lt B e.symm).1; omega)).trans ((Lib.alloc_old _ _ B (by rw [Lib.iterAt_size]; omega)).trans HI.out.1)]
                rw [h1, HP.out.2]; omega
            · have h2I : ¬ (N : Int) ≤ 200 := by omega
              rw [if_neg (by omega)] at hgo
              have H2 := Lib.hid (And.intro hgo (And.intro hym (And.intro hol hown2)))
              clear hgo hqu hym hol hown2 hV hVm hq hy hst hrest hS12
              go_wp2
              go_roundw
              case rel => exact ⟨k + 1, y, 2, N, c', A', rfl, by first | rfl | go_num, by first | rfl | go_num, by omega, by omega, by have := H2.out.2.1; simpa using this, hN, (show Aside _ from ⟨HI.out.1, HI.out.2, out, H2.out.1, H2.out.2.2.1, H2.out.2.2.2⟩)⟩
              case measure => rw [HP.out.1, HP.out.2]; omega
          · have hS12 : rest < 64 := by have := hrest; simpa using this
            obtain ⟨V, hV⟩ : ∃ V, rest * 64 + S6 = V := ⟨_, rfl⟩
            have hVm : V < 4096 := by omega
            obtain ⟨q, hq⟩ : ∃ q, V / 16 = q := ⟨_, rfl⟩
            obtain ⟨y, hy⟩ : ∃ y, V % 16 = y := ⟨_, rfl⟩
            have hqu : ((UInt8.ofNat q).toNat : Int) = (q : Int) := by rw [UInt8.toNat_ofNat']; omega
            have hor : bits .or .i64 ((rest : Int) * 64) (S6 : Int) = (V : Int) := by
              have h := or_lowB 6 rest S6 (by show S6 < 64; omega) (by show 64 * rest + S6 < _; omega)
              rw [show ((2 ^ 6 * rest : Nat) : Int) = (rest : Int) * 64 by show ((64 * rest : Nat) : Int) = _; omega] at h
              rw [h]; show ((64 * rest + S6 : Nat) : Int) = _; omega
            have hand : bits .and .i64 (V : Int) 15 = (y : Int) := by rw [and15b]; omega
            have hqI : (V : Int) / 16 % 256 = (q : Int) := by omega
            have hst : unS (rest, 6, out) S6 = (y, 4, if out.length ≤ 200 then out ++ [UInt8.ofNat q] else out) := by
              unfold unS; dsimp only; rw [if_neg (by omega), hV, show 6 - 2 = 4 from rfl, show (2 : Nat) ^ 4 = 16 from rfl, hq, hy]
            rw [hst] at hgo
            have hym : y < 16 := by omega
            have hrI : (rest : Int) < 64 := by omega
            by_cases h200 : N ≤ 200
            · have h2I : (N : Int) ≤ 200 := by omega
              rw [if_pos (by omega)] at hgo
              have H2 := Lib.hid (And.intro hgo (And.intro hqu (And.intro hym (And.intro hol hown2))))
              clear hgo hqu hym hol hown2 hV hVm hq hy hst hrest hS12
              go_wp2_with (at_builtin; refine wpList_append_bs _ rfl (.tmp 47) (.tmp 52) 24 rfl (B + 1) 5 i0 Tryd.underlying24 hi0 hz0 hz1 hz2 (.slice A' N c') N _ rfl (H2.out.2.2.2.2.alloc _) ((wr.iterAt B t (k + 1)).heap.size + 1) (some ⟨(wr.iterAt B t (k + 1)).heap.size, 0, none⟩) 1 1 [UInt8.ofNat q] rfl (Bs.lit_ (wr.iterAt B t (k + 1)) 5 _ _ [UInt8.ofNat q] (by show [Value.int .u8 (q : Int)] = [Value.int .u8 ((UInt8.ofNat q).toNat : Int)]; rw [H2.out.2.1])) (by omega) (by rw [alloc_size, Lib.iterAt_size]; omega) ?_; intro v2 w2 hown3 hgrow3; obtain ⟨A3, c3, rfl, hc3⟩ := own_slice (l := out ++ [UInt8.ofNat q]) (by rw [U8_append]; exact hown3); have HO := Lib.hid (And.intro hown3 (And.intro hgrow3 hc3)); clear hown3 hgrow3 hc3)
              go_roundw
              case rel =>
                refine ⟨k + 1, y, 4, N + 1, c3, A3, rfl, by first | rfl | go_num, by first | rfl | go_num, by omega, by omega, by have := H2.out.2.2.1; simpa using this, by omega, (show Aside _ from ⟨?_, ?_, out ++ [UInt8.ofNat q], H2.out.1, by rw [List.length_append, H2.out.2.2.2.1]; rfl, by rw [U8_append]; exact HO.out.1⟩)⟩
                · exact (HO.out.2.1.block B (by rw [alloc_size, Lib.iterAt_size]; omega) (fun e => by have := (H2.out.2.2.2.2.lt B e.symm).1; omega)).trans ((Lib.alloc_old _ _ B (by rw [Lib.iterAt_size]; omega)).trans HI.out.1)
                · exact (HI.out.2.alloc HI.out.2.size _).grown HO.out.2.1 (by rw [alloc_size]; have := HI.out.2.size; omega) (fun k e => by have := (H2.out.2.2.2.2.lt k e).1; omega)
              case measure =>
                have h1 : w2.iterPos B = k + 1 := by unfold World.iterPos; rw [(HO.out.2.1.block B (by rw [alloc_size, Lib.iterAt_size]; omega) (fun e => by have := (H2.out.2.2.2.2.lt B e.symm).1; omega)).trans ((Lib.alloc_old _ _ B (by rw [Lib.iterAt_size]; omega)).trans HI.out.1)]
                rw [h1, HP.out.2]; omega
            · have h2I : ¬ (N : Int) ≤ 200 := by omega
              rw [if_neg (by omega)] at hgo
              have H2 := Lib.hid (And.intro hgo (And.intro hym (And.intro hol hown2)))
              clear hgo hqu hym hol hown2 hV hVm hq hy hst hrest hS12
              go_wp2
              go_roundw
              case rel => exact ⟨k + 1, y, 4, N, c', A', rfl, by first | rfl | go_num, by first | rfl | go_num, by omega, by omega, by have := H2.out.2.1; simpa using this, hN, (show Aside _ from ⟨HI.out.1, HI.out.2, out, H2.out.1, H2.out.2.2.1, H2.out.2.2.2⟩)⟩
              case measure => rw [HP.out.1, HP.out.2]; omega
      · have hnx := fun ty => Lib.run_next_any_at (P := Tryd.prog) wr B t k ty hI hlt
        have hix := fun d => idx_any t k hlt (by rw [hu2]; omega) (wr.iterAt B t (k + d))
        obtain ⟨D, hD⟩ : ∃ D, Utf8.decode t k = D := ⟨_, rfl⟩
        rw [hD] at hnx hix
        have hb' := Lib.below_iterAt (k := B) hb (by omega) t (k + D.2)
        have hgo : (if sixI u.toNat < 0 then none else unF (t.data.toList.drop (k + 1)) (unS (rest, bits, out) (sixI u.toNat).toNat)) = G := hgo
        rw [if_pos (by have := u.toNat_lt; unfold sixI; (repeat' split) <;> omega)] at hgo
        have hE : unE G = ([], 20) := by rw [← hgo]; rfl
        have HE := Lib.hid hE
        have HI := Lib.hid (And.intro hb' (hix D.2))
        clear hgo hE hol hown hrest hbits hu hu2 hkl hix hb hb' hI hD hua
        go_wp2_with fail
        refine HI.out.2.mono ?_
        rintro e w2 ⟨rfl, b2⟩
        have H2 := Lib.hid (HI.out.1.trans (b2.mono HI.out.1.size))
        clear b2
        go_wp2
        go_ret2
        have hr2 := HA.out.1
        rw [HE.out] at hr2
        subst hr2
        exact ⟨none, 0, 0, rfl, Nat.le_refl _, rfl, Bs.empty _ _ _, H2.out, fun ad h => by cases h⟩
    · obtain rfl : k = t.size := by omega
      have hnx := fun ty => Lib.run_next_end_at (P := Tryd.prog) wr B t t.size ty hI (by omega)
      have hgo2 : some (rest, bits, out) = G := by
        rw [← hgo, List.drop_of_length_le (by rw [HA.out.2.2.1]; exact Nat.le_refl _)]; rfl
      have hr2 := HA.out.1
      rw [← hgo2] at hr2
      have hr3 : (if rest ≠ 0 then ([], 20) else if 200 < out.length then ([], 2) else (out, 0)) = RES := hr2
      rw [hol] at hr3
      have HZ := Lib.hid (And.intro hown (And.intro hb hol))
      clear hgo hgo2 hr2 hown hb hol hI hbits hrest
      by_cases hr0 : rest = 0
      · subst hr0
        rw [if_neg (fun h => h rfl)] at hr3
        by_cases h200 : 200 < N
        · have h2I : (200 : Int) < N := by omega
          rw [if_pos h200] at hr3
          subst hr3
          clear h200
          go_wp2
          go_ret2
          exact ⟨none, 0, 0, rfl, Nat.le_refl _, rfl, Bs.empty _ _ _, HZ.out.2.1, fun ad h => by cases h⟩
        · have h2I : ¬ (200 : Int) < N := by omega
          rw [if_neg h200] at hr3
          subst hr3
          clear h200
          go_wp2
          go_ret2
          obtain ⟨A2, c2, e2, hc2, hbs2⟩ := Bs.of_own (l := out) (n := N) HZ.out.1
          injection e2 with g1 g2 g3
          subst g1 g3
          exact ⟨A', N, c', rfl, hc2, HZ.out.2.2.symm, hbs2, HZ.out.2.1, fun ad e => by have := (HZ.out.1.lt ad.block (by subst e; rfl)).1; omega⟩
      · have hrI : ¬ (rest : Int) = 0 := by omega
        have hr1 : ((rest : Int) != 0) = true := bne_iff_ne.2 hrI
        have hr2 : ((rest : Int) == 0) = false := beq_eq_false_iff_ne.2 hrI
        rw [if_pos hr0] at hr3
        subst hr3
        clear hr0
        go_wp2
        go_ret2
        exact ⟨none, 0, 0, rfl, Nat.le_refl _, rfl, Bs.empty _ _ _, HZ.out.2.1, fun ad h => by cases h⟩
end Go.Proofs.YtbclgalocipmfaaDoor
