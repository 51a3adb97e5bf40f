/-
  A sign of more than a byte is none of the 64.
-/
import Derived.Test.YthnbcilpallhjaaDoorPlB64
import Derived.Test.YthnbcilpallhjaaDoorPlRunes
import Derived.Test.YthnbcilpallhjaaDoorShelfB
import Derived.Lib.Bytealg
import Derived.Laws.Runes
import Derived.Laws.RangeAny
import Derived.Lib.QuoteLoop
import Derived.Lib.DecodeN
import Derived.Lib.TrimUEq
import Derived.Lib.OthersKept
import Derived.WalkMore
import Derived.Deep.QuietTactic
import Derived.BigQuiet
import Derived.Deep.LoopGhost
namespace Go.Proofs.YthnbcilpallhjaaDoor
open Go.RowKit
set_option maxRecDepth 100000
set_option maxRecDepth 100000
set_option linter.unusedVariables false
theorem vrune_f (r : Int) (hr0 : 128 ≤ r) (hr1 : r ≤ 1114111) (hv : r < 55296 ∨ 57343 < r) (w : World) :
    Calls Tryd.prog 98 #[.int .i32 r] w fun e w' => e = .returned (.bool true) ∧ w' = w := by
  have h0 : (0 : Int) ≤ r := by omega
  rcases hv with hv | hv
  · go_enter Tryd.func98, Tryd.ntmps98
    go_wp2
    go_ret
    exact ⟨rfl, rfl⟩
  · have h1 : ¬ r < 55296 := by omega
    go_enter Tryd.func98, Tryd.ntmps98
    go_wp2
    go_ret
    exact ⟨rfl, rfl⟩
theorem signs_lo (k : Nat) (hk : k = 1 ∨ k = 2 ∨ k = 3) : ∃ h : k < signsB.size, (signsB[k]'h).toNat < 128 := by
  rcases hk with rfl | rfl | rfl
  · exact ⟨by decide, by decide +kernel⟩
  · exact ⟨by decide, by decide +kernel⟩
  · exact ⟨by decide, by decide +kernel⟩
theorem signs_ascI : ∀ b ∈ signsB.data.toList, b.toNat < 128 := by decide +kernel
set_option maxHeartbeats 16000000 in
theorem idx_high (r : Int) (hr0 : 128 ≤ r) (hr1 : r ≤ 1114111) (hne : r ≠ 65533) (hv : r < 55296 ∨ 57343 < r) (w : World) :
    Calls Tryd.prog 69 #[.string signsB, .int .i32 r] w fun e w' => e = .returned (.int .i64 (-1)) ∧ Below w.heap.size w w' := by
  have h1 : ¬ (r < 128) := by omega
  have h2 : ¬ (r = 65533) := hne
  obtain ⟨hE2, hE4, hEl⟩ := encode_facts r (by rw [validRune_eq]; exact decide_eq_true (by omega)) hr0
  have HV := Lib.hid (vrune_f r hr0 hr1 hv)
  obtain ⟨E, hE⟩ : ∃ E, Utf8.encode r = E := ⟨_, rfl⟩
  rw [hE] at hE2 hE4 hEl
  obtain ⟨k, hk⟩ : ∃ k, E.size = k + 1 := ⟨E.size - 1, by omega⟩
  have hk3 : k = 1 ∨ k = 2 ∨ k = 3 := by omega
  have hkE : k < E.size := by omega
  obtain ⟨c, hc⟩ : ∃ c, E[k]'hkE = c := ⟨_, rfl⟩
  have hc128 : 128 ≤ c.toNat := by
    have := hEl (by omega)
    rw [← hc]
    have e : E.size - 1 = k := by omega
    simp only [e] at this
    exact this
  obtain ⟨hks, hs⟩ := signs_lo k hk3
  obtain ⟨d, hd⟩ : ∃ d, signsB[k]'hks = d := ⟨_, rfl⟩
  rw [hd] at hs
  have hcd : ((d.toNat : Int) == (c.toNat : Int)) = false := beq_eq_false_iff_ne.2 (by omega)
  have hfi := fun a e => firstIdx_ascii signsB a e c signs_ascI hc128
  have hix : ∀ (a e : Nat) (W : World), Calls Tryd.prog 97 #[.string (signsB.extract a e), .int .u8 (c.toNat : Int)] W fun e w' => e = .returned (.int .i64 (-1)) ∧ w' = W := fun a e W => by
    have h : Calls Tryd.prog 97 #[.string (signsB.extract a e), .int .u8 (c.toNat : Int)] W _ := Any.strings_IndexByte { Tryd.lays152 with } (signsB.extract a e) (c.toNat : Int) W
    refine h.mono ?_
    rintro x y ⟨rfl, rfl⟩
    refine ⟨?_, rfl⟩
    rw [show (c.toNat : Int).toNat.toUInt8 = c by simp, ← Lib.firstIdx_eq, hfi a e]
  have hEk : ∀ W, (Instr.index 9 (.string E) (.int .i64 (k : Int))).run Tryd.prog W = .ok (.int .u8 (c.toNat : Int)) W := fun W => by
    rw [run_index_string W 9 E .i64 (k : Int) (by kernel_rfl), dif_pos ⟨by omega, by omega⟩]
    simp only [Int.toNat_natCast, hc]
  have HF := Lib.hid hix
  have hsz : ((E.size : Int) - 1) = k := by omega
  have hsz2 : (E.size : Int) = k + 1 := by omega
  have hkI : (k : Int) < 64 := by omega
  have hk0 : (0 : Int) ≤ k := by omega
  have hS : (signsB.size : Int) = 64 := rfl
  clear hix hEl hE2 hE4 hfi hv hr0 hr1 hne hk3
  go_enter Tryd.func69, Tryd.ntmps69
  go_wp2_with fail
  refine (HV.out w).mono ?_
  rintro e w1 ⟨rfl, rfl⟩
  try dsimp only
  go_wp2
  go_step3
  go_wp2
  obtain ⟨B, hB⟩ : ∃ B, w1.heap.size = B := ⟨_, rfl⟩
  go_loopw [9, 10] (fun v9 v10 wr => v9 = .int .i64 (k : Int) ∧ v10 = .int .i64 0 ∧ Aside (Below w1.heap.size w1 wr)) (fun _ _ _ => 0)
  case atStart => exact ⟨rfl, rfl, (show Aside _ from Below.refl _ _)⟩
  case round =>
    obtain ⟨rfl, rfl, hrel⟩ := hrel
    have HR := Lib.hid hrel.out
    clear hrel
    go_wp2_with fail
    have hk1 : (k : Int) < (E.size : Int) := by omega
    have hk2 : (k : Int) < (signsB.size : Int) := by omega
    have hcn : ((d.toNat : Int) != (c.toNat : Int)) = true := by rw [bne, hcd]; rfl
    go_step3
    go_wp2_with fail
    go_quiet (fail)
    go_wp2_with fail
    have hk5 : (k : Int) + 1 ≤ 64 := by omega
    have hk6 : (0 : Int) ≤ (k : Int) + 1 := by omega
    have hk7 : (k : Int) + 1 ≤ (signsB.size : Int) := by omega
    have hwr : IntKind.i64.wrap ((k : Int) + 1) = (k : Int) + 1 := IntWalk.i64_in _ (by omega)
    go_quiet ((exact (HF.out _ _ _).mono fun _ _ h => ⟨h.1, _, h.2⟩))
    go_wp2_with fail
    rw [Exit.noGoto_ret]
    simp (config := {zetaDelta := true}) only [Exit.inBlock, Exit.noGoto, Exit.then]
    go_ret
    exact ⟨rfl, HR.out.trans (drewN_below _ _ _)⟩
set_option maxHeartbeats 16000000 in
theorem idx_err (w : World) :
    Calls Tryd.prog 69 #[.string signsB, .int .i32 65533] w fun e w' => e = .returned (.int .i64 (-1)) ∧ Below w.heap.size w w' := by
  have hS : (signsB.size : Int) = 64 := rfl
  go_enter Tryd.func69, Tryd.ntmps69
  go_wp2_with fail
  have hI0 : (w.iter signsB 0).heap[w.heap.size]? = some (.stringIter signsB 0) := World.iter_heap _ signsB 0
  have hb0 : Below w.heap.size w (w.iter signsB 0) := (Below.refl _ w).alloc (Nat.le_refl _) _
  obtain ⟨B, hB⟩ : ∃ B, w.heap.size = B := ⟨_, rfl⟩
  have H0 := Lib.hid (And.intro hI0 (And.intro hb0 hB))
  rw [hB]
  clear hI0 hb0
  go_loopw [5, 6] (fun v5 v6 wr => ∃ (k : Nat), k ≤ 64 ∧ Aside (wr.heap[B]? = some (.stringIter signsB k) ∧ Below w.heap.size w wr)) (fun _ _ wr => 64 - wr.iterPos B)
  case atStart => exact ⟨0, by omega, (show Aside _ from ⟨by have := H0.out.1; rw [H0.out.2.2] at this; exact this, H0.out.2.1⟩)⟩
  case round =>
    obtain ⟨k, hk, hrel⟩ := hrel
    obtain ⟨hI, hb⟩ := hrel.out
    have hBz : w.heap.size = B := H0.out.2.2
    clear hrel
    by_cases hlt : k < signsB.size
    · have hl : k < 64 := hlt
      obtain ⟨u, hu⟩ : ∃ u, signsB[k]'hlt = u := ⟨_, rfl⟩
      have hua : u.toNat < 128 := signs_ascI u (by rw [← hu]; exact List.getElem_mem (l := signsB.data.toList) (n := k) (by rw [Array.length_toList]; exact hlt))
      have hnx := fun ty => Lib.run_next_ascii_at (P := Tryd.prog) wr B signsB k ty hI hlt (by rw [hu]; exact hua)
      rw [hu] at hnx
      have hI' := Lib.iterAt_heap wr B signsB k (k + 1) hI
      have hb' := Lib.below_iterAt (k := B) hb (by omega) signsB (k + 1)
      have hiz : (wr.iterAt B signsB (k + 1)).iterPos B = k + 1 := by unfold World.iterPos; rw [hI']
      have hip : wr.iterPos B = k := by unfold World.iterPos; rw [hI]
      have hne : ((u.toNat : Int) == 65533) = false := beq_eq_false_iff_ne.2 (by omega)
      have HI := Lib.hid (And.intro hI' hb')
      have HP := Lib.hid (And.intro hiz hip)
      clear hI hb hI' hb' hiz hip hu
      go_wp2
      go_roundw
      case rel => exact ⟨k + 1, by omega, (show Aside _ from ⟨HI.out.1, HI.out.2⟩)⟩
      case measure => rw [HP.out.1, HP.out.2]; omega
    · obtain rfl : k = signsB.size := by have : signsB.size = 64 := rfl; omega
      have hnx := fun ty => Lib.run_next_end_at (P := Tryd.prog) wr B signsB signsB.size ty hI (by omega)
      have HI := Lib.hid (And.intro hI hb)
      clear hI hb
      go_wp2
      go_ret
      exact ⟨rfl, HI.out.2⟩
/-- A sign that begins with a byte of 128 or more is none of the 64. -/
theorem idx_any (s : ByteArray) (pos : Nat) (h : pos < s.size) (ha : 128 ≤ (s[pos]'h).toNat) (w : World) :
    Calls Tryd.prog 69 #[.string signsB, .int .i32 ((Utf8.decode s pos).1 : Int)] w fun e w' => e = .returned (.int .i64 (-1)) ∧ Below w.heap.size w w' := by
  have h0 := (decode_high s pos h ha).1
  have hv := Lib.decodeN_valid (s.size - pos) (s.get! pos).toNat (s.get! (pos + 1)).toNat (s.get! (pos + 2)).toNat (s.get! (pos + 3)).toNat (UInt8.toNat_lt _)
  rw [← Lib.decode_at] at hv
  obtain ⟨r, hr⟩ : ∃ r, (Utf8.decode s pos).1 = r := ⟨_, rfl⟩
  rw [hr] at h0 hv ⊢
  by_cases he : r = 65533
  · subst he
    exact idx_err w
  · exact idx_high (r : Int) (by omega) (by omega) (by omega) (by omega) w
end Go.Proofs.YthnbcilpallhjaaDoor
