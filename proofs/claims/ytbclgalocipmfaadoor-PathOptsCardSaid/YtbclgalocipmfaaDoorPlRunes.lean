/-
  The program's count of signs.
-/
import Derived.Test.YtbclgalocipmfaaDoorPlValid
import Derived.Test.YtbclgalocipmfaaDoorValid
import Derived.Lib.OthersKept
import Derived.Lib.TrimUEq
import Derived.Lib.MapLaws
import Derived.Laws.RangeAny
namespace Go.Proofs.YtbclgalocipmfaaDoor
open Go.RowKit
set_option maxRecDepth 100000
set_option maxRecDepth 100000
set_option linter.unusedVariables false
/-- The tables of unicode/utf8 as they are laid. -/
def Tabs (w : World) : Prop := Lib.Utf8Tabs (Tryd.laysValid_ren.g 3) (Tryd.laysValid_ren.g 4) w
theorem Tabs.below {B : Nat} {a w : World} (h : Tabs a) (hb : Below B a w) (hB : 2 ≤ B) : Tabs w := by
  refine ⟨fun c hc => ?_, fun i hi => ⟨?_, ?_⟩⟩
  · rw [hb.cell (p := ⟨Tryd.laysValid_ren.g 3, c, none⟩) (Nat.lt_of_lt_of_le (show (0 : Nat) < 2 by decide) hB)]; exact h.1 c hc
  · rw [hb.cell (p := ⟨Tryd.laysValid_ren.g 4, 2 * i, none⟩) (Nat.lt_of_lt_of_le (show (1 : Nat) < 2 by decide) hB)]; exact (h.2 i hi).1
  · rw [hb.cell (p := ⟨Tryd.laysValid_ren.g 4, 2 * i + 1, none⟩) (Nat.lt_of_lt_of_le (show (1 : Nat) < 2 by decide) hB)]; exact (h.2 i hi).2
theorem Tabs.size {w : World} (h : Tabs w) : 2 ≤ w.heap.size := by
  have := World.block_lt_of_cell? w ⟨Tryd.laysValid_ren.g 4, 0, none⟩ (h.2 0 (by decide)).1
  exact this
theorem rgo_any : ∀ (f g : Nat) (l : List UInt8), l.length ≤ f → l.length ≤ g → rgo f l = rgo g l
  | 0, g, l, hf, _ => by
    obtain rfl : l = [] := List.eq_nil_of_length_eq_zero (by omega)
    rw [rgo_nil, rgo_nil]
  | f + 1, 0, l, _, hg => by
    obtain rfl : l = [] := List.eq_nil_of_length_eq_zero (by omega)
    rw [rgo_nil, rgo_nil]
  | f + 1, g + 1, l, hf, hg => by
    by_cases h : l = []
    · subst h; rw [rgo_nil, rgo_nil]
    · have hp := decodeL_pos h
      rw [rgo_succ f h, rgo_succ g h, rgo_any f g (l.drop (Lib.decodeL l).2) (by rw [List.length_drop]; omega) (by rw [List.length_drop]; omega)]
def rangeQ (l : List UInt8) : Option Nat := rgo l.length l
theorem range_step {l : List UInt8} (h : l ≠ []) : rangeQ l = if (Lib.decodeL l).1 < 32 ∨ (Lib.decodeL l).1 = 127 then none else (rangeQ (l.drop (Lib.decodeL l).2)).map (· + 1) := by
  have hl := List.length_pos_iff.2 h
  obtain ⟨f, hf⟩ : ∃ f, l.length = f + 1 := ⟨l.length - 1, by omega⟩
  have hp := decodeL_pos h
  have e : rangeQ l = rgo (f + 1) l := by unfold rangeQ; rw [hf]
  rw [e, rgo_succ f h]
  have e2 : rgo f (l.drop (Lib.decodeL l).2) = rangeQ (l.drop (Lib.decodeL l).2) := rgo_any _ _ _ (by rw [List.length_drop]; omega) (Nat.le_refl _)
  rw [e2]
theorem range_at (s : ByteArray) (k : Nat) (h : k < s.size) : rangeQ (s.data.toList.drop k) = (if (Utf8.decode s k).1 < 32 ∨ (Utf8.decode s k).1 = 127 then none else (rangeQ (s.data.toList.drop (k + (Utf8.decode s k).2))).map (· + 1)) ∧ k + (Utf8.decode s k).2 ≤ s.size ∧ 1 ≤ (Utf8.decode s k).2 := by
  have hl : s.data.toList.length = s.size := Array.length_toList
  have hne : s.data.toList.drop k ≠ [] := by
    intro e
    have := congrArg List.length e
    rw [List.length_drop] at this
    have : s.data.toList.length - k = 0 := this
    omega
  have hle := Lib.decodeL_le _ hne
  have hs := range_step hne
  have hp := decodeL_pos hne
  rw [Lib.decodeL_drop, List.length_drop] at hle
  rw [Lib.decodeL_drop, List.drop_drop] at hs
  rw [Lib.decodeL_drop] at hp
  exact ⟨hs, by omega, hp⟩
set_option maxHeartbeats 8000000 in
theorem runes_f (s : ByteArray) (w : World) (hs : s.size ≤ 1000000) (hT : Tabs w) : Calls Tryd.prog 35 #[.string s] w fun e w' => e = runesEnd (runesQ s.data.toList) ∧ Below w.heap.size w w' := by
  have cV : Calls Tryd.prog 64 #[.string s] w _ := Any.utf8_ValidString Tryd.laysValid s w (by omega) hT
  have hrv := runes_valid s.data.toList
  obtain ⟨V, hV⟩ : ∃ V, Lib.validD s.data.toList = V := ⟨_, rfl⟩
  rw [hV] at cV hrv
  have hrv2 : runesQ s.data.toList = if V then rangeQ (s.data.toList.drop 0) else none := hrv
  obtain ⟨R, hR⟩ : ∃ R, runesQ s.data.toList = R := ⟨_, rfl⟩
  rw [hR] at hrv2 ⊢
  clear hrv hR hV hT
  cases V with
  | false =>
    obtain rfl : none = R := hrv2.symm
    clear hrv2
    go_enter Tryd.func35, Tryd.ntmps35
    go_wp2_with (go_at_call 64; refine cV.mono ?_; rintro e w1 ⟨rfl, hb⟩)
    go_ret2
    exact ⟨rfl, hb⟩
  | true =>
    have hq : rangeQ (s.data.toList.drop 0) = R := hrv2.symm
    have HQ := Lib.hid hq
    clear hrv2 hq
    go_enter Tryd.func35, Tryd.ntmps35
    go_wp2_with (go_at_call 64; refine cV.mono ?_; rintro e w1 ⟨rfl, hb⟩)
    clear cV
    have hsz := hb.size
    have hI0 : (w1.iter s 0).heap[w1.heap.size]? = some (.stringIter s 0) := World.iter_heap _ s 0
    have hb0 : Below w.heap.size w (w1.iter s 0) := hb.alloc hsz _
    obtain ⟨B, hB⟩ : ∃ B, w1.heap.size = B := ⟨_, rfl⟩
    rw [hB] at hI0 hsz
    go_loopw [4] (fun v4 wr => ∃ k n : Nat, k ≤ s.size ∧ n ≤ k ∧ v4 = .int .i64 (n : Int) ∧ wr.heap[B]? = some (.stringIter s k) ∧ Below w.heap.size w wr ∧ Aside ((rangeQ (s.data.toList.drop k)).map (· + n) = R)) (fun _ wr => s.size - wr.iterPos B)
    case atStart =>
      refine ⟨0, 0, by omega, by omega, rfl, hI0, hb0, ?_⟩
      rw [HQ.out]
      cases R <;> rfl
    case round =>
      clear hI0 hb0 hb
      obtain ⟨k, n, hk, hn, rfl, hI, hb, hq⟩ := hrel
      by_cases hlt : k < s.size
      · obtain ⟨hst, hle, hp⟩ := range_at s k hlt
        have hnx := fun ty => Lib.run_next_any_at (P := Tryd.prog) wr B s k ty hI hlt
        have hI' := Lib.iterAt_heap wr B s k (k + (Utf8.decode s k).2) hI
        have hb' := Lib.below_iterAt (k := B) hb hsz s (k + (Utf8.decode s k).2)
        have hq2 := hq.out
        rw [hst] at hq2
        obtain ⟨c, hc⟩ : ∃ c, (Utf8.decode s k).1 = c := ⟨_, rfl⟩
        obtain ⟨d, hd⟩ : ∃ d, (Utf8.decode s k).2 = d := ⟨_, rfl⟩
        rw [hc, hd] at hnx hq2
        rw [hd] at hI' hb' hle hp
        have HI := Lib.hid hI'
        have HQ2 := Lib.hid hq2
        clear hst hc hd hq hq2 hI'
        by_cases c1 : c < 32
        · have c1I : (c : Int) < 32 := by omega
          have hn : R = none := by rw [← HQ2.out, if_pos (.inl c1)]; rfl
          subst hn
          go_wp2
          go_ret2
          exact ⟨rfl, hb'⟩
        have c1I : ¬ (c : Int) < 32 := by omega
        by_cases c2 : c = 127
        · have hn : R = none := by rw [← HQ2.out, if_pos (.inr c2)]; rfl
          subst hn
          obtain ⟨C, hC⟩ : ∃ C : Int, (c : Int) = C := ⟨_, rfl⟩
          have hC7 : C = 127 := by omega
          rw [hC] at hnx c1I
          have c2I : (C == 127) = true := beq_iff_eq.2 hC7
          clear hC hC7
          go_wp2
          go_ret2
          exact ⟨rfl, hb'⟩
        have c2I : ¬ (c : Int) = 127 := by omega
        have c2B : ((c : Int) == 127) = false := beq_eq_false_iff_ne.2 c2I
        go_wp2
        go_roundw
        case rel =>
          refine ⟨k + d, n + 1, hle, by omega, by go_num, HI.out, hb', (show Aside _ from ?_)⟩
          rw [← HQ2.out, if_neg (by omega), Option.map_map]
          congr 1
          funext x
          show x + (n + 1) = x + 1 + n
          omega
        case measure =>
          simp only [World.iterPos, HI.out, hI]
          omega
      · obtain rfl : k = s.size := by omega
        have hnx := fun ty => Lib.run_next_end_at (P := Tryd.prog) wr B s s.size ty hI (by omega)
        have hnil : s.data.toList.drop s.size = [] := List.drop_of_length_le (by rw [Array.length_toList]; exact Nat.le_refl _)
        have hn : R = some n := by rw [← hq.out, hnil]; show some (0 + n) = _; rw [Nat.zero_add]
        subst hn
        clear hq hnil
        go_wp2
        go_ret2
        exact ⟨rfl, hb⟩
end Go.Proofs.YtbclgalocipmfaaDoor
