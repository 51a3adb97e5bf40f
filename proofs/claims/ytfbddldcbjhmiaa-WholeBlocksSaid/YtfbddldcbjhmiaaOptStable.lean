/-
  Options of a row sorted, few of them; a number as four bits and bytes.
-/
import Derived.Test.YtfbddldcbjhmiaaOptIns
namespace Go.Proofs.Ytfbddldcbjhmiaa
open Go.RowKit
set_option maxRecDepth 100000
set_option linter.unusedVariables false
theorem insort_no (v : Value) (a : Nat) (w : World) (ha : (a : Int) ≤ 1048576) :
    Calls Try.prog 90 #[v, .int .i64 a, .int .i64 a, .func (.func 71) #[] #[]] w fun e w' => e = .returned (.tuple #[]) ∧ w' = w := by
  go_enter Try.func90, Try.ntmps90
  go_wp2
  go_loopw [8, 9] (fun i _ wr => i = .int .i64 ((a : Int) + 1) ∧ wr = w) (fun _ _ _ => 0)
  case atStart => exact ⟨rfl, rfl⟩
  case round =>
    obtain ⟨rfl, rfl⟩ := hrel
    go_wp2
    refine bodyPost_end (results_none rfl _ _ _) rfl ?_
    exact ⟨rfl, rfl⟩
theorem sorted_all {X : List Sv} {n : Nat} (h : X.length = n) : sorted X 0 n = sortS X := by
  unfold sorted
  rw [List.take_zero, List.drop_zero, Nat.sub_zero, List.take_of_length_le (by omega), List.drop_eq_nil_of_le (by omega)]
  simp
set_option maxHeartbeats 1600000 in
theorem stable_f (v : Value) (n : Nat) (X : List Sv) (w : World) (base : Nat) (hrow : w.ownsRow base 36 2 v n (svs X)) (hn : n ≤ 20) :
    Calls Try.prog 86 #[v, .int .i64 n, .func (.func 71) #[] #[]] w fun e w' => e = .returned (.tuple #[]) ∧ w'.ownsRow base 36 2 v n (svs (sortS X)) ∧ w.grownBy w' v.ownBlock := by
  have hXl := row_len hrow
  have hnI : (n : Int) ≤ 20 := by omega
  obtain ⟨A, c, rfl, hnc, _⟩ := Sh.of_own hrow
  by_cases h0 : n = 0
  · subst h0
    have hX0 : X = [] := List.eq_nil_of_length_eq_zero hXl
    have HR := Lib.hid (And.intro hrow hX0)
    have hno := insort_no (.slice A 0 c) 0 w (by omega)
    clear hrow hX0 hXl
    go_enter Try.func86, Try.ntmps86
    go_wp2
    go_loopw [7, 8] (fun a b wr => a = .int .i64 0 ∧ b = .int .i64 20 ∧ wr = w) (fun _ _ _ => 0)
    case atStart => exact ⟨rfl, rfl, rfl⟩
    case round =>
      obtain ⟨rfl, rfl, rfl⟩ := hrel
      go_wp2_with (go_at_call 90; refine hno.mono ?_; rintro e w1 ⟨rfl, hw⟩; obtain rfl := hw.symm)
      go_loopw [6, 7, 8, 9] (fun s _ _ _ wr' => s = .int .i64 20 ∧ wr' = wr) (fun _ _ _ _ _ => 0)
      case atStart => exact ⟨rfl, rfl⟩
      case round =>
        obtain ⟨rfl, rfl⟩ := hrel
        go_wp2
        refine bodyPost_end (results_none rfl _ _ _) rfl ?_
        refine ⟨rfl, ?_, World.grownBy.refl _ _⟩
        have := HR.out.1
        rw [HR.out.2] at this ⊢
        exact this
  · rcases hrow.2 with ⟨_, h'⟩ | ⟨g, cap, cur, e1, _⟩
    · exact absurd h' h0
    · injection e1 with e1 _ e3
      subst e1 e3
      by_cases h20 : n = 20
      · subst h20
        have h1 := insort_f g 20 c X w base hrow 0 20 (by omega) (by omega) (by omega) hnc
        rw [sorted_all hXl] at h1
        have hno := fun W => insort_no (.slice (some ⟨g, 0, none⟩) 20 c) 20 W (by omega)
        have HR := Lib.hid (And.intro h1 hno)
        clear hrow hXl h1 hno
        go_enter Try.func86, Try.ntmps86
        go_wp2
        go_loopw [7, 8] (fun a b wr => (a = .int .i64 0 ∧ b = .int .i64 20 ∧ wr = w) ∨ (a = .int .i64 20 ∧ b = .int .i64 40 ∧ wr.ownsRow base 36 2 (.slice (some ⟨g, 0, none⟩) 20 c) 20 (svs (sortS X)) ∧ w.grownBy wr (some g))) (fun a _ _ => 20 - (intOf a).toNat)
        case atStart => exact .inl ⟨rfl, rfl, rfl⟩
        case round =>
          rcases hrel with ⟨rfl, rfl, rfl⟩ | ⟨rfl, rfl, ho, hg⟩
          · go_wp2_with (go_at_call 90; refine HR.out.1.mono ?_; rintro e w1 ⟨rfl, ho, hg⟩; have H1 := Lib.hid (And.intro ho hg); clear ho hg)
            go_roundw
            case rel => exact .inr ⟨rfl, rfl, H1.out.1, H1.out.2⟩
            case measure => simp [intOf]
          · have H1 := Lib.hid (And.intro ho hg)
            clear ho hg
            obtain ⟨wo, rfl⟩ : ∃ wo : World, wo = wr := ⟨_, rfl⟩
            go_wp2_with (go_at_call 90; refine (HR.out.2 _).mono ?_; rintro e w1 ⟨rfl, hw⟩; obtain rfl := hw.symm)
            go_loopw [6, 7, 8, 9] (fun s _ _ _ wr' => s = .int .i64 20 ∧ wr' = wo) (fun _ _ _ _ _ => 0)
            case atStart => exact ⟨rfl, rfl⟩
            case round =>
              obtain ⟨rfl, rfl⟩ := hrel
              go_wp2
              refine bodyPost_end (results_none rfl _ _ _) rfl ?_
              exact ⟨rfl, H1.out.1, H1.out.2⟩
      · have hlt : (n : Int) < 20 := by omega
        have h1 := insort_f g n c X w base hrow 0 n (by omega) (by omega) (by omega) hnc
        rw [sorted_all hXl] at h1
        have HR := Lib.hid h1
        clear hrow hXl h1 h20
        go_enter Try.func86, Try.ntmps86
        go_wp2
        go_loopw [7, 8] (fun a b wr => a = .int .i64 0 ∧ b = .int .i64 20 ∧ wr = w) (fun _ _ _ => 0)
        case atStart => exact ⟨rfl, rfl, rfl⟩
        case round =>
          obtain ⟨rfl, rfl, rfl⟩ := hrel
          go_wp2_with (go_at_call 90; refine HR.out.mono ?_; rintro e w1 ⟨rfl, ho, hg⟩; have H1 := Lib.hid (And.intro ho hg); clear ho hg)
          go_loopw [6, 7, 8, 9] (fun s _ _ _ wr' => s = .int .i64 20 ∧ wr' = w1) (fun _ _ _ _ _ => 0)
          case atStart => exact ⟨rfl, rfl⟩
          case round =>
            obtain ⟨rfl, rfl⟩ := hrel
            go_wp2
            refine bodyPost_end (results_none rfl _ _ _) rfl ?_
            exact ⟨rfl, H1.out.1, H1.out.2⟩
theorem sortst_f (v : Value) (n : Nat) (X : List Sv) (w : World) (base : Nat) (hrow : w.ownsRow base 36 2 v n (svs X)) (hn : n ≤ 20) :
    Calls Try.prog 70 #[v, .func (.func 71) #[] #[]] w fun e w' => e = .returned (.tuple #[]) ∧ w'.ownsRow base 36 2 v n (svs (sortS X)) ∧ w.grownBy w' v.ownBlock := by
  have h := stable_f v n X w base hrow hn
  obtain ⟨A, c, rfl, _, _⟩ := Sh.of_own hrow
  clear hrow
  go_enter Try.func70, Try.ntmps70
  go_wp2_with (go_at_call 86; refine h.mono ?_; rintro e w1 ⟨rfl, ho, hg⟩; have H1 := Lib.hid (And.intro ho hg); clear ho hg)
  refine bodyPost_end (results_none rfl _ _ _) rfl ?_
  exact ⟨rfl, H1.out.1, H1.out.2⟩
/-- A number as four bits, and the bytes that follow. -/
def tl (m : Nat) : Nat × List UInt8 := if m < 13 then (m, []) else if m < 269 then (13, [UInt8.ofNat (m - 13)]) else (14, [UInt8.ofNat ((m - 269) / 256), UInt8.ofNat ((m - 269) % 256)])
theorem tl_bd (m : Nat) : (tl m).1 ≤ 14 ∧ (tl m).2.length ≤ 2 := by
  unfold tl
  split
  · exact ⟨by show m ≤ 14; omega, by show 0 ≤ 2; omega⟩
  · split
    · exact ⟨by show 13 ≤ 14; omega, by show 1 ≤ 2; omega⟩
    · exact ⟨Nat.le_refl 14, Nat.le_refl 2⟩
theorem nbyte {m : Nat} (h : m < 256) : (UInt8.ofNat m).toNat = m := by
  rw [UInt8.toNat_ofNat']; omega
def SplitPost (m : Nat) (w : World) (e : Ending) (w' : World) : Prop :=
  ∃ v, e = .returned (.tuple #[.int .u8 ((tl m).1 : Int), v]) ∧ w'.ownsRow w.heap.size 5 1 v (tl m).2.length (U8 (tl m).2) ∧ Below w.heap.size w w'
theorem own_lit (w : World) (cs : Array Value) (l : List UInt8) (h : cs.toList = U8 l) (hl : l.length ≤ 100) : (w.alloc (.cells cs 5)).ownsRow w.heap.size 5 1 (.slice (some ⟨w.heap.size, 0, none⟩) l.length l.length) l.length (U8 l) := by
  refine ⟨by rw [U8_length, Nat.mul_one], .inr ⟨w.heap.size, l.length, cs, rfl, Nat.le_refl _, heap_alloc_new w _, Nat.le_refl _, by simp only [maxLen]; omega, ?_, ?_⟩⟩
  · have := congrArg List.length h
    rw [U8_length, Array.length_toList] at this
    omega
  · rw [h]; exact List.take_of_length_le (by rw [U8_length]; omega)
set_option maxHeartbeats 1000000 in
theorem split_f (m : Nat) (hm : m ≤ 65804) (w : World) : Calls Try.prog 73 #[.int .i64 m] w (SplitPost m w) := by
  by_cases h1 : 269 ≤ m
  · have ht : tl m = (14, [UInt8.ofNat ((m - 269) / 256), UInt8.ofNat ((m - 269) % 256)]) := by unfold tl; rw [if_neg (by omega), if_neg (by omega)]
    have hI : (269 : Int) ≤ m := by omega
    have hI2 : (m : Int) ≤ 65804 := by omega
    obtain ⟨z, hz⟩ : ∃ z : Nat, z = m - 269 := ⟨_, rfl⟩
    have hzI : (m : Int) - 269 = (z : Int) := by omega
    have hzb : z ≤ 65535 := by omega
    rw [← hz] at ht
    have HT := Lib.hid (And.intro ht hzI)
    have hc : ∀ cs : Array Value, cs = #[.int .u8 ((z : Int) / 256), .int .u8 ((z : Int) % 256)] → cs.toList = U8 [UInt8.ofNat (z / 256), UInt8.ofNat (z % 256)] := by
      rintro cs rfl
      simp only [U8, List.map_cons, List.map_nil]
      rw [nbyte (by omega), nbyte (by omega)]
      rfl
    have HC := Lib.hid hc
    clear ht hz hzI hc
    go_enter Try.func73, Try.ntmps73
    go_wp2
    go_ret2
    refine ⟨.slice (some ⟨w.heap.size, 0, none⟩) 2 2, ?_, ?_, alloc_below w _⟩
    · rw [HT.out.1]; rfl
    · rw [HT.out.1]
      refine own_lit w _ _ (HC.out _ ?_) (by simp)
      rw [← HT.out.2]
  · have hI : ¬ (269 : Int) ≤ m := by omega
    by_cases h2 : 13 ≤ m
    · have ht : tl m = (13, [UInt8.ofNat (m - 13)]) := by unfold tl; rw [if_neg (by omega), if_pos (by omega)]
      have hI2 : (13 : Int) ≤ m := by omega
      have hI3 : (m : Int) < 269 := by omega
      have HT := Lib.hid ht
      have hc : ∀ cs : Array Value, cs = #[.int .u8 ((m : Int) - 13)] → cs.toList = U8 [UInt8.ofNat (m - 13)] := by
        rintro cs rfl
        simp only [U8, List.map_cons, List.map_nil]
        rw [nbyte (by omega), Int.natCast_sub h2]
        rfl
      have HC := Lib.hid hc
      clear ht hc h1
      go_enter Try.func73, Try.ntmps73
      go_wp2
      go_ret2
      refine ⟨.slice (some ⟨w.heap.size, 0, none⟩) 1 1, ?_, ?_, alloc_below w _⟩
      · rw [HT.out]; rfl
      · rw [HT.out]
        refine own_lit w _ _ (HC.out _ ?_) (by simp)
        first | rfl | (congr 1; congr 1; congr 1; omega)
    · have ht : tl m = (m, []) := by unfold tl; rw [if_pos (by omega)]
      have hI2 : ¬ (13 : Int) ≤ m := by omega
      have hI3 : (m : Int) < 13 := by omega
      have HT := Lib.hid ht
      clear ht h1 h2
      go_enter Try.func73, Try.ntmps73
      go_wp2
      go_ret2
      refine ⟨.slice none 0 0, ?_, ?_, Below.refl _ _⟩
      · rw [HT.out]; exact congrArg _ (congrArg _ (by first | rfl | (congr 1; congr 1; omega)))
      · rw [HT.out]; exact World.ownsRow_nil _ _ _ _
end Go.Proofs.Ytfbddldcbjhmiaa
