/-
  The document's count of signs.
-/
import Derived.Test.YthnbcilpallhjaaDoorPlSign
import Derived.Lib.ValidAsc
namespace Go.Proofs.YthnbcilpallhjaaDoor
open Go.RowKit
set_option maxRecDepth 100000
set_option maxRecDepth 100000
set_option linter.unusedVariables false
theorem sign_le {n b0 b1 b2 b3 : Nat} (hn : 1 ≤ n) (hb : b0 < 256) : (signN n b0 b1 b2 b3).1 ≤ n := by
  by_cases c1 : b0 < 128
  · rw [sign_low c1]; exact hn
  by_cases c2 : b0 < 194
  · rw [sign_bad (.inl ⟨by omega, c2⟩)]; exact Nat.zero_le _
  by_cases c3 : b0 < 224
  · rw [sign_two ⟨by omega, c3⟩]; split <;> simp only [] <;> omega
  by_cases c4 : b0 < 240
  · rw [sign_three ⟨by omega, c4⟩]; split <;> simp only [] <;> omega
  by_cases c5 : b0 < 245
  · rw [sign_four ⟨by omega, c5⟩]; split <;> simp only [] <;> omega
  · rw [sign_bad (.inr ⟨by omega, hb⟩)]; exact Nat.zero_le _
theorem signS_le (s : ByteArray) (h : 0 < s.size) : (signS s).1 ≤ s.size := sign_le h (s.get! 0).toNat_lt
def signL (l : List UInt8) : Nat × Nat := signS ⟨l.toArray⟩
theorem signL_S (s : ByteArray) : signL s.data.toList = signS s := by
  unfold signL
  rw [Array.toArray_toList]
theorem signL_le {l : List UInt8} (h : l ≠ []) : (signL l).1 ≤ l.length := by
  have := signS_le ⟨l.toArray⟩ (by show 0 < l.toArray.size; rw [List.size_toArray]; exact List.length_pos_iff.2 h)
  exact this
/-- How many signs, if all are such as may be. -/
def rn : Nat → List UInt8 → Option Nat
  | 0, l => if l = [] then some 0 else none
  | f + 1, l => if l = [] then some 0 else if (signL l).1 = 0 ∨ (signL l).2 < 32 ∨ (signL l).2 = 127 then none else (rn f (l.drop (signL l).1)).map (· + 1)
def runesQ (l : List UInt8) : Option Nat := rn l.length l
theorem rn_nil (f : Nat) : rn f [] = some 0 := by cases f <;> rfl
theorem rn_any : ∀ (f g : Nat) (l : List UInt8), l.length ≤ f → l.length ≤ g → rn f l = rn g l
  | 0, g, l, hf, _ => by
    obtain rfl : l = [] := List.eq_nil_of_length_eq_zero (by omega)
    rw [rn_nil, rn_nil]
  | f + 1, 0, l, _, hg => by
    obtain rfl : l = [] := List.eq_nil_of_length_eq_zero (by omega)
    rw [rn_nil, rn_nil]
  | f + 1, g + 1, l, hf, hg => by
    by_cases h : l = []
    · subst h; rw [rn_nil, rn_nil]
    · unfold rn
      rw [if_neg h, if_neg h]
      by_cases c : (signL l).1 = 0 ∨ (signL l).2 < 32 ∨ (signL l).2 = 127
      · rw [if_pos c, if_pos c]
      · rw [if_neg c, if_neg c, rn_any f g (l.drop (signL l).1) (by rw [List.length_drop]; omega) (by rw [List.length_drop]; omega)]
theorem rn_succ (f : Nat) {l : List UInt8} (h : l ≠ []) : rn (f + 1) l = if (signL l).1 = 0 ∨ (signL l).2 < 32 ∨ (signL l).2 = 127 then none else (rn f (l.drop (signL l).1)).map (· + 1) := if_neg h
theorem runes_step {l : List UInt8} (h : l ≠ []) : runesQ l = if (signL l).1 = 0 ∨ (signL l).2 < 32 ∨ (signL l).2 = 127 then none else (runesQ (l.drop (signL l).1)).map (· + 1) := by
  have hl := List.length_pos_iff.2 h
  obtain ⟨f, hf⟩ : ∃ f, l.length = f + 1 := ⟨l.length - 1, by omega⟩
  have e : runesQ l = rn (f + 1) l := by unfold runesQ; rw [hf]
  rw [e, rn_succ f h]
  by_cases c : (signL l).1 = 0 ∨ (signL l).2 < 32 ∨ (signL l).2 = 127
  · rw [if_pos c, if_pos c]
  · rw [if_neg c, if_neg c]
    have e2 : rn f (l.drop (signL l).1) = runesQ (l.drop (signL l).1) := rn_any _ _ _ (by rw [List.length_drop]; omega) (Nat.le_refl _)
    rw [e2]
theorem drewN_two (w : World) (m : Nat) : ∀ n, (w.drewN m).drewN n = w.drewN (m + n)
  | 0 => rfl
  | n + 1 => by show ((w.drewN m).drewN n).drew = (w.drewN (m + n)).drew; rw [drewN_two w m n]
def strSize (v : Value) : Nat := match v with | .string t => t.size | _ => 0
def runesEnd (o : Option Nat) : Ending := match o with | some n => .returned (.tuple #[.int .i64 (n : Int), .bool true]) | none => .returned (.tuple #[.int .i64 0, .bool false])
set_option maxHeartbeats 8000000 in
theorem rrunes_f (s : ByteArray) (w : World) (hs : s.size ≤ 1000000) : Calls Tryd.prog 43 #[.string s] w fun e w' => e = runesEnd (runesQ s.data.toList) ∧ ∃ m, w' = w.drewN m := by
  obtain ⟨R, hR⟩ : ∃ R, runesQ s.data.toList = R := ⟨_, rfl⟩
  rw [hR]
  have HR := Lib.hid hR
  clear hR
  go_enter Tryd.func43, Tryd.ntmps43
  go_wp2
  go_loopw [0, 4] (fun v0 v4 wr => ∃ (t : ByteArray) (k : Nat), v0 = .string t ∧ v4 = .int .i64 (k : Int) ∧ t.size + k ≤ s.size ∧ Aside ((runesQ t.data.toList).map (· + k) = R ∧ ∃ m, wr = w.drewN m)) (fun v0 _ _ => strSize v0)
  case atStart => exact ⟨s, 0, rfl, rfl, by omega, by rw [HR.out]; cases R <;> rfl, 0, rfl⟩
  case round =>
    obtain ⟨t, k, rfl, rfl, hsz, hrel⟩ := hrel
    obtain ⟨hq, m, hm⟩ := hrel.out
    have HM := Lib.hid hm
    by_cases h0 : 0 < t.size
    · have h0I : (0 : Int) < (t.size : Int) := by omega
      have hne : t.data.toList ≠ [] := fun e => by
        have e2 : t.data.toList.length = t.size := Array.length_toList
        rw [e] at e2
        have e3 : 0 = t.size := e2
        omega
      rw [runes_step hne, signL_S] at hq
      have hle := signS_le t h0
      have hsg := fun W => sign_f t W h0
      obtain ⟨p, hp⟩ : ∃ p, (signS t).1 = p := ⟨_, rfl⟩
      obtain ⟨c, hc⟩ : ∃ c, (signS t).2 = c := ⟨_, rfl⟩
      rw [hp, hc] at hq hsg
      rw [hp] at hle
      have HQ := Lib.hid hq
      have HS := Lib.hid hsg
      clear hq hsg hp hc hne hrel hm
      by_cases c1 : p = 0
      · have c1I : ((p : Int) == 0) = true := by rw [c1]; rfl
        have hn : R = none := by rw [← HQ.out, if_pos (.inl c1)]; rfl
        subst hn
        subst c1
        go_wp2_with fail
        refine (HS.out _).mono ?_
        rintro e w1 ⟨rfl, m1, hw1⟩
        have H1 := Lib.hid hw1
        clear hw1
        try dsimp only
        go_wp2
        go_ret2
        exact ⟨rfl, m + m1, by rw [H1.out, HM.out]; exact drewN_two _ _ _⟩
      have c1I : ¬ (p : Int) = 0 := by omega
      have c1B : ((p : Int) == 0) = false := beq_eq_false_iff_ne.2 c1I
      by_cases c2 : c < 32
      · have c2I : (c : Int) < 32 := by omega
        have hn : R = none := by rw [← HQ.out, if_pos (.inr (.inl c2))]; rfl
        subst hn
        go_wp2_with fail
        refine (HS.out _).mono ?_
        rintro e w1 ⟨rfl, m1, hw1⟩
        have H1 := Lib.hid hw1
        clear hw1
        try dsimp only
        go_wp2
        go_ret2
        exact ⟨rfl, m + m1, by rw [H1.out, HM.out]; exact drewN_two _ _ _⟩
      have c2I : ¬ (c : Int) < 32 := by omega
      by_cases c3 : c = 127
      · have hn : R = none := by rw [← HQ.out, if_pos (.inr (.inr c3))]; rfl
        subst hn
        obtain ⟨C, hC⟩ : ∃ C : Int, (c : Int) = C := ⟨_, rfl⟩
        have hC7 : C = 127 := by omega
        rw [hC] at HS c2I
        have c3I : (C == 127) = true := beq_iff_eq.2 hC7
        go_wp2_with fail
        refine (HS.out _).mono ?_
        rintro e w1 ⟨rfl, m1, hw1⟩
        have H1 := Lib.hid hw1
        clear hw1
        try dsimp only
        go_wp2
        go_ret2
        exact ⟨rfl, m + m1, by rw [H1.out, HM.out]; exact drewN_two _ _ _⟩
      have c3I : ¬ (c : Int) = 127 := by omega
      have c3B : ((c : Int) == 127) = false := beq_eq_false_iff_ne.2 c3I
      have hpI : (p : Int) ≤ t.size := by omega
      go_wp2_with fail
      refine (HS.out _).mono ?_
      rintro e w1 ⟨rfl, m1, hw1⟩
      have H1 := Lib.hid hw1
      clear hw1
      try dsimp only
      go_wp2
      go_roundw
      case rel =>
        refine ⟨t.extract p t.size, k + 1, by first | rfl | simp, by go_num, by rw [Lib.ext_size]; omega, ?_, m + m1, by rw [H1.out, HM.out]; exact drewN_two _ _ _⟩
        rw [Lib.ext_list, ← HQ.out, if_neg (by omega), Option.map_map]
        congr 1
        funext x
        show x + (k + 1) = x + 1 + k
        omega
      case measure =>
        show (t.extract p t.size).size < t.size
        rw [Lib.ext_size]
        omega
    · have h0I : ¬ (0 : Int) < (t.size : Int) := by omega
      have hnil : t.data.toList = [] := List.eq_nil_of_length_eq_zero (by rw [Array.length_toList]; have e2 : t.data.size = t.size := rfl; omega)
      rw [hnil] at hq
      have hn : R = some k := by rw [← hq]; show some (0 + k) = _; rw [Nat.zero_add]
      subst hn
      clear hq hrel hnil hm
      go_wp2
      go_ret2
      exact ⟨rfl, m, HM.out⟩
end Go.Proofs.YthnbcilpallhjaaDoor
