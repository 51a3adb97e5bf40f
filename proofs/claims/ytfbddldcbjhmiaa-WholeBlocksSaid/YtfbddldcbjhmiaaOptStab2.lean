/-
  Options of a row sorted, fewer than forty of them.
-/
import Derived.Test.YtfbddldcbjhmiaaOptMerge3
namespace Go.Proofs.Ytfbddldcbjhmiaa
open Go.RowKit
set_option maxRecDepth 100000
set_option linter.unusedVariables false
theorem sortS_congr {Z Y : List Sv} (h : EqF Z Y) : sortS Z = sortS Y := sort_is (sortS_up Z) ((sortS_eqf Z).tr h)
set_option maxHeartbeats 1600000 in
theorem stable_big (g n cap : Nat) (X : List Sv) (w : World) (base : Nat) (hrow : w.ownsRow base 36 2 (.slice (some ⟨g, 0, none⟩) n cap) n (svs X)) (hn : 20 < n) (hn2 : n < 40) (hnc : n ≤ cap) :
    Calls Try.prog 86 #[.slice (some ⟨g, 0, none⟩) n cap, .int .i64 n, .func (.func 71) #[] #[]] w fun e w' => e = .returned (.tuple #[]) ∧ w'.ownsRow base 36 2 (.slice (some ⟨g, 0, none⟩) n cap) n (svs (sortS X)) ∧ w.grownBy w' (some g) := by
  have hXl := row_len hrow
  obtain ⟨A, B, rfl, hA⟩ : ∃ A B, X = A ++ B ∧ A.length = 20 := ⟨X.take 20, X.drop 20, (List.take_append_drop _ _).symm, by rw [List.length_take]; omega⟩
  rw [List.length_append] at hXl
  have hnI : (20 : Int) < n := by omega
  have hnI2 : (n : Int) < 40 := by omega
  have e1 : sorted (A ++ B) 0 20 = sortS A ++ B := by
    unfold sorted
    rw [List.take_zero, List.drop_zero, List.take_append_of_le_length (by omega), List.take_of_length_le (by omega), List.drop_append_of_le_length (by omega), List.drop_eq_nil_of_le (by omega)]
    rfl
  have e2 : sorted (sortS A ++ B) 20 n = sortS A ++ sortS B := by
    have hsA : (sortS A).length = 20 := by rw [sortS_len]; exact hA
    unfold sorted
    rw [List.take_append_of_le_length (by omega), List.take_of_length_le (by omega), List.drop_append_of_le_length (by omega), show List.drop 20 (sortS A) = [] from List.drop_eq_nil_of_le (by omega), List.nil_append, List.take_of_length_le (by omega), List.drop_eq_nil_of_le (by rw [List.length_append]; omega), List.append_nil]
  have i1 := fun (W : World) (h : W.ownsRow base 36 2 (.slice (some ⟨g, 0, none⟩) n cap) n (svs (A ++ B))) => e1 ▸ insort_f g n cap (A ++ B) W base h 0 20 (by omega) (by omega) (by omega) hnc
  have i2 := fun (W : World) (h : W.ownsRow base 36 2 (.slice (some ⟨g, 0, none⟩) n cap) n (svs (sortS A ++ B))) => e2 ▸ insort_f g n cap (sortS A ++ B) W base h 20 n (by omega) (by omega) (by omega) hnc
  have i3 := fun (W : World) (h : W.ownsRow base 36 2 (.slice (some ⟨g, 0, none⟩) n cap) n (svs (sortS A ++ sortS B))) => merge_f n g n cap [] (sortS A) (sortS B) [] W base (by simpa using h) 0 20 n rfl (by rw [sortS_len]; omega) (by rw [sortS_len]; omega) (by rw [sortS_len]; omega) (by rw [sortS_len]; omega) (by omega) (sortS_up A) (sortS_up B) (by omega)
  have e3 : [] ++ (sortS (sortS A ++ sortS B) ++ []) = sortS (A ++ B) := by
    rw [List.nil_append, List.append_nil]
    exact sortS_congr ((sortS_eqf A).app (sortS_eqf B))
  rw [e3] at i3
  have HR := Lib.hid (And.intro hrow (And.intro i1 (And.intro i2 i3)))
  obtain ⟨Z, hZ⟩ : ∃ Z, sortS (A ++ B) = Z := ⟨_, rfl⟩
  rw [hZ] at HR ⊢
  clear hrow hXl hA e1 e2 e3 i1 i2 i3 hZ
  go_enter Try.func86, Try.ntmps86
  go_wp2
  go_loopw [7, 8] (fun a b wr => (a = .int .i64 0 ∧ b = .int .i64 20 ∧ wr = w) ∨ (a = .int .i64 20 ∧ b = .int .i64 40 ∧ wr.ownsRow base 36 2 (.slice (some ⟨g, 0, none⟩) n cap) n (svs (sortS A ++ B)) ∧ w.grownBy wr (some g))) (fun a _ _ => 20 - (intOf a).toNat)
  case atStart => exact .inl ⟨rfl, rfl, rfl⟩
  case round =>
    rcases hrel with ⟨rfl, rfl, rfl⟩ | ⟨rfl, rfl, ho, hg⟩
    · go_wp2_with (go_at_call 90; refine (HR.out.2.1 _ HR.out.1).mono ?_; rintro e w1 ⟨rfl, ho, hg⟩; have H1 := Lib.hid (And.intro ho hg); clear ho hg)
      go_roundw
      case rel => exact .inr ⟨rfl, rfl, H1.out.1, H1.out.2⟩
      case measure => simp [intOf]
    · have H1 := Lib.hid (And.intro ho hg)
      clear ho hg
      obtain ⟨wo, rfl⟩ : ∃ wo : World, wo = wr := ⟨_, rfl⟩
      go_wp2_with (go_at_call 90; refine (HR.out.2.2.1 _ H1.out.1).mono ?_; rintro e w1 ⟨rfl, ho, hg⟩; have H2 := Lib.hid (And.intro ho (grownBy_trans H1.out.2 hg)); clear ho hg)
      go_loopw [6, 7, 8, 9] (fun s _ _ _ wr' => (s = .int .i64 20 ∧ wr' = w1) ∨ (s = .int .i64 40 ∧ wr'.ownsRow base 36 2 (.slice (some ⟨g, 0, none⟩) n cap) n (svs Z) ∧ w.grownBy wr' (some g))) (fun s _ _ _ _ => 40 - (intOf s).toNat)
      case atStart => exact .inl ⟨rfl, rfl⟩
      case round =>
        rcases hrel with ⟨rfl, rfl⟩ | ⟨rfl, ho, hg⟩
        · obtain ⟨wo2, rfl⟩ : ∃ wo2 : World, wo2 = wr := ⟨_, rfl⟩
          go_wp2_with fail
          go_loopw [7, 8] (fun a b wr => a = .int .i64 0 ∧ b = .int .i64 40 ∧ wr = wo2) (fun _ _ _ => 0)
          case atStart => exact ⟨rfl, rfl, rfl⟩
          case round =>
            obtain ⟨rfl, rfl, rfl⟩ := hrel
            go_wp2_with (go_at_call 91; refine (HR.out.2.2.2 _ H2.out.1).mono ?_; rintro e w3 ⟨rfl, ho, hg⟩; have H3 := Lib.hid (And.intro ho (grownBy_trans H2.out.2 hg)); clear ho hg)
            go_roundw
            case rel => exact .inr ⟨rfl, H3.out.1, H3.out.2⟩
            case measure => simp [intOf]
        · have H3 := Lib.hid (And.intro ho hg)
          clear ho hg
          go_wp2
          refine bodyPost_end (results_none rfl _ _ _) rfl ?_
          exact ⟨rfl, H3.out.1, H3.out.2⟩
theorem stable2_f (v : Value) (n : Nat) (X : List Sv) (w : World) (base : Nat) (hrow : w.ownsRow base 36 2 v n (svs X)) (hn : n < 40) :
    Calls Try.prog 86 #[v, .int .i64 n, .func (.func 71) #[] #[]] w fun e w' => e = .returned (.tuple #[]) ∧ w'.ownsRow base 36 2 v n (svs (sortS X)) ∧ w.grownBy w' v.ownBlock := by
  by_cases h : n ≤ 20
  · exact stable_f v n X w base hrow h
  · rcases hrow.2 with ⟨_, h'⟩ | ⟨g, cap, cur, rfl, _, _, hnc, _⟩
    · omega
    · exact stable_big g n cap X w base hrow (by omega) hn hnc
theorem sortst2_f (v : Value) (n : Nat) (X : List Sv) (w : World) (base : Nat) (hrow : w.ownsRow base 36 2 v n (svs X)) (hn : n < 40) :
    Calls Try.prog 70 #[v, .func (.func 71) #[] #[]] w fun e w' => e = .returned (.tuple #[]) ∧ w'.ownsRow base 36 2 v n (svs (sortS X)) ∧ w.grownBy w' v.ownBlock := by
  have h := stable2_f v n X w base hrow hn
  obtain ⟨A, c, rfl, _, _⟩ := Sh.of_own hrow
  clear hrow
  go_enter Try.func70, Try.ntmps70
  go_wp2_with (go_at_call 86; refine h.mono ?_; rintro e w1 ⟨rfl, ho, hg⟩; have H1 := Lib.hid (And.intro ho hg); clear ho hg)
  refine bodyPost_end (results_none rfl _ _ _) rfl ?_
  exact ⟨rfl, H1.out.1, H1.out.2⟩
end Go.Proofs.Ytfbddldcbjhmiaa
