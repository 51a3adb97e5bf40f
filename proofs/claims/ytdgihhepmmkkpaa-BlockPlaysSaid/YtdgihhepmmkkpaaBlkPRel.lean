/-
  A body that is put together: the program's way and the document's go along.
-/
import Derived.Test.YtdgihhepmmkkpaaBlkRPut
namespace Go.Proofs.Ytdgihhepmmkkpaa
open Go.RowKit
set_option maxRecDepth 100000
set_option linter.unusedVariables false
/-- The program's state and the document's. -/
def PRel (l : List UInt8) (wh on : Bool) : Prop := (on = true ∧ wh = false) ∨ (on = false ∧ (wh = true ∨ l = []))
theorem PRel.first : PRel [] false false := .inr ⟨rfl, .inr rfl⟩
theorem chk_rel {most : Nat} {l : List UInt8} {wh on : Bool} {n z : Int} {m : Bool} {k : Nat} (h : (on = true ∧ wh = false) ∨ (on = false ∧ (wh = true ∨ (l = [] ∧ n ≠ 0)))) (hl : l.length ≤ most) : chkE most l wh n z m k = rchk most l on n z m k := by
  unfold chkE rchk
  by_cases hr : rightB n z = false
  · rw [if_pos hr, if_pos hr]
  · rw [if_neg hr, if_neg hr]
    have hrt : rightB n z = true := by simpa using hr
    have hc : (wh = true ∨ n * z ≠ (l.length : Int)) ↔ (on = false ∨ n * z ≠ (l.length : Int)) := by
      rcases h with ⟨h1, h2⟩ | ⟨h1, h2 | ⟨h2, h3⟩⟩
      · subst h1 h2; simp
      · subst h1 h2; simp
      · subst h1 h2
        refine ⟨fun _ => .inl rfl, fun _ => .inr ?_⟩
        obtain ⟨N, Z, T, rfl, rfl, hN, hZ0, hZ1, hT, _, _, hNZ⟩ := right_nat hrt
        rw [hT]
        have : N ≠ 0 := fun e => h3 (by rw [e]; rfl)
        have h4 : 1 * Z ≤ N * Z := Nat.mul_le_mul_right Z (by omega)
        show (T : Int) ≠ (([] : List UInt8).length : Int)
        simp only [List.length_nil]
        omega
    by_cases h1 : wh = true ∨ n * z ≠ (l.length : Int)
    · rw [if_pos h1, if_pos (hc.1 h1)]
    · rw [if_neg h1, if_neg (fun e => h1 (hc.2 e))]
      split
      · rfl
      · by_cases h2 : most - l.length < k
        · rw [if_pos h2, if_pos (by omega)]
        · rw [if_neg h2, if_neg (by omega)]
theorem put_rel {most : Nat} {l d : List UInt8} {wh on : Bool} {n z : Int} {m : Bool} (h : PRel l wh on) (hl : l.length ≤ most) :
    ∃ (l' : List UInt8) (wh' on' last : Bool) (e : Int), jput most l wh n z m d = ((l', wh'), last, e) ∧ rput most l on n z m d = ((l', on'), last, e) ∧ PRel l' wh' on' ∧ l'.length ≤ l.length + d.length := by
  unfold jput rput
  by_cases hn : n = 0
  · subst hn
    simp only [if_true]
    have hc := chk_rel (most := most) (l := []) (wh := false) (on := true) (n := 0) (z := z) (m := m) (k := d.length) (.inl ⟨rfl, rfl⟩) (Nat.zero_le _)
    rw [hc]
    by_cases h0 : rchk most [] true 0 z m d.length = 0
    · rw [if_pos h0, if_pos h0]
      refine ⟨_, _, _, _, _, rfl, rfl, ?_, by simp⟩
      cases m with
      | true => exact .inl ⟨rfl, rfl⟩
      | false => exact .inr ⟨rfl, .inl rfl⟩
    · rw [if_neg h0, if_neg h0]
      exact ⟨_, _, _, _, _, rfl, rfl, .inr ⟨rfl, .inr rfl⟩, Nat.zero_le _⟩
  · simp only [if_neg hn]
    have hc := chk_rel (most := most) (l := l) (wh := wh) (on := on) (n := n) (z := z) (m := m) (k := d.length) (by
      rcases h with h | ⟨h1, h2 | h2⟩
      · exact .inl h
      · exact .inr ⟨h1, .inl h2⟩
      · exact .inr ⟨h1, .inr ⟨h2, hn⟩⟩) hl
    rw [hc]
    by_cases h0 : rchk most l on n z m d.length = 0
    · rw [if_pos h0, if_pos h0]
      refine ⟨_, _, _, _, _, rfl, rfl, ?_, by rw [List.length_append]; exact Nat.le_refl _⟩
      cases m with
      | true => exact .inl ⟨rfl, rfl⟩
      | false => exact .inr ⟨rfl, .inl rfl⟩
    · rw [if_neg h0, if_neg h0]
      exact ⟨_, _, _, _, _, rfl, rfl, .inr ⟨rfl, .inr rfl⟩, Nat.zero_le _⟩
theorem rnew_f (x : Int) (w : World) : Calls Try.prog 23 #[.int .i64 x] w fun e w' => e = .returned (.agg #[.int .i64 (mostN x : Int), .slice none 0 0, .bool false]) ∧ Below w.heap.size w w' := by
  have hm := mostN_eq x
  have r0 := range_box w #[.int .i64 (mostN x : Int), .slice none 0 0, .bool false] 58 rfl
  have hb := alloc_below w (.cells #[.int .i64 (mostN x : Int), .slice none 0 0, .bool false] 58)
  by_cases h0 : x < 0
  · have e : (mostN x : Int) = 0 := by omega
    rw [e] at r0 hb ⊢
    clear hm e
    go_enter Try.func23, Try.ntmps23
    go_wp2
    refine bodyPost_ret (results_cell_mid rfl _ _ w.heap.size 0 [.int .i64 0, .slice none 0 0, .bool false] _ rfl r0 Try.underlying58 rfl size_rj) rfl ?_
    exact ⟨rfl, hb⟩
  · by_cases h1 : 1048576 < x
    · have e : (mostN x : Int) = 1048576 := by omega
      rw [e] at r0 hb ⊢
      clear hm e
      go_enter Try.func23, Try.ntmps23
      go_wp2
      refine bodyPost_ret (results_cell_mid rfl _ _ w.heap.size 0 [.int .i64 1048576, .slice none 0 0, .bool false] _ rfl r0 Try.underlying58 rfl size_rj) rfl ?_
      exact ⟨rfl, hb⟩
    · have e : (mostN x : Int) = x := by omega
      rw [e] at r0 hb ⊢
      clear hm e
      go_enter Try.func23, Try.ntmps23
      go_wp2
      refine bodyPost_ret (results_cell_mid rfl _ _ w.heap.size 0 [.int .i64 x, .slice none 0 0, .bool false] _ rfl r0 Try.underlying58 rfl size_rj) rfl ?_
      exact ⟨rfl, hb⟩
end Go.Proofs.Ytdgihhepmmkkpaa
