/-
  The program's Read, of any kind and text; what is right is read as it, what is read is right and is told as the same text.
-/
import Derived.Test.YthnbcilpallhjaaDoorPlReadB
import Derived.Test.YthnbcilpallhjaaDoorPlBackPure
import Derived.Test.YthnbcilpallhjaaDoorPlNumPure
namespace Go.Proofs.YthnbcilpallhjaaDoor
open Go.RowKit
set_option maxRecDepth 100000
set_option maxRecDepth 100000
set_option linter.unusedVariables false
/-- What a text of a kind is read as: the value's fields, and the error. -/
structure RdQ where
  k : Int
  n : Int
  t : List UInt8
  l : List UInt8
  o : Int
  i : Int
  er : Int
def noV (er : Int) : RdQ := ⟨0, 0, [], [], 0, 0, er⟩
def readQ (k : Int) (s : List UInt8) : RdQ :=
  if k = 1 ∨ k = 5 then (match numP s with | some n => ⟨k, n, [], [], 0, 0, 0⟩ | none => noV 20)
  else if k = 2 then (match truthQ s with | some n => ⟨2, n, [], [], 0, 0, 0⟩ | none => noV 20)
  else if k = 3 then (if textE s = 0 then ⟨3, 0, s, [], 0, 0, 0⟩ else noV (textE s))
  else if k = 4 then (if (unQ s).2 = 0 then ⟨4, 0, [], (unQ s).1, 0, 0, 0⟩ else noV (unQ s).2)
  else if k = 6 then (match linkQ s with | some (a, b) => ⟨6, 0, [], [], a, b, 0⟩ | none => noV 20)
  else noV 70
def RdAll (q : RdQ) : World → Ending → World → Prop := RdRet q.k q.n q.t q.l q.o q.i q.er
theorem read_all (k : Int) (s : ByteArray) (hs : s.size ≤ 1000000) (w : World) (hE : TabE w) (hD : TabD w) (hU : Tabs w) :
    Calls Tryd.prog 9 #[.int .i64 k, .string s] w (RdAll (readQ k s.data.toList) w) := by
  unfold readQ
  by_cases h15 : k = 1 ∨ k = 5
  · rw [if_pos h15]
    rcases h15 with rfl | rfl
    · have h := read_num1 s hs w hE hD
      rcases hq : numP s.data.toList with _ | n
      · simp only [hq] at h ⊢; exact h
      · simp only [hq] at h ⊢; exact h
    · have h := read_num5 s hs w hE hD
      rcases hq : numP s.data.toList with _ | n
      · simp only [hq] at h ⊢; exact h
      · simp only [hq] at h ⊢; exact h
  rw [if_neg h15]
  by_cases h2 : k = 2
  · rw [if_pos h2]
    subst h2
    have h := read_bool s hs w
    rcases hq : truthQ s.data.toList with _ | n
    · simp only [hq] at h ⊢; exact h
    · simp only [hq] at h ⊢; exact h
  rw [if_neg h2]
  by_cases h3 : k = 3
  · rw [if_pos h3]
    subst h3
    have h := read_text s hs w hU
    by_cases he : textE s.data.toList = 0
    · rw [if_pos he] at h ⊢; exact h
    · rw [if_neg he] at h ⊢; exact h
  rw [if_neg h3]
  by_cases h4 : k = 4
  · rw [if_pos h4]
    subst h4
    by_cases he : (unQ s.data.toList).2 = 0
    · rw [if_pos he]; exact read_bytes s hs w he
    · rw [if_neg he]; exact read_bytes_e s hs w he
  rw [if_neg h4]
  by_cases h6 : k = 6
  · rw [if_pos h6]
    subst h6
    have h := read_link s hs w hE hD
    rcases hq : linkQ s.data.toList with _ | ⟨a, b⟩
    · simp only [hq] at h ⊢; exact h
    · simp only [hq] at h ⊢; exact h
  rw [if_neg h6]
  exact read_kind k (by omega) s w
theorem itoa_1 : Lib.itoa 1 = [49] := by simp [Lib.itoa, Lib.decDigits]
theorem itoa_z : Lib.itoa 0 = [48] := by simp [Lib.itoa, Lib.decDigits]
/-- What is right is read as it. -/
theorem right_back (k n : Int) (S L : List UInt8) (o i : Int) (hn : -9223372036854775808 ≤ n ∧ n ≤ 9223372036854775807) (h : rightB k n S.length (okN (runesQ S)) L.length o i = true) : readQ k (textL k n S L o i) = ⟨k, n, S, L, o, i, 0⟩ := by
  unfold rightB at h
  have h := of_decide_eq_true h
  rcases h with ⟨h15, hs, hl, rfl, rfl⟩ | ⟨rfl, hn2, hs, hl, rfl, rfl⟩ | ⟨rfl, rfl, hs, hok, hl, rfl, rfl⟩ | ⟨rfl, rfl, hs, hl, rfl, rfl⟩ | ⟨rfl, rfl, hs, hl, ho0, ho1, hi0, hi1⟩
  · obtain rfl := List.eq_nil_of_length_eq_zero hs
    obtain rfl := List.eq_nil_of_length_eq_zero hl
    unfold readQ textL
    rw [if_pos h15, if_neg (by omega), if_neg (by omega), if_neg (by omega), numP_itoa n hn.1 hn.2]
  · obtain rfl := List.eq_nil_of_length_eq_zero hs
    obtain rfl := List.eq_nil_of_length_eq_zero hl
    unfold readQ textL
    rw [if_neg (by decide), if_pos rfl, if_neg (by decide), if_neg (by decide), if_neg (by decide)]
    rcases hn2 with rfl | rfl
    · rw [itoa_z]; rfl
    · rw [itoa_1]; rfl
  · obtain rfl := List.eq_nil_of_length_eq_zero hl
    unfold readQ textL
    have he : textE S = 0 := by unfold textE; rw [if_neg (by omega), if_pos (by omega)]
    rw [if_neg (by decide), if_neg (by decide), if_pos rfl, if_pos rfl, if_pos he]
  · obtain rfl := List.eq_nil_of_length_eq_zero hs
    have ht : textL 4 0 [] L 0 0 = b64Q L := by unfold textL; rw [if_neg (by decide), if_pos rfl]
    rw [ht]
    unfold readQ
    rw [if_neg (by decide), if_neg (by decide), if_neg (by decide), if_pos rfl, un_back L hl, if_pos rfl]
  · obtain rfl := List.eq_nil_of_length_eq_zero hs
    obtain rfl := List.eq_nil_of_length_eq_zero hl
    unfold readQ textL
    rw [if_neg (by decide), if_neg (by decide), if_neg (by decide), if_neg (by decide), if_pos rfl, if_neg (by decide), if_neg (by decide), if_pos rfl, linkQ_itoa o i ⟨ho0, ho1⟩ ⟨hi0, hi1⟩]
theorem numP_conv {s : List UInt8} {n : Int} (h : numP s = some n) : Lib.itoa n = s ∧ -9223372036854775808 ≤ n ∧ n ≤ 9223372036854775807 := by
  unfold numP at h
  split at h
  · cases h
  · split at h
    · rename_i v hp
      split at h
      · rename_i he
        injection h with h
        subst h
        exact ⟨he, parsed_in hp⟩
      · cases h
    · cases h
theorem numP_nil : numP [] = none := by decide +kernel
theorem idx_split (c : UInt8) : ∀ l : List UInt8, Lib.indexByte l c = -1 ∨ l = l.take (Lib.indexByte l c).toNat ++ c :: l.drop ((Lib.indexByte l c).toNat + 1)
  | [] => .inl rfl
  | x :: l => by
    unfold Lib.indexByte
    by_cases hx : (x == c) = true
    · right
      obtain rfl := beq_iff_eq.1 hx
      simp
    · rcases idx_split c l with h | h
      · left; rw [if_neg hx, h]; rfl
      · have hr := idx_range c l
        rcases hr with h1 | ⟨h1, h2⟩
        · left; rw [if_neg hx, h1]; rfl
        · right
          rw [if_neg hx, if_neg (by simp; omega)]
          obtain ⟨m, hm⟩ := Int.eq_ofNat_of_zero_le h1
          rw [hm] at h ⊢
          rw [Int.toNat_natCast] at h
          have e : ((m : Int) + 1).toNat = m + 1 := by omega
          first
            | rw [show (1 + (m : Int)).toNat = m + 1 by omega]
            | rw [e]
          rw [List.take_succ_cons, List.drop_succ_cons, List.cons_append, ← h]
theorem linkQ_conv {s : List UInt8} {a b : Int} (h : linkQ s = some (a, b)) : Lib.itoa a ++ 58 :: Lib.itoa b = s ∧ (0 ≤ a ∧ a ≤ 65535) ∧ 0 ≤ b ∧ b ≤ 65535 := by
  unfold linkQ at h
  split at h
  · rename_i x y hx hy
    split at h
    · rename_i hr
      injection h with h
      injection h with h1 h2
      subst h1 h2
      refine ⟨?_, hr⟩
      have e1 := (numP_conv hx).1
      have e2 := (numP_conv hy).1
      rcases idx_split 58 s with h | h
      · unfold cutB at hy
        rw [if_pos h, numP_nil] at hy
        cases hy
      · have hne : ¬ Lib.indexByte s 58 = -1 := fun hn => by
          unfold cutB at hy
          rw [if_pos hn, numP_nil] at hy
          cases hy
        unfold cutA at e1
        unfold cutB at e2
        rw [if_neg hne] at e1 e2
        rw [e1, e2]
        exact h.symm
    · cases h
  · cases h
theorem truthQ_conv {s : List UInt8} {n : Int} (h : truthQ s = some n) : Lib.itoa n = s ∧ (n = 0 ∨ n = 1) := by
  unfold truthQ at h
  split at h
  · rename_i hs
    injection h with h
    subst h
    exact ⟨by rw [itoa_z, hs], .inl rfl⟩
  · split at h
    · rename_i hs
      injection h with h
      subst h
      exact ⟨by rw [itoa_1, hs], .inr rfl⟩
    · cases h
/-- What is read is right, and is told as the same text. -/
theorem read_conv (k : Int) (s : List UInt8) (h : (readQ k s).er = 0) : ∃ n t l o i, readQ k s = ⟨k, n, t, l, o, i, 0⟩ ∧ rightB k n t.length (okN (runesQ t)) l.length o i = true ∧ textL k n t l o i = s ∧ (-9223372036854775808 ≤ n ∧ n ≤ 9223372036854775807) ∧ (0 ≤ o ∧ o ≤ 65535) ∧ 0 ≤ i ∧ i ≤ 65535 := by
  unfold readQ at h ⊢
  by_cases h15 : k = 1 ∨ k = 5
  · rw [if_pos h15] at h ⊢
    rcases hq : numP s with _ | n
    · simp only [hq] at h; exact absurd h (by decide)
    · obtain ⟨e, hr⟩ := numP_conv hq
      refine ⟨n, [], [], 0, 0, rfl, decide_eq_true (.inl ⟨h15, rfl, rfl, rfl, rfl⟩), ?_, hr, by decide, by decide⟩
      unfold textL
      rw [if_neg (by omega), if_neg (by omega), if_neg (by omega), e]
  rw [if_neg h15] at h ⊢
  by_cases h2 : k = 2
  · rw [if_pos h2] at h ⊢
    subst h2
    rcases hq : truthQ s with _ | n
    · simp only [hq] at h; exact absurd h (by decide)
    · obtain ⟨e, hr⟩ := truthQ_conv hq
      refine ⟨n, [], [], 0, 0, rfl, decide_eq_true (.inr (.inl ⟨rfl, hr, rfl, rfl, rfl, rfl⟩)), ?_, by omega, by decide, by decide⟩
      unfold textL
      rw [if_neg (by decide), if_neg (by decide), if_neg (by decide), e]
  rw [if_neg h2] at h ⊢
  by_cases h3 : k = 3
  · rw [if_pos h3] at h ⊢
    subst h3
    by_cases he : textE s = 0
    · rw [if_pos he]
      refine ⟨0, s, [], 0, 0, rfl, ?_, by unfold textL; rw [if_pos rfl], by decide, by decide, by decide⟩
      unfold textE at he
      split at he
      · cases he
      · rename_i hl
        split at he
        · rename_i hok
          exact decide_eq_true (.inr (.inr (.inl ⟨rfl, rfl, by omega, hok, rfl, rfl, rfl⟩)))
        · cases he
    · rw [if_neg he] at h; exact absurd h he
  rw [if_neg h3] at h ⊢
  by_cases h4 : k = 4
  · rw [if_pos h4] at h ⊢
    subst h4
    by_cases he : (unQ s).2 = 0
    · rw [if_pos he]
      obtain ⟨e, hl⟩ := un_conv s (unQ s).1 (Prod.ext rfl he)
      refine ⟨0, [], (unQ s).1, 0, 0, rfl, decide_eq_true (.inr (.inr (.inr (.inl ⟨rfl, rfl, rfl, hl, rfl, rfl⟩)))), ?_, by decide, by decide, by decide⟩
      unfold textL
      rw [if_neg (by decide), if_pos rfl]
      exact e.symm
    · rw [if_neg he] at h; exact absurd h he
  rw [if_neg h4] at h ⊢
  by_cases h6 : k = 6
  · rw [if_pos h6] at h ⊢
    subst h6
    rcases hq : linkQ s with _ | ⟨a, b⟩
    · simp only [hq] at h; exact absurd h (by decide)
    · obtain ⟨e, ha, hb⟩ := linkQ_conv hq
      refine ⟨0, [], [], a, b, rfl, decide_eq_true (.inr (.inr (.inr (.inr ⟨rfl, rfl, rfl, rfl, ha.1, ha.2, hb.1, hb.2⟩)))), ?_, by decide, ha, hb⟩
      unfold textL
      rw [if_neg (by decide), if_neg (by decide), if_pos rfl, e]
  rw [if_neg h6] at h
  exact absurd h (by decide)
theorem read_none (k : Int) (s : List UInt8) (h : ¬ (readQ k s).er = 0) : readQ k s = noV (readQ k s).er := by
  unfold readQ at h ⊢
  by_cases h15 : k = 1 ∨ k = 5
  · rw [if_pos h15] at h ⊢
    rcases hq : numP s with _ | n
    · rfl
    · simp only [hq] at h; exact absurd trivial h
  rw [if_neg h15] at h ⊢
  by_cases h2 : k = 2
  · rw [if_pos h2] at h ⊢
    rcases hq : truthQ s with _ | n
    · rfl
    · simp only [hq] at h; exact absurd trivial h
  rw [if_neg h2] at h ⊢
  by_cases h3 : k = 3
  · rw [if_pos h3] at h ⊢
    by_cases he : textE s = 0
    · rw [if_pos he] at h; exact absurd rfl h
    · rw [if_neg he]; rfl
  rw [if_neg h3] at h ⊢
  by_cases h4 : k = 4
  · rw [if_pos h4] at h ⊢
    by_cases he : (unQ s).2 = 0
    · rw [if_pos he] at h; exact absurd rfl h
    · rw [if_neg he]; rfl
  rw [if_neg h4] at h ⊢
  by_cases h6 : k = 6
  · rw [if_pos h6] at h ⊢
    rcases hq : linkQ s with _ | ⟨a, b⟩
    · rfl
    · simp only [hq] at h; exact absurd trivial h
  rw [if_neg h6]
  rfl
theorem right_small {k n : Int} {sl ok bl : Nat} {o i : Int} (h : rightB k n sl ok bl o i = true) : sl ≤ 200 ∧ bl ≤ 200 ∧ txtE k n sl ok bl o i = 0 := by
  have h2 : _ := h
  unfold rightB at h2
  have h2 := of_decide_eq_true h2
  refine ⟨by omega, by omega, ?_⟩
  unfold txtE
  rw [if_neg (by omega), if_pos h]
end Go.Proofs.YthnbcilpallhjaaDoor
