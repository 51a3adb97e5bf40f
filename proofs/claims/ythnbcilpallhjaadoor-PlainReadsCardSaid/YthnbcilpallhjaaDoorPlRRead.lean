/-
  The document's Read.
-/
import Derived.Test.YthnbcilpallhjaaDoorPlReadAll
import Derived.Test.YthnbcilpallhjaaDoorPlRUn
import Derived.Test.YthnbcilpallhjaaDoorPlNumEq
namespace Go.Proofs.YthnbcilpallhjaaDoor
open Go.RowKit
set_option maxRecDepth 100000
set_option linter.unusedVariables false
theorem numEnd_none : numEnd none = .returned (.tuple #[.int .i64 0, .bool false]) := rfl
theorem numEnd_some (n : Int) : numEnd (some n) = .returned (.tuple #[.int .i64 n, .bool true]) := rfl
theorem rnum_b (s : ByteArray) (hs : s.size ≤ 1000000) (W : World) : Calls Tryd.prog 42 #[.string s] W fun e w' => e = numEnd (numP s.data.toList) ∧ Below W.heap.size W w' :=
  (rnumber_f s W hs).mono fun e w' h => ⟨by rw [← numQ_eq]; exact h.1, by obtain ⟨m, hm⟩ := h.2; rw [hm]; exact drewN_below W _ m⟩
theorem truth_num (l : List UInt8) : truthQ l = match numP l with | some n => if n = 0 ∨ n = 1 then some n else none | none => none := by
  have back : ∀ m, truthQ l = some m → numP l = some m ∧ (m = 0 ∨ m = 1) := fun m h => by
    obtain ⟨e, hm⟩ := truthQ_conv h
    rw [← e]
    exact ⟨numP_itoa m (by omega) (by omega), hm⟩
  rcases ht : truthQ l with _ | m
  · rcases hp : numP l with _ | n
    · rfl
    · dsimp only
      by_cases h : n = 0 ∨ n = 1
      · exfalso
        obtain ⟨e, _⟩ := numP_conv hp
        have : truthQ l = some n := by
          rcases h with rfl | rfl
          · rw [itoa_z] at e; rw [← e]; rfl
          · rw [itoa_1] at e; rw [← e]; rfl
        rw [ht] at this
        cases this
      · rw [if_neg h]
  · obtain ⟨hp, hm⟩ := back m ht
    rw [hp]
    dsimp only
    rw [if_pos hm]
set_option maxHeartbeats 4000000 in
theorem rread_num1 (s : ByteArray) (hs : s.size ≤ 1000000) (w : World) :
    Calls Tryd.prog 10 #[.int .i64 1, .string s] w (match numP s.data.toList with | some n => RdRet 1 n [] [] 0 0 0 w | none => RdRet 0 0 [] [] 0 0 20 w) := by
  have hN := RdW.new_ w 1
  have hL := rnum_b s hs
  rcases hR : numP s.data.toList with _ | n
  · simp only [hR, numEnd_none] at hL
    have HL := Lib.hid (And.intro hL hN)
    clear hR hL hN
    go_enter Tryd.func10, Tryd.ntmps10
    go_wp2_with fail
    refine (HL.out.1 _).mono ?_
    rintro e w1 ⟨rfl, b1⟩
    have h1 := HL.out.2.below b1
    obtain ⟨q0, q1, q2, q3, q4, q5⟩ := six h1.r1
    have f1 := (h1.t1 1 (by omega)).2
    have H1 := Lib.hid h1
    clear h1 b1
    have g1 := H1.out.set 1 (by omega) rfl (.int .i64 0)
    have G := Lib.hid g1
    clear g1
    try dsimp only
    go_wp2_with (refine wpList_store_mid rfl 26 (.tmp 4) (.tmp 131) rfl w.heap.size 0 zv6.toArray rfl rfl G.out.t0 size_val6 (all_oneCell_toArray one6r) ?_)
    refine bodyPost_ret (results_cell_mid6 rfl _ _ w.heap.size 0 zv6 _ rfl (range_stored G.out.t0) Tryd.underlying26 rfl size_val6) rfl ?_
    exact RdRet.none_ (below_setCells G.out.bel (Nat.le_refl _) _ 0)
  · simp only [hR, numEnd_some] at hL
    have HL := Lib.hid (And.intro hL hN)
    clear hR hL hN
    go_enter Tryd.func10, Tryd.ntmps10
    go_wp2_with fail
    refine (HL.out.1 _).mono ?_
    rintro e w1 ⟨rfl, b1⟩
    have h1 := HL.out.2.below b1
    obtain ⟨q0, q1, q2, q3, q4, q5⟩ := six h1.r1
    have f1 := (h1.t1 1 (by omega)).2
    have H1 := Lib.hid h1
    clear h1 b1
    have g1 := H1.out.set 1 (by omega) rfl (.int .i64 n)
    have G := Lib.hid g1
    clear g1
    try dsimp only
    have hr := G.out.r1
    go_wp2_with (first | (refine wpList_load_mid rfl 26 (.tmp 6) rfl (w.heap.size + 1) 0 rfl [.int .i64 1, .int .i64 n, .string ⟨#[]⟩, .slice none 0 0, .int .i64 0, .int .i64 0] _ hr Tryd.underlying26 rfl size_val6 ?_) | (refine wpList_store_mid rfl 26 (.tmp 4) (.tmp 132) rfl w.heap.size 0 ([.int .i64 1, .int .i64 n, .string ⟨#[]⟩, .slice none 0 0, .int .i64 0, .int .i64 0] : List Value).toArray rfl rfl G.out.t0 size_val6 (all_oneCell_toArray one6r) ?_))
    refine bodyPost_ret (results_cell_mid6 rfl _ _ w.heap.size 0 [.int .i64 1, .int .i64 n, .string ⟨#[]⟩, .slice none 0 0, .int .i64 0, .int .i64 0] _ rfl (range_stored G.out.t0) Tryd.underlying26 rfl size_val6) rfl ?_
    exact ⟨⟨#[]⟩, none, 0, 0, rfl, rfl, Nat.le_refl _, rfl, Bs.empty _ _ _, (below_setCells G.out.bel (Nat.le_refl _) _ 0)⟩
set_option maxHeartbeats 4000000 in
theorem rread_num5 (s : ByteArray) (hs : s.size ≤ 1000000) (w : World) :
    Calls Tryd.prog 10 #[.int .i64 5, .string s] w (match numP s.data.toList with | some n => RdRet 5 n [] [] 0 0 0 w | none => RdRet 0 0 [] [] 0 0 20 w) := by
  have hN := RdW.new_ w 5
  have hL := rnum_b s hs
  rcases hR : numP s.data.toList with _ | n
  · simp only [hR, numEnd_none] at hL
    have HL := Lib.hid (And.intro hL hN)
    clear hR hL hN
    go_enter Tryd.func10, Tryd.ntmps10
    go_wp2_with fail
    refine (HL.out.1 _).mono ?_
    rintro e w1 ⟨rfl, b1⟩
    have h1 := HL.out.2.below b1
    obtain ⟨q0, q1, q2, q3, q4, q5⟩ := six h1.r1
    have f1 := (h1.t1 1 (by omega)).2
    have H1 := Lib.hid h1
    clear h1 b1
    have g1 := H1.out.set 1 (by omega) rfl (.int .i64 0)
    have G := Lib.hid g1
    clear g1
    try dsimp only
    go_wp2_with (refine wpList_store_mid rfl 26 (.tmp 4) (.tmp 131) rfl w.heap.size 0 zv6.toArray rfl rfl G.out.t0 size_val6 (all_oneCell_toArray one6r) ?_)
    refine bodyPost_ret (results_cell_mid6 rfl _ _ w.heap.size 0 zv6 _ rfl (range_stored G.out.t0) Tryd.underlying26 rfl size_val6) rfl ?_
    exact RdRet.none_ (below_setCells G.out.bel (Nat.le_refl _) _ 0)
  · simp only [hR, numEnd_some] at hL
    have HL := Lib.hid (And.intro hL hN)
    clear hR hL hN
    go_enter Tryd.func10, Tryd.ntmps10
    go_wp2_with fail
    refine (HL.out.1 _).mono ?_
    rintro e w1 ⟨rfl, b1⟩
    have h1 := HL.out.2.below b1
    obtain ⟨q0, q1, q2, q3, q4, q5⟩ := six h1.r1
    have f1 := (h1.t1 1 (by omega)).2
    have H1 := Lib.hid h1
    clear h1 b1
    have g1 := H1.out.set 1 (by omega) rfl (.int .i64 n)
    have G := Lib.hid g1
    clear g1
    try dsimp only
    have hr := G.out.r1
    go_wp2_with (first | (refine wpList_load_mid rfl 26 (.tmp 6) rfl (w.heap.size + 1) 0 rfl [.int .i64 5, .int .i64 n, .string ⟨#[]⟩, .slice none 0 0, .int .i64 0, .int .i64 0] _ hr Tryd.underlying26 rfl size_val6 ?_) | (refine wpList_store_mid rfl 26 (.tmp 4) (.tmp 132) rfl w.heap.size 0 ([.int .i64 5, .int .i64 n, .string ⟨#[]⟩, .slice none 0 0, .int .i64 0, .int .i64 0] : List Value).toArray rfl rfl G.out.t0 size_val6 (all_oneCell_toArray one6r) ?_))
    refine bodyPost_ret (results_cell_mid6 rfl _ _ w.heap.size 0 [.int .i64 5, .int .i64 n, .string ⟨#[]⟩, .slice none 0 0, .int .i64 0, .int .i64 0] _ rfl (range_stored G.out.t0) Tryd.underlying26 rfl size_val6) rfl ?_
    exact ⟨⟨#[]⟩, none, 0, 0, rfl, rfl, Nat.le_refl _, rfl, Bs.empty _ _ _, (below_setCells G.out.bel (Nat.le_refl _) _ 0)⟩
set_option maxHeartbeats 4000000 in
theorem rread_bool (s : ByteArray) (hs : s.size ≤ 1000000) (w : World) :
    Calls Tryd.prog 10 #[.int .i64 2, .string s] w (match truthQ s.data.toList with | some n => RdRet 2 n [] [] 0 0 0 w | none => RdRet 0 0 [] [] 0 0 20 w) := by
  have hN := RdW.new_ w 2
  have hL := rnum_b s hs
  rw [truth_num]
  rcases hR : numP s.data.toList with _ | n
  · simp only [hR, numEnd_none] at hL ⊢
    have HL := Lib.hid (And.intro hL hN)
    clear hR hL hN
    go_enter Tryd.func10, Tryd.ntmps10
    go_wp2_with fail
    refine (HL.out.1 _).mono ?_
    rintro e w1 ⟨rfl, b1⟩
    have h1 := HL.out.2.below b1
    obtain ⟨q0, q1, q2, q3, q4, q5⟩ := six h1.r1
    have f1 := (h1.t1 1 (by omega)).2
    have H1 := Lib.hid h1
    clear h1 b1
    have g1 := H1.out.set 1 (by omega) rfl (.int .i64 0)
    have G := Lib.hid g1
    clear g1
    try dsimp only
    go_wp2_with (refine wpList_store_mid rfl 26 (.tmp 4) (.tmp 131) rfl w.heap.size 0 zv6.toArray rfl rfl G.out.t0 size_val6 (all_oneCell_toArray one6r) ?_)
    refine bodyPost_ret (results_cell_mid6 rfl _ _ w.heap.size 0 zv6 _ rfl (range_stored G.out.t0) Tryd.underlying26 rfl size_val6) rfl ?_
    exact RdRet.none_ (below_setCells G.out.bel (Nat.le_refl _) _ 0)
  · simp only [hR, numEnd_some] at hL ⊢
    have HL := Lib.hid (And.intro hL hN)
    clear hR hL hN
    by_cases h0 : n = 0
    · subst h0
      rw [if_pos (.inl rfl)]
      go_enter Tryd.func10, Tryd.ntmps10
      go_wp2_with fail
      refine (HL.out.1 _).mono ?_
      rintro e w1 ⟨rfl, b1⟩
      have h1 := HL.out.2.below b1
      obtain ⟨q0, q1, q2, q3, q4, q5⟩ := six h1.r1
      have f1 := (h1.t1 1 (by omega)).2
      have H1 := Lib.hid h1
      clear h1 b1
      have g1 := H1.out.set 1 (by omega) rfl (.int .i64 0)
      have G := Lib.hid g1
      clear g1
      try dsimp only
      have hr := G.out.r1
      go_wp2_with (first | (refine wpList_load_mid rfl 26 (.tmp 6) rfl (w.heap.size + 1) 0 rfl [.int .i64 2, .int .i64 0, .string ⟨#[]⟩, .slice none 0 0, .int .i64 0, .int .i64 0] _ hr Tryd.underlying26 rfl size_val6 ?_) | (refine wpList_store_mid rfl 26 (.tmp 4) (.tmp 132) rfl w.heap.size 0 ([.int .i64 2, .int .i64 0, .string ⟨#[]⟩, .slice none 0 0, .int .i64 0, .int .i64 0] : List Value).toArray rfl rfl G.out.t0 size_val6 (all_oneCell_toArray one6r) ?_))
      refine bodyPost_ret (results_cell_mid6 rfl _ _ w.heap.size 0 [.int .i64 2, .int .i64 0, .string ⟨#[]⟩, .slice none 0 0, .int .i64 0, .int .i64 0] _ rfl (range_stored G.out.t0) Tryd.underlying26 rfl size_val6) rfl ?_
      exact ⟨⟨#[]⟩, none, 0, 0, rfl, rfl, Nat.le_refl _, rfl, Bs.empty _ _ _, (below_setCells G.out.bel (Nat.le_refl _) _ 0)⟩
    by_cases h1 : n = 1
    · subst h1
      rw [if_pos (.inr rfl)]
      go_enter Tryd.func10, Tryd.ntmps10
      go_wp2_with fail
      refine (HL.out.1 _).mono ?_
      rintro e w1 ⟨rfl, b1⟩
      have h1 := HL.out.2.below b1
      obtain ⟨q0, q1, q2, q3, q4, q5⟩ := six h1.r1
      have f1 := (h1.t1 1 (by omega)).2
      have H1 := Lib.hid h1
      clear h1 b1
      have g1 := H1.out.set 1 (by omega) rfl (.int .i64 1)
      have G := Lib.hid g1
      clear g1
      try dsimp only
      have hr := G.out.r1
      go_wp2_with (first | (refine wpList_load_mid rfl 26 (.tmp 6) rfl (w.heap.size + 1) 0 rfl [.int .i64 2, .int .i64 1, .string ⟨#[]⟩, .slice none 0 0, .int .i64 0, .int .i64 0] _ hr Tryd.underlying26 rfl size_val6 ?_) | (refine wpList_store_mid rfl 26 (.tmp 4) (.tmp 132) rfl w.heap.size 0 ([.int .i64 2, .int .i64 1, .string ⟨#[]⟩, .slice none 0 0, .int .i64 0, .int .i64 0] : List Value).toArray rfl rfl G.out.t0 size_val6 (all_oneCell_toArray one6r) ?_))
      refine bodyPost_ret (results_cell_mid6 rfl _ _ w.heap.size 0 [.int .i64 2, .int .i64 1, .string ⟨#[]⟩, .slice none 0 0, .int .i64 0, .int .i64 0] _ rfl (range_stored G.out.t0) Tryd.underlying26 rfl size_val6) rfl ?_
      exact ⟨⟨#[]⟩, none, 0, 0, rfl, rfl, Nat.le_refl _, rfl, Bs.empty _ _ _, (below_setCells G.out.bel (Nat.le_refl _) _ 0)⟩
    rw [if_neg (by omega)]
    have e0 : (n == 0) = false := beq_eq_false_iff_ne.2 h0
    have e1 : (n == 1) = false := beq_eq_false_iff_ne.2 h1
    go_enter Tryd.func10, Tryd.ntmps10
    go_wp2_with fail
    refine (HL.out.1 _).mono ?_
    rintro e w1 ⟨rfl, b1⟩
    have h1 := HL.out.2.below b1
    obtain ⟨q0, q1, q2, q3, q4, q5⟩ := six h1.r1
    have f1 := (h1.t1 1 (by omega)).2
    have H1 := Lib.hid h1
    clear h1 b1
    have g1 := H1.out.set 1 (by omega) rfl (.int .i64 n)
    have G := Lib.hid g1
    clear g1
    try dsimp only
    go_wp2_with (refine wpList_store_mid rfl 26 (.tmp 4) (.tmp 131) rfl w.heap.size 0 zv6.toArray rfl rfl G.out.t0 size_val6 (all_oneCell_toArray one6r) ?_)
    refine bodyPost_ret (results_cell_mid6 rfl _ _ w.heap.size 0 zv6 _ rfl (range_stored G.out.t0) Tryd.underlying26 rfl size_val6) rfl ?_
    exact RdRet.none_ (below_setCells G.out.bel (Nat.le_refl _) _ 0)
theorem okN_end (o : Option Nat) : ∃ a b, runesEnd o = .returned (.tuple #[.int .i64 a, .bool b]) ∧ (b = true ↔ okN o = 1) := by
  cases o with
  | none => exact ⟨0, false, rfl, by decide⟩
  | some n => exact ⟨n, true, rfl, by simp [okN]⟩
set_option maxHeartbeats 4000000 in
theorem rread_text (s : ByteArray) (hs : s.size ≤ 1000000) (w : World) :
    Calls Tryd.prog 10 #[.int .i64 3, .string s] w (if textE s.data.toList = 0 then RdRet 3 0 s.data.toList [] 0 0 0 w else RdRet 0 0 [] [] 0 0 (textE s.data.toList) w) := by
  have hN := RdW.new_ w 3
  have hsl : s.data.toList.length = s.size := Array.length_toList
  have hL : ∀ W, Calls Tryd.prog 43 #[.string s] W fun e w' => e = runesEnd (runesQ s.data.toList) ∧ Below W.heap.size W w' := fun W => (rrunes_f s W hs).mono fun e w' h => ⟨h.1, by obtain ⟨m, hm⟩ := h.2; rw [hm]; exact drewN_below W _ m⟩
  obtain ⟨er, her⟩ : ∃ er, textE s.data.toList = er := ⟨_, rfl⟩
  rw [her]
  unfold textE at her
  rw [hsl] at her
  by_cases h2 : 200 < s.size
  · rw [if_pos h2] at her
    subst her
    rw [if_neg (by decide)]
    have h2I : (200 : Int) < s.size := by omega
    have G := Lib.hid hN
    clear hN hL hsl h2
    go_enter Tryd.func10, Tryd.ntmps10
    go_wp2_with (refine wpList_store_mid rfl 26 (.tmp 4) (.tmp 47) rfl w.heap.size 0 zv6.toArray rfl rfl G.out.t0 size_val6 (all_oneCell_toArray one6r) ?_)
    refine bodyPost_ret (results_cell_mid6 rfl _ _ w.heap.size 0 zv6 _ rfl (range_stored G.out.t0) Tryd.underlying26 rfl size_val6) rfl ?_
    exact RdRet.none_ (below_setCells G.out.bel (Nat.le_refl _) _ 0)
  rw [if_neg h2] at her
  have h2I : ¬ (200 : Int) < s.size := by omega
  obtain ⟨a, b, hab, hb⟩ := okN_end (runesQ s.data.toList)
  rw [hab] at hL
  have HL := Lib.hid (And.intro hL hN)
  clear hL hN hab hsl h2
  cases b with
  | true =>
    rw [if_pos (hb.1 rfl)] at her
    subst her
    rw [if_pos rfl]
    clear hb
    go_enter Tryd.func10, Tryd.ntmps10
    go_wp2_with fail
    refine (HL.out.1 _).mono ?_
    rintro e w1 ⟨rfl, b1⟩
    have h1 := HL.out.2.below b1
    obtain ⟨q0, q1, q2, q3, q4, q5⟩ := six h1.r1
    have f2 := (h1.t1 2 (by omega)).2
    have H1 := Lib.hid h1
    clear h1 b1
    have g1 := H1.out.set 2 (by omega) rfl (.string s)
    have G := Lib.hid g1
    clear g1
    try dsimp only
    have hr := G.out.r1
    go_wp2_with (first | (refine wpList_load_mid rfl 26 (.tmp 6) rfl (w.heap.size + 1) 0 rfl [.int .i64 3, .int .i64 0, .string s, .slice none 0 0, .int .i64 0, .int .i64 0] _ hr Tryd.underlying26 rfl size_val6 ?_) | (refine wpList_store_mid rfl 26 (.tmp 4) (.tmp 132) rfl w.heap.size 0 ([.int .i64 3, .int .i64 0, .string s, .slice none 0 0, .int .i64 0, .int .i64 0] : List Value).toArray rfl rfl G.out.t0 size_val6 (all_oneCell_toArray one6r) ?_))
    refine bodyPost_ret (results_cell_mid6 rfl _ _ w.heap.size 0 [.int .i64 3, .int .i64 0, .string s, .slice none 0 0, .int .i64 0, .int .i64 0] _ rfl (range_stored G.out.t0) Tryd.underlying26 rfl size_val6) rfl ?_
    exact ⟨s, none, 0, 0, rfl, rfl, Nat.le_refl _, rfl, Bs.empty _ _ _, (below_setCells G.out.bel (Nat.le_refl _) _ 0)⟩
  | false =>
    rw [if_neg (fun e => by have := hb.2 e; cases this)] at her
    subst her
    rw [if_neg (by decide)]
    clear hb
    go_enter Tryd.func10, Tryd.ntmps10
    go_wp2_with fail
    refine (HL.out.1 _).mono ?_
    rintro e w1 ⟨rfl, b1⟩
    have h1 := HL.out.2.below b1
    obtain ⟨q0, q1, q2, q3, q4, q5⟩ := six h1.r1
    have f2 := (h1.t1 2 (by omega)).2
    have H1 := Lib.hid h1
    clear h1 b1
    have g1 := H1.out.set 2 (by omega) rfl (.string s)
    have G := Lib.hid g1
    clear g1
    try dsimp only
    go_wp2_with (refine wpList_store_mid rfl 26 (.tmp 4) (.tmp 131) rfl w.heap.size 0 zv6.toArray rfl rfl G.out.t0 size_val6 (all_oneCell_toArray one6r) ?_)
    refine bodyPost_ret (results_cell_mid6 rfl _ _ w.heap.size 0 zv6 _ rfl (range_stored G.out.t0) Tryd.underlying26 rfl size_val6) rfl ?_
    exact RdRet.none_ (below_setCells G.out.bel (Nat.le_refl _) _ 0)
set_option maxHeartbeats 4000000 in
theorem rread_bytes (s : ByteArray) (hs : s.size ≤ 100000) (w : World) :
    Calls Tryd.prog 10 #[.int .i64 4, .string s] w (if (unQ s.data.toList).2 = 0 then RdRet 4 0 [] (unQ s.data.toList).1 0 0 0 w else RdRet 0 0 [] [] 0 0 (unQ s.data.toList).2 w) := by
  have hN := RdW.new_ w 4
  have hL := runb_f s hs
  obtain ⟨U, hU⟩ : ∃ U, unQ s.data.toList = U := ⟨_, rfl⟩
  rw [hU]
  rw [un_ru] at hU
  rcases hR : ruQ s.data.toList with _ | l
  · rw [hR] at hL hU
    subst hU
    rw [if_neg (by decide)]
    have HL := Lib.hid (And.intro hL hN)
    clear hR hL hN
    go_enter Tryd.func10, Tryd.ntmps10
    go_wp2_with fail
    refine (HL.out.1 _).mono ?_
    rintro e w1 ⟨rfl, b1⟩
    have h1 := HL.out.2.below b1
    obtain ⟨q0, q1, q2, q3, q4, q5⟩ := six h1.r1
    have f3 := (h1.t1 3 (by omega)).2
    have H1 := Lib.hid h1
    clear h1 b1
    have g1 := H1.out.set 3 (by omega) rfl (.slice none 0 0)
    have G := Lib.hid g1
    clear g1
    try dsimp only
    go_wp2_with (refine wpList_store_mid rfl 26 (.tmp 4) (.tmp 131) rfl w.heap.size 0 zv6.toArray rfl rfl G.out.t0 size_val6 (all_oneCell_toArray one6r) ?_)
    refine bodyPost_ret (results_cell_mid6 rfl _ _ w.heap.size 0 zv6 _ rfl (range_stored G.out.t0) Tryd.underlying26 rfl size_val6) rfl ?_
    exact RdRet.none_ (below_setCells G.out.bel (Nat.le_refl _) _ 0)
  · rw [hR] at hL hU
    dsimp only at hU
    have HL := Lib.hid (And.intro hL hN)
    clear hR hL hN
    by_cases h2 : 200 < l.length
    · rw [if_pos h2] at hU
      subst hU
      rw [if_neg (by decide)]
      go_enter Tryd.func10, Tryd.ntmps10
      go_wp2_with fail
      refine (HL.out.1 _).mono ?_
      rintro e w1 ⟨A, m, c, rfl, hmc, hml, hbs, b1, hfr⟩
      have h2I : (200 : Int) < m := by omega
      clear hmc hml hbs hfr h2
      have h1 := HL.out.2.below b1
      obtain ⟨q0, q1, q2, q3, q4, q5⟩ := six h1.r1
      have f3 := (h1.t1 3 (by omega)).2
      have H1 := Lib.hid h1
      clear h1 b1
      have g1 := H1.out.set 3 (by omega) rfl (.slice A m c)
      have G := Lib.hid g1
      clear g1
      try dsimp only
      go_wp2_with (refine wpList_store_mid rfl 26 (.tmp 4) (.tmp 70) rfl w.heap.size 0 zv6.toArray rfl rfl G.out.t0 size_val6 (all_oneCell_toArray one6r) ?_)
      refine bodyPost_ret (results_cell_mid6 rfl _ _ w.heap.size 0 zv6 _ rfl (range_stored G.out.t0) Tryd.underlying26 rfl size_val6) rfl ?_
      exact RdRet.none_ (below_setCells G.out.bel (Nat.le_refl _) _ 0)
    · rw [if_neg h2] at hU
      subst hU
      rw [if_pos rfl]
      go_enter Tryd.func10, Tryd.ntmps10
      go_wp2_with fail
      refine (HL.out.1 _).mono ?_
      rintro e w1 ⟨A, m, c, rfl, hmc, hml, hbs, b1, hfr⟩
      have h2I : ¬ (200 : Int) < m := by omega
      have HB := Lib.hid (And.intro hbs (And.intro hmc (And.intro hml hfr)))
      clear hmc hml hbs hfr h2
      have h1 := HL.out.2.below b1
      obtain ⟨q0, q1, q2, q3, q4, q5⟩ := six h1.r1
      have f3 := (h1.t1 3 (by omega)).2
      have H1 := Lib.hid h1
      clear h1 b1
      have g1 := H1.out.set 3 (by omega) rfl (.slice A m c)
      have G := Lib.hid g1
      clear g1
      try dsimp only
      have hr := G.out.r1
      go_wp2_with (first | (refine wpList_load_mid rfl 26 (.tmp 6) rfl (w.heap.size + 1) 0 rfl [.int .i64 4, .int .i64 0, .string ⟨#[]⟩, .slice A m c, .int .i64 0, .int .i64 0] _ hr Tryd.underlying26 rfl size_val6 ?_) | (refine wpList_store_mid rfl 26 (.tmp 4) (.tmp 132) rfl w.heap.size 0 ([.int .i64 4, .int .i64 0, .string ⟨#[]⟩, .slice A m c, .int .i64 0, .int .i64 0] : List Value).toArray rfl rfl G.out.t0 size_val6 (all_oneCell_toArray one6r) ?_))
      refine bodyPost_ret (results_cell_mid6 rfl _ _ w.heap.size 0 [.int .i64 4, .int .i64 0, .string ⟨#[]⟩, .slice A m c, .int .i64 0, .int .i64 0] _ rfl (range_stored G.out.t0) Tryd.underlying26 rfl size_val6) rfl ?_
      exact ⟨⟨#[]⟩, A, m, c, rfl, rfl, HB.out.2.1, HB.out.2.2.1, bs_off HB.out.1 (fun ad e => by have := HB.out.2.2.2 ad e; rw [alloc_size, alloc_size] at this; omega), (below_setCells G.out.bel (Nat.le_refl _) _ 0)⟩
set_option maxHeartbeats 4000000 in
theorem rread_kind (k : Int) (hk : k < 1 ∨ 6 < k) (s : ByteArray) (w : World) :
    Calls Tryd.prog 10 #[.int .i64 k, .string s] w (RdRet 0 0 [] [] 0 0 70 w) := by
  have hN := RdW.new_ w k
  have k1 : ¬ k = 1 := by omega
  have k2 : ¬ k = 2 := by omega
  have k3 : ¬ k = 3 := by omega
  have k4 : ¬ k = 4 := by omega
  have k5 : ¬ k = 5 := by omega
  have k6 : ¬ k = 6 := by omega
  have G := Lib.hid hN
  clear hN hk
  go_enter Tryd.func10, Tryd.ntmps10
  go_wp2_with (refine wpList_store_mid rfl 26 (.tmp 4) (.tmp 16) rfl w.heap.size 0 zv6.toArray rfl rfl G.out.t0 size_val6 (all_oneCell_toArray one6r) ?_)
  refine bodyPost_ret (results_cell_mid6 rfl _ _ w.heap.size 0 zv6 _ rfl (range_stored G.out.t0) Tryd.underlying26 rfl size_val6) rfl ?_
  exact RdRet.none_ (below_setCells G.out.bel (Nat.le_refl _) _ 0)
theorem idx_spec (c : UInt8) : ∀ l : List UInt8, (Lib.indexByte l c = -1 ∧ ∀ (j : Nat) u, l[j]? = some u → u ≠ c) ∨ ∃ k : Nat, Lib.indexByte l c = k ∧ l[k]? = some c ∧ ∀ (j : Nat) u, j < k → l[j]? = some u → u ≠ c
  | [] => .inl ⟨rfl, fun j u h => by simp at h⟩
  | x :: l => by
    unfold Lib.indexByte
    by_cases hx : (x == c) = true
    · right
      obtain rfl := beq_iff_eq.1 hx
      rw [if_pos hx]
      exact ⟨0, rfl, rfl, fun j u h => absurd h (by omega)⟩
    · have hxn : x ≠ c := fun e => hx (beq_iff_eq.2 e)
      rw [if_neg hx]
      rcases idx_spec c l with ⟨h, hn⟩ | ⟨k, h, hk, hn⟩
      · left
        rw [h]
        refine ⟨rfl, fun j u hj => ?_⟩
        cases j with
        | zero => rw [List.getElem?_cons_zero] at hj; obtain rfl := Option.some.inj hj; exact hxn
        | succ j => rw [List.getElem?_cons_succ] at hj; exact hn j u hj
      · right
        refine ⟨k + 1, ?_, by rw [List.getElem?_cons_succ]; exact hk, fun j u hl hj => ?_⟩
        · rw [h, if_neg (by first | (simp; done) | (simp; omega))]; omega
        · cases j with
          | zero => rw [List.getElem?_cons_zero] at hj; obtain rfl := Option.some.inj hj; exact hxn
          | succ j => rw [List.getElem?_cons_succ] at hj; exact hn j u (by omega) hj
theorem str_at {s : ByteArray} {k : Nat} {u : UInt8} (hk : k < s.size) (h : s.data.toList[k]? = some u) : s[k]'hk = u := by
  have h1 : s.data.toList[k]? = some (s[k]'hk) := by rw [Array.getElem?_toList, Array.getElem?_eq_getElem hk]; rfl
  rw [h1] at h
  exact Option.some.inj h
set_option maxHeartbeats 8000000 in
theorem rread_link0 (s : ByteArray) (hs : s.size ≤ 100000) (w : World) (hno : ∀ (j : Nat) u, s.data.toList[j]? = some u → u ≠ 58) :
    Calls Tryd.prog 10 #[.int .i64 6, .string s] w (RdRet 0 0 [] [] 0 0 20 w) := by
  have hN := RdW.new_ w 6
  have hsl : s.data.toList.length = s.size := Array.length_toList
  have HN := Lib.hid (And.intro hN (And.intro hno hsl))
  have hsI : (s.size : Int) ≤ 100000 := by omega
  clear hN hno hsl
  go_enter Tryd.func10, Tryd.ntmps10
  go_wp2
  go_loopw [7, 8] (fun v7 v8 wr => ∃ k : Nat, k ≤ s.size ∧ v8 = .int .i64 (k : Int) ∧ v7 = .bool false ∧ Aside (RdW w wr [.int .i64 6, .int .i64 0, .string ⟨#[]⟩, .slice none 0 0, .int .i64 0, .int .i64 0])) (fun _ v8 _ => s.size - (intOf v8).toNat)
  case atStart => exact ⟨0, Nat.zero_le _, rfl, rfl, HN.out.1⟩
  case round =>
    obtain ⟨k, hk, rfl, rfl, hrel⟩ := hrel
    have G := Lib.hid hrel.out
    clear hrel
    by_cases hlt : k < s.size
    · have hltI : (k : Int) < s.size := by omega
      obtain ⟨u, hu⟩ : ∃ u, s.data.toList[k]? = some u := ⟨_, List.getElem?_eq_getElem (by rw [HN.out.2.2]; exact hlt)⟩
      have hne := HN.out.2.1 k u hu
      have hsu := str_at hlt hu
      have h58 : ((u.toNat : Int) == 58) = false := beq_eq_false_iff_ne.2 (fun e => hne (UInt8.toNat_inj.1 (by show u.toNat = 58; omega)))
      have h58n : ¬ (u.toNat : Int) = 58 := fun e => hne (UInt8.toNat_inj.1 (by show u.toNat = 58; omega))
      obtain ⟨un, hun⟩ : ∃ un, u.toNat = un := ⟨_, rfl⟩
      rw [hun] at h58 h58n
      have hsn : (s[k]'hlt).toNat = un := by rw [hsu]; exact hun
      clear hu hne hsu hun
      go_wp2
      go_roundw
      case rel => exact ⟨k + 1, by omega, by go_num, rfl, G.out⟩
      case measure => simp [intOf]; omega
    · have hltI : ¬ (k : Int) < s.size := by omega
      go_wp2_with (refine wpList_store_mid rfl 26 (.tmp 4) (.tmp 131) rfl w.heap.size 0 zv6.toArray rfl rfl G.out.t0 size_val6 (all_oneCell_toArray one6r) ?_)
      refine bodyPost_ret (results_cell_mid6 rfl _ _ w.heap.size 0 zv6 _ rfl (range_stored G.out.t0) Tryd.underlying26 rfl size_val6) rfl ?_
      exact RdRet.none_ (below_setCells G.out.bel (Nat.le_refl _) _ 0)
/-- What stands where a link's text is read: ahead of the sign, or behind both numbers. -/
def LkAt (w : World) (p : Nat) (o i : Int) (k : Nat) (v7 : Value) (W : World) : Prop :=
  (k ≤ p ∧ v7 = .bool false ∧ RdW w W [.int .i64 6, .int .i64 0, .string ⟨#[]⟩, .slice none 0 0, .int .i64 0, .int .i64 0]) ∨ (k = p + 1 ∧ v7 = .bool true ∧ RdW w W [.int .i64 6, .int .i64 0, .string ⟨#[]⟩, .slice none 0 0, .int .i64 o, .int .i64 i])
theorem RdW.rest {w W W' : World} {vs : List Value} (h : RdW w W vs) (hb : Below W.heap.size W W') : RdW w W' vs := h.below hb
set_option maxHeartbeats 8000000 in
theorem rread_lk1 (s : ByteArray) (hs : s.size ≤ 100000) (w : World) (p : Nat) (hpc : s.data.toList[p]? = some 58) (hlow : ∀ (j : Nat) u, j < p → s.data.toList[j]? = some u → u ≠ 58) (hx : numP (s.data.toList.take p) = none) :
    Calls Tryd.prog 10 #[.int .i64 6, .string s] w (RdRet 0 0 [] [] 0 0 20 w) := by
  have hN := RdW.new_ w 6
  have hsl : s.data.toList.length = s.size := Array.length_toList
  have hp : p < s.size := by rw [← hsl]; exact (List.getElem?_eq_some_iff.1 hpc).1
  have HN := Lib.hid (And.intro hN (And.intro hpc (And.intro hlow hsl)))
  have hsI : (s.size : Int) ≤ 100000 := by omega
  have hpI : (p : Int) < s.size := by omega
  have e1 : (s.extract 0 p).data.toList = s.data.toList.take p := by simp [ByteArray.data_extract, Array.toList_extract]
  have e2 : (s.extract (p + 1) s.size).data.toList = s.data.toList.drop (p + 1) := Lib.ext_list s (p + 1)
  have z1 : (s.extract 0 p).size ≤ 1000000 := by rw [← size_list, e1, List.length_take]; omega
  have z2 : (s.extract (p + 1) s.size).size ≤ 1000000 := by rw [← size_list, e2, List.length_drop]; omega
  have c1 := rnum_b (s.extract 0 p) z1
  have c2 := rnum_b (s.extract (p + 1) s.size) z2
  rw [e1] at c1
  rw [e2] at c2
  rw [hx, numEnd_none] at c1
  obtain ⟨yv, yb, hy⟩ : ∃ yv yb, numEnd (numP (s.data.toList.drop (p + 1))) = .returned (.tuple #[.int .i64 yv, .bool yb]) := by cases numP (s.data.toList.drop (p + 1)) <;> exact ⟨_, _, rfl⟩
  rw [hy] at c2
  clear hx hy
  have HA := Lib.hid (And.intro c1 c2)
  clear hN hlow hsl hpc e1 e2 z1 z2 c1 c2
  go_enter Tryd.func10, Tryd.ntmps10
  go_wp2
  go_loopw [7, 8] (fun v7 v8 wr => ∃ k : Nat, k ≤ p ∧ v8 = .int .i64 (k : Int) ∧ v7 = .bool false ∧ Aside (RdW w wr [.int .i64 6, .int .i64 0, .string ⟨#[]⟩, .slice none 0 0, .int .i64 0, .int .i64 0])) (fun _ v8 _ => s.size - (intOf v8).toNat)
  case atStart => exact ⟨0, Nat.zero_le _, rfl, rfl, HN.out.1⟩
  case round =>
    obtain ⟨k, hk, rfl, rfl, hrel⟩ := hrel
    have G := Lib.hid hrel.out
    clear hrel
    by_cases hlt : k < p
    · have hltI : (k : Int) < s.size := by omega
      have hks : k < s.size := by omega
      obtain ⟨u, hu⟩ : ∃ u, s.data.toList[k]? = some u := ⟨_, List.getElem?_eq_getElem (by rw [HN.out.2.2.2]; exact hks)⟩
      have hne := HN.out.2.2.1 k u hlt hu
      have hsu := str_at hks hu
      have h58 : ((u.toNat : Int) == 58) = false := beq_eq_false_iff_ne.2 (fun e => hne (UInt8.toNat_inj.1 (by show u.toNat = 58; omega)))
      have h58n : ¬ (u.toNat : Int) = 58 := fun e => hne (UInt8.toNat_inj.1 (by show u.toNat = 58; omega))
      obtain ⟨un, hun⟩ : ∃ un, u.toNat = un := ⟨_, rfl⟩
      rw [hun] at h58 h58n
      have hsn : (s[k]'hks).toNat = un := by rw [hsu]; exact hun
      clear hu hne hsu hun
      go_wp2
      go_roundw
      case rel => exact ⟨k + 1, by omega, by go_num, rfl, G.out⟩
      case measure => simp [intOf]; omega
    · obtain rfl : k = p := by omega
      have hltI : (k : Int) < s.size := by omega
      have hsn : (s[k]'hp).toNat = 58 := by rw [str_at hp HN.out.2.1]; rfl
      have h58 : ((58 : Int) == 58) = true := rfl
      clear hlt
      go_wp2_with fail
      refine (HA.out.1 _).mono ?_
      rintro e w1 ⟨rfl, b1⟩
      have g1 := G.out.below b1
      have G1 := Lib.hid g1
      clear g1 b1
      try dsimp only
      go_wp2_with fail
      refine (HA.out.2 _).mono ?_
      rintro e w2 ⟨rfl, b2⟩
      have g2 := G1.out.below b2
      have G := Lib.hid g2
      clear g2 b2
      try dsimp only
      go_wp2_with (refine wpList_store_mid rfl 26 (.tmp 4) (.tmp 124) rfl w.heap.size 0 zv6.toArray rfl rfl G.out.t0 size_val6 (all_oneCell_toArray one6r) ?_)
      refine bodyPost_ret (results_cell_mid6 rfl _ _ w.heap.size 0 zv6 _ rfl (range_stored G.out.t0) Tryd.underlying26 rfl size_val6) rfl ?_
      exact RdRet.none_ (below_setCells G.out.bel (Nat.le_refl _) _ 0)
set_option maxHeartbeats 8000000 in
theorem rread_lk2 (s : ByteArray) (hs : s.size ≤ 100000) (w : World) (p : Nat) (hpc : s.data.toList[p]? = some 58) (hlow : ∀ (j : Nat) u, j < p → s.data.toList[j]? = some u → u ≠ 58) (a : Int) (hx : numP (s.data.toList.take p) = some a) (hy : numP (s.data.toList.drop (p + 1)) = none) :
    Calls Tryd.prog 10 #[.int .i64 6, .string s] w (RdRet 0 0 [] [] 0 0 20 w) := by
  have hN := RdW.new_ w 6
  have hsl : s.data.toList.length = s.size := Array.length_toList
  have hp : p < s.size := by rw [← hsl]; exact (List.getElem?_eq_some_iff.1 hpc).1
  have HN := Lib.hid (And.intro hN (And.intro hpc (And.intro hlow hsl)))
  have hsI : (s.size : Int) ≤ 100000 := by omega
  have hpI : (p : Int) < s.size := by omega
  have e1 : (s.extract 0 p).data.toList = s.data.toList.take p := by simp [ByteArray.data_extract, Array.toList_extract]
  have e2 : (s.extract (p + 1) s.size).data.toList = s.data.toList.drop (p + 1) := Lib.ext_list s (p + 1)
  have z1 : (s.extract 0 p).size ≤ 1000000 := by rw [← size_list, e1, List.length_take]; omega
  have z2 : (s.extract (p + 1) s.size).size ≤ 1000000 := by rw [← size_list, e2, List.length_drop]; omega
  have c1 := rnum_b (s.extract 0 p) z1
  have c2 := rnum_b (s.extract (p + 1) s.size) z2
  rw [e1] at c1
  rw [e2] at c2
  rw [hx, numEnd_some] at c1
  rw [hy, numEnd_none] at c2
  clear hx hy
  have HA := Lib.hid (And.intro c1 c2)
  clear hN hlow hsl hpc e1 e2 z1 z2 c1 c2
  go_enter Tryd.func10, Tryd.ntmps10
  go_wp2
  go_loopw [7, 8] (fun v7 v8 wr => ∃ k : Nat, k ≤ p ∧ v8 = .int .i64 (k : Int) ∧ v7 = .bool false ∧ Aside (RdW w wr [.int .i64 6, .int .i64 0, .string ⟨#[]⟩, .slice none 0 0, .int .i64 0, .int .i64 0])) (fun _ v8 _ => s.size - (intOf v8).toNat)
  case atStart => exact ⟨0, Nat.zero_le _, rfl, rfl, HN.out.1⟩
  case round =>
    obtain ⟨k, hk, rfl, rfl, hrel⟩ := hrel
    have G := Lib.hid hrel.out
    clear hrel
    by_cases hlt : k < p
    · have hltI : (k : Int) < s.size := by omega
      have hks : k < s.size := by omega
      obtain ⟨u, hu⟩ : ∃ u, s.data.toList[k]? = some u := ⟨_, List.getElem?_eq_getElem (by rw [HN.out.2.2.2]; exact hks)⟩
      have hne := HN.out.2.2.1 k u hlt hu
      have hsu := str_at hks hu
      have h58 : ((u.toNat : Int) == 58) = false := beq_eq_false_iff_ne.2 (fun e => hne (UInt8.toNat_inj.1 (by show u.toNat = 58; omega)))
      have h58n : ¬ (u.toNat : Int) = 58 := fun e => hne (UInt8.toNat_inj.1 (by show u.toNat = 58; omega))
      obtain ⟨un, hun⟩ : ∃ un, u.toNat = un := ⟨_, rfl⟩
      rw [hun] at h58 h58n
      have hsn : (s[k]'hks).toNat = un := by rw [hsu]; exact hun
      clear hu hne hsu hun
      go_wp2
      go_roundw
      case rel => exact ⟨k + 1, by omega, by go_num, rfl, G.out⟩
      case measure => simp [intOf]; omega
    · obtain rfl : k = p := by omega
      have hltI : (k : Int) < s.size := by omega
      have hsn : (s[k]'hp).toNat = 58 := by rw [str_at hp HN.out.2.1]; rfl
      have h58 : ((58 : Int) == 58) = true := rfl
      clear hlt
      go_wp2_with fail
      refine (HA.out.1 _).mono ?_
      rintro e w1 ⟨rfl, b1⟩
      have g1 := G.out.below b1
      have G1 := Lib.hid g1
      clear g1 b1
      try dsimp only
      go_wp2_with fail
      refine (HA.out.2 _).mono ?_
      rintro e w2 ⟨rfl, b2⟩
      have g2 := G1.out.below b2
      have G := Lib.hid g2
      clear g2 b2
      try dsimp only
      go_wp2_with (refine wpList_store_mid rfl 26 (.tmp 4) (.tmp 124) rfl w.heap.size 0 zv6.toArray rfl rfl G.out.t0 size_val6 (all_oneCell_toArray one6r) ?_)
      refine bodyPost_ret (results_cell_mid6 rfl _ _ w.heap.size 0 zv6 _ rfl (range_stored G.out.t0) Tryd.underlying26 rfl size_val6) rfl ?_
      exact RdRet.none_ (below_setCells G.out.bel (Nat.le_refl _) _ 0)
set_option maxHeartbeats 8000000 in
theorem rread_lk3 (s : ByteArray) (hs : s.size ≤ 100000) (w : World) (p : Nat) (hpc : s.data.toList[p]? = some 58) (hlow : ∀ (j : Nat) u, j < p → s.data.toList[j]? = some u → u ≠ 58) (a b : Int) (hx : numP (s.data.toList.take p) = some a) (hy : numP (s.data.toList.drop (p + 1)) = some b) (hr : a < 0) :
    Calls Tryd.prog 10 #[.int .i64 6, .string s] w (RdRet 0 0 [] [] 0 0 20 w) := by
  have hN := RdW.new_ w 6
  have hsl : s.data.toList.length = s.size := Array.length_toList
  have hp : p < s.size := by rw [← hsl]; exact (List.getElem?_eq_some_iff.1 hpc).1
  have HN := Lib.hid (And.intro hN (And.intro hpc (And.intro hlow hsl)))
  have hsI : (s.size : Int) ≤ 100000 := by omega
  have hpI : (p : Int) < s.size := by omega
  have e1 : (s.extract 0 p).data.toList = s.data.toList.take p := by simp [ByteArray.data_extract, Array.toList_extract]
  have e2 : (s.extract (p + 1) s.size).data.toList = s.data.toList.drop (p + 1) := Lib.ext_list s (p + 1)
  have z1 : (s.extract 0 p).size ≤ 1000000 := by rw [← size_list, e1, List.length_take]; omega
  have z2 : (s.extract (p + 1) s.size).size ≤ 1000000 := by rw [← size_list, e2, List.length_drop]; omega
  have c1 := rnum_b (s.extract 0 p) z1
  have c2 := rnum_b (s.extract (p + 1) s.size) z2
  rw [e1] at c1
  rw [e2] at c2
  rw [hx, numEnd_some] at c1
  rw [hy, numEnd_some] at c2
  clear hx hy
  have HA := Lib.hid (And.intro c1 c2)
  clear hN hlow hsl hpc e1 e2 z1 z2 c1 c2
  have r0 : a < 0 := by omega
  clear hr
  go_enter Tryd.func10, Tryd.ntmps10
  go_wp2
  go_loopw [7, 8] (fun v7 v8 wr => ∃ k : Nat, k ≤ p ∧ v8 = .int .i64 (k : Int) ∧ v7 = .bool false ∧ Aside (RdW w wr [.int .i64 6, .int .i64 0, .string ⟨#[]⟩, .slice none 0 0, .int .i64 0, .int .i64 0])) (fun _ v8 _ => s.size - (intOf v8).toNat)
  case atStart => exact ⟨0, Nat.zero_le _, rfl, rfl, HN.out.1⟩
  case round =>
    obtain ⟨k, hk, rfl, rfl, hrel⟩ := hrel
    have G := Lib.hid hrel.out
    clear hrel
    by_cases hlt : k < p
    · have hltI : (k : Int) < s.size := by omega
      have hks : k < s.size := by omega
      obtain ⟨u, hu⟩ : ∃ u, s.data.toList[k]? = some u := ⟨_, List.getElem?_eq_getElem (by rw [HN.out.2.2.2]; exact hks)⟩
      have hne := HN.out.2.2.1 k u hlt hu
      have hsu := str_at hks hu
      have h58 : ((u.toNat : Int) == 58) = false := beq_eq_false_iff_ne.2 (fun e => hne (UInt8.toNat_inj.1 (by show u.toNat = 58; omega)))
      have h58n : ¬ (u.toNat : Int) = 58 := fun e => hne (UInt8.toNat_inj.1 (by show u.toNat = 58; omega))
      obtain ⟨un, hun⟩ : ∃ un, u.toNat = un := ⟨_, rfl⟩
      rw [hun] at h58 h58n
      have hsn : (s[k]'hks).toNat = un := by rw [hsu]; exact hun
      clear hu hne hsu hun
      go_wp2
      go_roundw
      case rel => exact ⟨k + 1, by omega, by go_num, rfl, G.out⟩
      case measure => simp [intOf]; omega
    · obtain rfl : k = p := by omega
      have hltI : (k : Int) < s.size := by omega
      have hsn : (s[k]'hp).toNat = 58 := by rw [str_at hp HN.out.2.1]; rfl
      have h58 : ((58 : Int) == 58) = true := rfl
      clear hlt
      go_wp2_with fail
      refine (HA.out.1 _).mono ?_
      rintro e w1 ⟨rfl, b1⟩
      have g1 := G.out.below b1
      have G1 := Lib.hid g1
      clear g1 b1
      try dsimp only
      go_wp2_with fail
      refine (HA.out.2 _).mono ?_
      rintro e w2 ⟨rfl, b2⟩
      have g2 := G1.out.below b2
      have G := Lib.hid g2
      clear g2 b2
      try dsimp only
      go_wp2_with (refine wpList_store_mid rfl 26 (.tmp 4) (.tmp 124) rfl w.heap.size 0 zv6.toArray rfl rfl G.out.t0 size_val6 (all_oneCell_toArray one6r) ?_)
      refine bodyPost_ret (results_cell_mid6 rfl _ _ w.heap.size 0 zv6 _ rfl (range_stored G.out.t0) Tryd.underlying26 rfl size_val6) rfl ?_
      exact RdRet.none_ (below_setCells G.out.bel (Nat.le_refl _) _ 0)
set_option maxHeartbeats 8000000 in
theorem rread_lk4 (s : ByteArray) (hs : s.size ≤ 100000) (w : World) (p : Nat) (hpc : s.data.toList[p]? = some 58) (hlow : ∀ (j : Nat) u, j < p → s.data.toList[j]? = some u → u ≠ 58) (a b : Int) (hx : numP (s.data.toList.take p) = some a) (hy : numP (s.data.toList.drop (p + 1)) = some b) (hr : ¬ a < 0 ∧ b < 0) :
    Calls Tryd.prog 10 #[.int .i64 6, .string s] w (RdRet 0 0 [] [] 0 0 20 w) := by
  have hN := RdW.new_ w 6
  have hsl : s.data.toList.length = s.size := Array.length_toList
  have hp : p < s.size := by rw [← hsl]; exact (List.getElem?_eq_some_iff.1 hpc).1
  have HN := Lib.hid (And.intro hN (And.intro hpc (And.intro hlow hsl)))
  have hsI : (s.size : Int) ≤ 100000 := by omega
  have hpI : (p : Int) < s.size := by omega
  have e1 : (s.extract 0 p).data.toList = s.data.toList.take p := by simp [ByteArray.data_extract, Array.toList_extract]
  have e2 : (s.extract (p + 1) s.size).data.toList = s.data.toList.drop (p + 1) := Lib.ext_list s (p + 1)
  have z1 : (s.extract 0 p).size ≤ 1000000 := by rw [← size_list, e1, List.length_take]; omega
  have z2 : (s.extract (p + 1) s.size).size ≤ 1000000 := by rw [← size_list, e2, List.length_drop]; omega
  have c1 := rnum_b (s.extract 0 p) z1
  have c2 := rnum_b (s.extract (p + 1) s.size) z2
  rw [e1] at c1
  rw [e2] at c2
  rw [hx, numEnd_some] at c1
  rw [hy, numEnd_some] at c2
  clear hx hy
  have HA := Lib.hid (And.intro c1 c2)
  clear hN hlow hsl hpc e1 e2 z1 z2 c1 c2
  have r0 : ¬ (a < 0) := by omega
  have r1 : b < 0 := by omega
  clear hr
  go_enter Tryd.func10, Tryd.ntmps10
  go_wp2
  go_loopw [7, 8] (fun v7 v8 wr => ∃ k : Nat, k ≤ p ∧ v8 = .int .i64 (k : Int) ∧ v7 = .bool false ∧ Aside (RdW w wr [.int .i64 6, .int .i64 0, .string ⟨#[]⟩, .slice none 0 0, .int .i64 0, .int .i64 0])) (fun _ v8 _ => s.size - (intOf v8).toNat)
  case atStart => exact ⟨0, Nat.zero_le _, rfl, rfl, HN.out.1⟩
  case round =>
    obtain ⟨k, hk, rfl, rfl, hrel⟩ := hrel
    have G := Lib.hid hrel.out
    clear hrel
    by_cases hlt : k < p
    · have hltI : (k : Int) < s.size := by omega
      have hks : k < s.size := by omega
      obtain ⟨u, hu⟩ : ∃ u, s.data.toList[k]? = some u := ⟨_, List.getElem?_eq_getElem (by rw [HN.out.2.2.2]; exact hks)⟩
      have hne := HN.out.2.2.1 k u hlt hu
      have hsu := str_at hks hu
      have h58 : ((u.toNat : Int) == 58) = false := beq_eq_false_iff_ne.2 (fun e => hne (UInt8.toNat_inj.1 (by show u.toNat = 58; omega)))
      have h58n : ¬ (u.toNat : Int) = 58 := fun e => hne (UInt8.toNat_inj.1 (by show u.toNat = 58; omega))
      obtain ⟨un, hun⟩ : ∃ un, u.toNat = un := ⟨_, rfl⟩
      rw [hun] at h58 h58n
      have hsn : (s[k]'hks).toNat = un := by rw [hsu]; exact hun
      clear hu hne hsu hun
      go_wp2
      go_roundw
      case rel => exact ⟨k + 1, by omega, by go_num, rfl, G.out⟩
      case measure => simp [intOf]; omega
    · obtain rfl : k = p := by omega
      have hltI : (k : Int) < s.size := by omega
      have hsn : (s[k]'hp).toNat = 58 := by rw [str_at hp HN.out.2.1]; rfl
      have h58 : ((58 : Int) == 58) = true := rfl
      clear hlt
      go_wp2_with fail
      refine (HA.out.1 _).mono ?_
      rintro e w1 ⟨rfl, b1⟩
      have g1 := G.out.below b1
      have G1 := Lib.hid g1
      clear g1 b1
      try dsimp only
      go_wp2_with fail
      refine (HA.out.2 _).mono ?_
      rintro e w2 ⟨rfl, b2⟩
      have g2 := G1.out.below b2
      have G := Lib.hid g2
      clear g2 b2
      try dsimp only
      go_wp2_with (refine wpList_store_mid rfl 26 (.tmp 4) (.tmp 124) rfl w.heap.size 0 zv6.toArray rfl rfl G.out.t0 size_val6 (all_oneCell_toArray one6r) ?_)
      refine bodyPost_ret (results_cell_mid6 rfl _ _ w.heap.size 0 zv6 _ rfl (range_stored G.out.t0) Tryd.underlying26 rfl size_val6) rfl ?_
      exact RdRet.none_ (below_setCells G.out.bel (Nat.le_refl _) _ 0)
set_option maxHeartbeats 8000000 in
theorem rread_lk5 (s : ByteArray) (hs : s.size ≤ 100000) (w : World) (p : Nat) (hpc : s.data.toList[p]? = some 58) (hlow : ∀ (j : Nat) u, j < p → s.data.toList[j]? = some u → u ≠ 58) (a b : Int) (hx : numP (s.data.toList.take p) = some a) (hy : numP (s.data.toList.drop (p + 1)) = some b) (hr : ¬ a < 0 ∧ ¬ b < 0 ∧ 65535 < a) :
    Calls Tryd.prog 10 #[.int .i64 6, .string s] w (RdRet 0 0 [] [] 0 0 20 w) := by
  have hN := RdW.new_ w 6
  have hsl : s.data.toList.length = s.size := Array.length_toList
  have hp : p < s.size := by rw [← hsl]; exact (List.getElem?_eq_some_iff.1 hpc).1
  have HN := Lib.hid (And.intro hN (And.intro hpc (And.intro hlow hsl)))
  have hsI : (s.size : Int) ≤ 100000 := by omega
  have hpI : (p : Int) < s.size := by omega
  have e1 : (s.extract 0 p).data.toList = s.data.toList.take p := by simp [ByteArray.data_extract, Array.toList_extract]
  have e2 : (s.extract (p + 1) s.size).data.toList = s.data.toList.drop (p + 1) := Lib.ext_list s (p + 1)
  have z1 : (s.extract 0 p).size ≤ 1000000 := by rw [← size_list, e1, List.length_take]; omega
  have z2 : (s.extract (p + 1) s.size).size ≤ 1000000 := by rw [← size_list, e2, List.length_drop]; omega
  have c1 := rnum_b (s.extract 0 p) z1
  have c2 := rnum_b (s.extract (p + 1) s.size) z2
  rw [e1] at c1
  rw [e2] at c2
  rw [hx, numEnd_some] at c1
  rw [hy, numEnd_some] at c2
  clear hx hy
  have HA := Lib.hid (And.intro c1 c2)
  clear hN hlow hsl hpc e1 e2 z1 z2 c1 c2
  have r0 : ¬ (a < 0) := by omega
  have r1 : ¬ (b < 0) := by omega
  have r2 : (65535 : Int) < a := by omega
  clear hr
  go_enter Tryd.func10, Tryd.ntmps10
  go_wp2
  go_loopw [7, 8] (fun v7 v8 wr => ∃ k : Nat, k ≤ p ∧ v8 = .int .i64 (k : Int) ∧ v7 = .bool false ∧ Aside (RdW w wr [.int .i64 6, .int .i64 0, .string ⟨#[]⟩, .slice none 0 0, .int .i64 0, .int .i64 0])) (fun _ v8 _ => s.size - (intOf v8).toNat)
  case atStart => exact ⟨0, Nat.zero_le _, rfl, rfl, HN.out.1⟩
  case round =>
    obtain ⟨k, hk, rfl, rfl, hrel⟩ := hrel
    have G := Lib.hid hrel.out
    clear hrel
    by_cases hlt : k < p
    · have hltI : (k : Int) < s.size := by omega
      have hks : k < s.size := by omega
      obtain ⟨u, hu⟩ : ∃ u, s.data.toList[k]? = some u := ⟨_, List.getElem?_eq_getElem (by rw [HN.out.2.2.2]; exact hks)⟩
      have hne := HN.out.2.2.1 k u hlt hu
      have hsu := str_at hks hu
      have h58 : ((u.toNat : Int) == 58) = false := beq_eq_false_iff_ne.2 (fun e => hne (UInt8.toNat_inj.1 (by show u.toNat = 58; omega)))
      have h58n : ¬ (u.toNat : Int) = 58 := fun e => hne (UInt8.toNat_inj.1 (by show u.toNat = 58; omega))
      obtain ⟨un, hun⟩ : ∃ un, u.toNat = un := ⟨_, rfl⟩
      rw [hun] at h58 h58n
      have hsn : (s[k]'hks).toNat = un := by rw [hsu]; exact hun
      clear hu hne hsu hun
      go_wp2
      go_roundw
      case rel => exact ⟨k + 1, by omega, by go_num, rfl, G.out⟩
      case measure => simp [intOf]; omega
    · obtain rfl : k = p := by omega
      have hltI : (k : Int) < s.size := by omega
      have hsn : (s[k]'hp).toNat = 58 := by rw [str_at hp HN.out.2.1]; rfl
      have h58 : ((58 : Int) == 58) = true := rfl
      clear hlt
      go_wp2_with fail
      refine (HA.out.1 _).mono ?_
      rintro e w1 ⟨rfl, b1⟩
      have g1 := G.out.below b1
      have G1 := Lib.hid g1
      clear g1 b1
      try dsimp only
      go_wp2_with fail
      refine (HA.out.2 _).mono ?_
      rintro e w2 ⟨rfl, b2⟩
      have g2 := G1.out.below b2
      have G := Lib.hid g2
      clear g2 b2
      try dsimp only
      go_wp2_with (refine wpList_store_mid rfl 26 (.tmp 4) (.tmp 124) rfl w.heap.size 0 zv6.toArray rfl rfl G.out.t0 size_val6 (all_oneCell_toArray one6r) ?_)
      refine bodyPost_ret (results_cell_mid6 rfl _ _ w.heap.size 0 zv6 _ rfl (range_stored G.out.t0) Tryd.underlying26 rfl size_val6) rfl ?_
      exact RdRet.none_ (below_setCells G.out.bel (Nat.le_refl _) _ 0)
set_option maxHeartbeats 8000000 in
theorem rread_lk6 (s : ByteArray) (hs : s.size ≤ 100000) (w : World) (p : Nat) (hpc : s.data.toList[p]? = some 58) (hlow : ∀ (j : Nat) u, j < p → s.data.toList[j]? = some u → u ≠ 58) (a b : Int) (hx : numP (s.data.toList.take p) = some a) (hy : numP (s.data.toList.drop (p + 1)) = some b) (hr : ¬ a < 0 ∧ ¬ b < 0 ∧ ¬ 65535 < a ∧ 65535 < b) :
    Calls Tryd.prog 10 #[.int .i64 6, .string s] w (RdRet 0 0 [] [] 0 0 20 w) := by
  have hN := RdW.new_ w 6
  have hsl : s.data.toList.length = s.size := Array.length_toList
  have hp : p < s.size := by rw [← hsl]; exact (List.getElem?_eq_some_iff.1 hpc).1
  have HN := Lib.hid (And.intro hN (And.intro hpc (And.intro hlow hsl)))
  have hsI : (s.size : Int) ≤ 100000 := by omega
  have hpI : (p : Int) < s.size := by omega
  have e1 : (s.extract 0 p).data.toList = s.data.toList.take p := by simp [ByteArray.data_extract, Array.toList_extract]
  have e2 : (s.extract (p + 1) s.size).data.toList = s.data.toList.drop (p + 1) := Lib.ext_list s (p + 1)
  have z1 : (s.extract 0 p).size ≤ 1000000 := by rw [← size_list, e1, List.length_take]; omega
  have z2 : (s.extract (p + 1) s.size).size ≤ 1000000 := by rw [← size_list, e2, List.length_drop]; omega
  have c1 := rnum_b (s.extract 0 p) z1
  have c2 := rnum_b (s.extract (p + 1) s.size) z2
  rw [e1] at c1
  rw [e2] at c2
  rw [hx, numEnd_some] at c1
  rw [hy, numEnd_some] at c2
  clear hx hy
  have HA := Lib.hid (And.intro c1 c2)
  clear hN hlow hsl hpc e1 e2 z1 z2 c1 c2
  have r0 : ¬ (a < 0) := by omega
  have r1 : ¬ (b < 0) := by omega
  have r2 : ¬ ((65535 : Int) < a) := by omega
  have r3 : (65535 : Int) < b := by omega
  clear hr
  go_enter Tryd.func10, Tryd.ntmps10
  go_wp2
  go_loopw [7, 8] (fun v7 v8 wr => ∃ k : Nat, k ≤ p ∧ v8 = .int .i64 (k : Int) ∧ v7 = .bool false ∧ Aside (RdW w wr [.int .i64 6, .int .i64 0, .string ⟨#[]⟩, .slice none 0 0, .int .i64 0, .int .i64 0])) (fun _ v8 _ => s.size - (intOf v8).toNat)
  case atStart => exact ⟨0, Nat.zero_le _, rfl, rfl, HN.out.1⟩
  case round =>
    obtain ⟨k, hk, rfl, rfl, hrel⟩ := hrel
    have G := Lib.hid hrel.out
    clear hrel
    by_cases hlt : k < p
    · have hltI : (k : Int) < s.size := by omega
      have hks : k < s.size := by omega
      obtain ⟨u, hu⟩ : ∃ u, s.data.toList[k]? = some u := ⟨_, List.getElem?_eq_getElem (by rw [HN.out.2.2.2]; exact hks)⟩
      have hne := HN.out.2.2.1 k u hlt hu
      have hsu := str_at hks hu
      have h58 : ((u.toNat : Int) == 58) = false := beq_eq_false_iff_ne.2 (fun e => hne (UInt8.toNat_inj.1 (by show u.toNat = 58; omega)))
      have h58n : ¬ (u.toNat : Int) = 58 := fun e => hne (UInt8.toNat_inj.1 (by show u.toNat = 58; omega))
      obtain ⟨un, hun⟩ : ∃ un, u.toNat = un := ⟨_, rfl⟩
      rw [hun] at h58 h58n
      have hsn : (s[k]'hks).toNat = un := by rw [hsu]; exact hun
      clear hu hne hsu hun
      go_wp2
      go_roundw
      case rel => exact ⟨k + 1, by omega, by go_num, rfl, G.out⟩
      case measure => simp [intOf]; omega
    · obtain rfl : k = p := by omega
      have hltI : (k : Int) < s.size := by omega
      have hsn : (s[k]'hp).toNat = 58 := by rw [str_at hp HN.out.2.1]; rfl
      have h58 : ((58 : Int) == 58) = true := rfl
      clear hlt
      go_wp2_with fail
      refine (HA.out.1 _).mono ?_
      rintro e w1 ⟨rfl, b1⟩
      have g1 := G.out.below b1
      have G1 := Lib.hid g1
      clear g1 b1
      try dsimp only
      go_wp2_with fail
      refine (HA.out.2 _).mono ?_
      rintro e w2 ⟨rfl, b2⟩
      have g2 := G1.out.below b2
      have G := Lib.hid g2
      clear g2 b2
      try dsimp only
      go_wp2_with (refine wpList_store_mid rfl 26 (.tmp 4) (.tmp 124) rfl w.heap.size 0 zv6.toArray rfl rfl G.out.t0 size_val6 (all_oneCell_toArray one6r) ?_)
      refine bodyPost_ret (results_cell_mid6 rfl _ _ w.heap.size 0 zv6 _ rfl (range_stored G.out.t0) Tryd.underlying26 rfl size_val6) rfl ?_
      exact RdRet.none_ (below_setCells G.out.bel (Nat.le_refl _) _ 0)
set_option maxHeartbeats 8000000 in
theorem rread_lk7 (s : ByteArray) (hs : s.size ≤ 100000) (w : World) (p : Nat) (hpc : s.data.toList[p]? = some 58) (hlow : ∀ (j : Nat) u, j < p → s.data.toList[j]? = some u → u ≠ 58) (o i : Int) (hx : numP (s.data.toList.take p) = some o) (hy : numP (s.data.toList.drop (p + 1)) = some i) (hr : (0 ≤ o ∧ o ≤ 65535) ∧ 0 ≤ i ∧ i ≤ 65535) :
    Calls Tryd.prog 10 #[.int .i64 6, .string s] w (RdRet 6 0 [] [] o i 0 w) := by
  have hN := RdW.new_ w 6
  have hsl : s.data.toList.length = s.size := Array.length_toList
  have hp : p < s.size := by rw [← hsl]; exact (List.getElem?_eq_some_iff.1 hpc).1
  have HN := Lib.hid (And.intro hN (And.intro hpc (And.intro hlow hsl)))
  have hsI : (s.size : Int) ≤ 100000 := by omega
  have hpI : (p : Int) < s.size := by omega
  have e1 : (s.extract 0 p).data.toList = s.data.toList.take p := by simp [ByteArray.data_extract, Array.toList_extract]
  have e2 : (s.extract (p + 1) s.size).data.toList = s.data.toList.drop (p + 1) := Lib.ext_list s (p + 1)
  have z1 : (s.extract 0 p).size ≤ 1000000 := by rw [← size_list, e1, List.length_take]; omega
  have z2 : (s.extract (p + 1) s.size).size ≤ 1000000 := by rw [← size_list, e2, List.length_drop]; omega
  have c1 := rnum_b (s.extract 0 p) z1
  have c2 := rnum_b (s.extract (p + 1) s.size) z2
  rw [e1] at c1
  rw [e2] at c2
  rw [hx, numEnd_some] at c1
  rw [hy, numEnd_some] at c2
  clear hx hy
  have HA := Lib.hid (And.intro c1 c2)
  clear hN hlow hsl hpc e1 e2 z1 z2 c1 c2
  have r0 : ¬ o < 0 := by omega
  have r1 : ¬ i < 0 := by omega
  have r2 : ¬ (65535 : Int) < o := by omega
  have r3 : ¬ (65535 : Int) < i := by omega
  clear hr
  go_enter Tryd.func10, Tryd.ntmps10
  go_wp2
  go_loopw [7, 8] (fun v7 v8 wr => ∃ k : Nat, v8 = .int .i64 (k : Int) ∧ k ≤ s.size ∧ Aside (LkAt w p o i k v7 wr)) (fun _ v8 _ => s.size - (intOf v8).toNat)
  case atStart => exact ⟨0, rfl, Nat.zero_le _, (show Aside _ from .inl ⟨Nat.zero_le _, rfl, HN.out.1⟩)⟩
  case round =>
    obtain ⟨k, rfl, hk, hrel⟩ := hrel
    rcases hrel.out with ⟨hkp, rfl, g⟩ | ⟨rfl, rfl, g⟩
    · have G := Lib.hid g
      clear hrel g
      by_cases hlt : k < p
      · have hltI : (k : Int) < s.size := by omega
        have hks : k < s.size := by omega
        obtain ⟨u, hu⟩ : ∃ u, s.data.toList[k]? = some u := ⟨_, List.getElem?_eq_getElem (by rw [HN.out.2.2.2]; exact hks)⟩
        have hne := HN.out.2.2.1 k u hlt hu
        have hsu := str_at hks hu
        have h58 : ((u.toNat : Int) == 58) = false := beq_eq_false_iff_ne.2 (fun e => hne (UInt8.toNat_inj.1 (by show u.toNat = 58; omega)))
        have h58n : ¬ (u.toNat : Int) = 58 := fun e => hne (UInt8.toNat_inj.1 (by show u.toNat = 58; omega))
        obtain ⟨un, hun⟩ : ∃ un, u.toNat = un := ⟨_, rfl⟩
        rw [hun] at h58 h58n
        have hsn : (s[k]'hks).toNat = un := by rw [hsu]; exact hun
        clear hu hne hsu hun
        go_wp2
        go_roundw
        case rel => exact ⟨k + 1, by go_num, by omega, (show Aside _ from .inl ⟨by omega, rfl, G.out⟩)⟩
        case measure => simp [intOf]; omega
      · obtain rfl : k = p := by omega
        have hltI : (k : Int) < s.size := by omega
        have hsn : (s[k]'hp).toNat = 58 := by rw [str_at hp HN.out.2.1]; rfl
        have h58 : ((58 : Int) == 58) = true := rfl
        clear hlt
        go_wp2_with fail
        refine (HA.out.1 _).mono ?_
        rintro e w1 ⟨rfl, b1⟩
        have g1 := G.out.below b1
        have G1 := Lib.hid g1
        clear g1 b1
        try dsimp only
        go_wp2_with fail
        refine (HA.out.2 _).mono ?_
        rintro e w2 ⟨rfl, b2⟩
        have g2 := G1.out.below b2
        have G := Lib.hid g2
        clear g2 b2
        try dsimp only
        obtain ⟨q0, q1, q2, q3, q4, q5⟩ := six G.out.r1
        have f4 := (G.out.t1 4 (by omega)).2
        have f5 := (G.out.t1 5 (by omega)).2
        have g5 := (G.out.set 4 (by omega) rfl (.int .i64 o)).set 5 (by omega) rfl (.int .i64 i)
        have GG := Lib.hid g5
        clear g5
        go_wp2
        go_roundw
        case rel => exact ⟨k + 1, by go_num, by omega, (show Aside _ from .inr ⟨rfl, rfl, GG.out⟩)⟩
        case measure => simp [intOf]; omega
    · have G := Lib.hid g
      clear hrel g
      have hkI : ((p + 1 : Nat) : Int) = (p : Int) + 1 := by omega
      by_cases hlt : p + 1 < s.size
      · have hltI : (p : Int) + 1 < s.size := by omega
        have hltJ : ((p + 1 : Nat) : Int) < s.size := by omega
        have hr := G.out.r1
        go_wp2_with (first | (refine wpList_load_mid rfl 26 (.tmp 6) rfl (w.heap.size + 1) 0 rfl [.int .i64 6, .int .i64 0, .string ⟨#[]⟩, .slice none 0 0, .int .i64 o, .int .i64 i] _ hr Tryd.underlying26 rfl size_val6 ?_) | (refine wpList_store_mid rfl 26 (.tmp 4) (.tmp 132) rfl w.heap.size 0 ([.int .i64 6, .int .i64 0, .string ⟨#[]⟩, .slice none 0 0, .int .i64 o, .int .i64 i] : List Value).toArray rfl rfl G.out.t0 size_val6 (all_oneCell_toArray one6r) ?_))
        refine bodyPost_ret (results_cell_mid6 rfl _ _ w.heap.size 0 [.int .i64 6, .int .i64 0, .string ⟨#[]⟩, .slice none 0 0, .int .i64 o, .int .i64 i] _ rfl (range_stored G.out.t0) Tryd.underlying26 rfl size_val6) rfl ?_
        exact ⟨⟨#[]⟩, none, 0, 0, rfl, rfl, Nat.le_refl _, rfl, Bs.empty _ _ _, (below_setCells G.out.bel (Nat.le_refl _) _ 0)⟩
      · have hltI : ¬ (p : Int) + 1 < s.size := by omega
        have hltJ : ¬ ((p + 1 : Nat) : Int) < s.size := by omega
        have hr := G.out.r1
        go_wp2_with (first | (refine wpList_load_mid rfl 26 (.tmp 6) rfl (w.heap.size + 1) 0 rfl [.int .i64 6, .int .i64 0, .string ⟨#[]⟩, .slice none 0 0, .int .i64 o, .int .i64 i] _ hr Tryd.underlying26 rfl size_val6 ?_) | (refine wpList_store_mid rfl 26 (.tmp 4) (.tmp 132) rfl w.heap.size 0 ([.int .i64 6, .int .i64 0, .string ⟨#[]⟩, .slice none 0 0, .int .i64 o, .int .i64 i] : List Value).toArray rfl rfl G.out.t0 size_val6 (all_oneCell_toArray one6r) ?_))
        refine bodyPost_ret (results_cell_mid6 rfl _ _ w.heap.size 0 [.int .i64 6, .int .i64 0, .string ⟨#[]⟩, .slice none 0 0, .int .i64 o, .int .i64 i] _ rfl (range_stored G.out.t0) Tryd.underlying26 rfl size_val6) rfl ?_
        exact ⟨⟨#[]⟩, none, 0, 0, rfl, rfl, Nat.le_refl _, rfl, Bs.empty _ _ _, (below_setCells G.out.bel (Nat.le_refl _) _ 0)⟩
theorem rread_link (s : ByteArray) (hs : s.size ≤ 100000) (w : World) :
    Calls Tryd.prog 10 #[.int .i64 6, .string s] w (match linkQ s.data.toList with | some (a, b) => RdRet 6 0 [] [] a b 0 w | none => RdRet 0 0 [] [] 0 0 20 w) := by
  rcases idx_spec 58 s.data.toList with ⟨h, hno⟩ | ⟨p, h, hp, hlow⟩
  · have hq : linkQ s.data.toList = none := by
      unfold linkQ cutB
      rw [if_pos h, numP_nil]
      cases numP (cutA s.data.toList 58) <;> rfl
    rw [hq]
    exact rread_link0 s hs w hno
  · have hA : cutA s.data.toList 58 = s.data.toList.take p := by unfold cutA; rw [h, if_neg (by omega), Int.toNat_natCast]
    have hB : cutB s.data.toList 58 = s.data.toList.drop (p + 1) := by unfold cutB; rw [h, if_neg (by omega), Int.toNat_natCast]
    rcases hx : numP (s.data.toList.take p) with _ | a
    · have hq : linkQ s.data.toList = none := by unfold linkQ; rw [hA, hx]
      rw [hq]
      exact rread_lk1 s hs w p hp hlow hx
    · rcases hy : numP (s.data.toList.drop (p + 1)) with _ | b
      · have hq : linkQ s.data.toList = none := by unfold linkQ; rw [hA, hB, hx, hy]
        rw [hq]
        exact rread_lk2 s hs w p hp hlow a hx hy
      · by_cases hr : (0 ≤ a ∧ a ≤ 65535) ∧ 0 ≤ b ∧ b ≤ 65535
        · have hq : linkQ s.data.toList = some (a, b) := by unfold linkQ; rw [hA, hB, hx, hy]; exact if_pos hr
          rw [hq]
          exact rread_lk7 s hs w p hp hlow a b hx hy hr
        · have hq : linkQ s.data.toList = none := by unfold linkQ; rw [hA, hB, hx, hy]; exact if_neg hr
          rw [hq]
          rcases (show a < 0 ∨ (¬ a < 0 ∧ b < 0) ∨ (¬ a < 0 ∧ ¬ b < 0 ∧ 65535 < a) ∨ (¬ a < 0 ∧ ¬ b < 0 ∧ ¬ 65535 < a ∧ 65535 < b) by omega) with h1 | h1 | h1 | h1
          · exact rread_lk3 s hs w p hp hlow a b hx hy h1
          · exact rread_lk4 s hs w p hp hlow a b hx hy h1
          · exact rread_lk5 s hs w p hp hlow a b hx hy h1
          · exact rread_lk6 s hs w p hp hlow a b hx hy h1
theorem rread_all (k : Int) (s : ByteArray) (hs : s.size ≤ 100000) (w : World) :
    Calls Tryd.prog 10 #[.int .i64 k, .string s] w (RdAll (readQ k s.data.toList) w) := by
  have hs1 : s.size ≤ 1000000 := by omega
  unfold readQ
  by_cases h15 : k = 1 ∨ k = 5
  · rw [if_pos h15]
    rcases h15 with rfl | rfl
    · have h := rread_num1 s hs1 w
      rcases hq : numP s.data.toList with _ | n
      · simp only [hq] at h ⊢; exact h
      · simp only [hq] at h ⊢; exact h
    · have h := rread_num5 s hs1 w
      rcases hq : numP s.data.toList with _ | n
      · simp only [hq] at h ⊢; exact h
      · simp only [hq] at h ⊢; exact h
  rw [if_neg h15]
  by_cases h2 : k = 2
  · rw [if_pos h2]
    subst h2
    have h := rread_bool s hs1 w
    rcases hq : truthQ s.data.toList with _ | n
    · simp only [hq] at h ⊢; exact h
    · simp only [hq] at h ⊢; exact h
  rw [if_neg h2]
  by_cases h3 : k = 3
  · rw [if_pos h3]
    subst h3
    have h := rread_text s hs1 w
    by_cases he : textE s.data.toList = 0
    · rw [if_pos he] at h ⊢; exact h
    · rw [if_neg he] at h ⊢; exact h
  rw [if_neg h3]
  by_cases h4 : k = 4
  · rw [if_pos h4]
    subst h4
    have h := rread_bytes s hs w
    by_cases he : (unQ s.data.toList).2 = 0
    · rw [if_pos he] at h ⊢; exact h
    · rw [if_neg he] at h ⊢; exact h
  rw [if_neg h4]
  by_cases h6 : k = 6
  · rw [if_pos h6]
    subst h6
    have h := rread_link s hs w
    rcases hq : linkQ s.data.toList with _ | ⟨a, b⟩
    · simp only [hq] at h ⊢; exact h
    · simp only [hq] at h ⊢; exact h
  rw [if_neg h6]
  exact rread_kind k (by omega) s w
end Go.Proofs.YthnbcilpallhjaaDoor
