/-
  The program's Read, of truths, of any bytes, of other kinds.
-/
import Derived.Test.YthnbcilpallhjaaDoorPlRead
namespace Go.Proofs.YthnbcilpallhjaaDoor
open Go.RowKit
set_option maxRecDepth 100000
set_option maxRecDepth 100000
set_option linter.unusedVariables false
set_option maxHeartbeats 4000000 in
theorem read_bool (s : ByteArray) (hs : s.size ≤ 1000000) (w : World) :
    Calls Tryd.prog 9 #[.int .i64 2, .string s] w (match truthQ s.data.toList with | some n => RdRet 2 n [] [] 0 0 0 w | none => RdRet 0 0 [] [] 0 0 20 w) := by
  have hN := RdW.new_ w 2
  have hL : ∀ W, Calls Tryd.prog 38 #[.string s] W fun e w' => e = numR (truthQ s.data.toList) ∧ Below W.heap.size W w' := fun W => (truth_p s W).mono fun e w' h => ⟨h.1, by rw [h.2]; exact Below.refl _ _⟩
  rcases hR : truthQ s.data.toList with _ | n
  · simp only [hR, numR_none] at hL
    have HL := Lib.hid (And.intro hL hN)
    clear hR hL hN
    go_enter Tryd.func9, Tryd.ntmps9
    go_wp2_with fail
    refine (HL.out.1 _).mono ?_
    rintro e w1 ⟨rfl, b1⟩
    have h1 := HL.out.2.below b1
    obtain ⟨q0, q1, q2, q3, q4, q5⟩ := six h1.r1
    have f1 := (h1.t1 1 (by omega)).2
    have H1 := Lib.hid h1
    clear h1 b1
    have g0 := H1.out
    have g1 := g0.set 1 (by omega) rfl (.int .i64 0)
    have G := Lib.hid g1
    clear g0 g1
    try dsimp only
    go_wp2_with (refine wpList_store_mid rfl 26 (.tmp 4) (.tmp 56) rfl w.heap.size 0 zv6.toArray rfl rfl G.out.t0 size_val6 (all_oneCell_toArray one6r) ?_)
    refine bodyPost_ret (results_cell_mid6 rfl _ _ w.heap.size 0 zv6 _ rfl (range_stored G.out.t0) Tryd.underlying26 rfl size_val6) rfl ?_
    exact RdRet.none_ (below_setCells G.out.bel (Nat.le_refl _) _ 0)
  · simp only [hR, numR_some] at hL
    have HL := Lib.hid (And.intro hL hN)
    clear hR hL hN
    go_enter Tryd.func9, Tryd.ntmps9
    go_wp2_with fail
    refine (HL.out.1 _).mono ?_
    rintro e w1 ⟨rfl, b1⟩
    have h1 := HL.out.2.below b1
    obtain ⟨q0, q1, q2, q3, q4, q5⟩ := six h1.r1
    have f1 := (h1.t1 1 (by omega)).2
    have H1 := Lib.hid h1
    clear h1 b1
    have g0 := H1.out
    have g1 := g0.set 1 (by omega) rfl (.int .i64 n)
    have G := Lib.hid g1
    clear g0 g1
    have hr := G.out.r1
    try dsimp only
    go_wp2_with (first | (refine wpList_load_mid rfl 26 (.tmp 6) rfl (w.heap.size + 1) 0 rfl [.int .i64 2, .int .i64 n, .string ⟨#[]⟩, .slice none 0 0, .int .i64 0, .int .i64 0] _ hr Tryd.underlying26 rfl size_val6 ?_) | (refine wpList_store_mid rfl 26 (.tmp 4) (.tmp 58) rfl w.heap.size 0 ([.int .i64 2, .int .i64 n, .string ⟨#[]⟩, .slice none 0 0, .int .i64 0, .int .i64 0] : List Value).toArray rfl rfl G.out.t0 size_val6 (all_oneCell_toArray one6r) ?_))
    refine bodyPost_ret (results_cell_mid6 rfl _ _ w.heap.size 0 [.int .i64 2, .int .i64 n, .string ⟨#[]⟩, .slice none 0 0, .int .i64 0, .int .i64 0] _ rfl (range_stored G.out.t0) Tryd.underlying26 rfl size_val6) rfl ?_
    exact ⟨⟨#[]⟩, none, 0, 0, rfl, rfl, Nat.le_refl _, rfl, Bs.empty _ _ _, (below_setCells G.out.bel (Nat.le_refl _) _ 0)⟩
set_option maxHeartbeats 4000000 in
theorem read_bytes_e (s : ByteArray) (hs : s.size ≤ 1000000) (w : World) (h0 : ¬ (unQ s.data.toList).2 = 0) :
    Calls Tryd.prog 9 #[.int .i64 4, .string s] w (RdRet 0 0 [] [] 0 0 (unQ s.data.toList).2 w) := by
  have hN := RdW.new_ w 4
  have hL := fun W => unbase64_a s hs W
  obtain ⟨⟨l, er⟩, hr⟩ : ∃ r, unQ s.data.toList = r := ⟨_, rfl⟩
  rw [hr] at h0 hL ⊢
  dsimp only at h0 ⊢
  have hne : (er != 0) = true := bne_iff_ne.2 h0
  have HL := Lib.hid (And.intro hL hN)
  clear hr hL hN
  go_enter Tryd.func9, Tryd.ntmps9
  go_wp2_with fail
  refine (HL.out.1 _).mono ?_
  rintro e w1 ⟨A, m, c, rfl, hmc, hml, hbs, b1, hfr⟩
  have h1 := HL.out.2.below b1
  obtain ⟨q0, q1, q2, q3, q4, q5⟩ := six h1.r1
  have f3 := (h1.t1 3 (by omega)).2
  have H1 := Lib.hid h1
  clear h1 b1 hbs hmc hml hfr
  have g0 := H1.out
  have g1 := g0.set 3 (by omega) rfl (.slice A m c)
  have G := Lib.hid g1
  clear g0 g1
  try dsimp only
  go_wp2_with (refine wpList_store_mid rfl 26 (.tmp 4) (.tmp 56) rfl w.heap.size 0 zv6.toArray rfl rfl G.out.t0 size_val6 (all_oneCell_toArray one6r) ?_)
  refine bodyPost_ret (results_cell_mid6 rfl _ _ w.heap.size 0 zv6 _ rfl (range_stored G.out.t0) Tryd.underlying26 rfl size_val6) rfl ?_
  exact RdRet.none_ (below_setCells G.out.bel (Nat.le_refl _) _ 0)
set_option maxHeartbeats 4000000 in
theorem read_kind (k : Int) (hk : k < 1 ∨ 6 < k) (s : ByteArray) (w : World) :
    Calls Tryd.prog 9 #[.int .i64 k, .string s] w (RdRet 0 0 [] [] 0 0 70 w) := by
  have hN := RdW.new_ w k
  have k1 : ¬ k = 1 := by omega
  have k2 : ¬ k = 2 := by omega
  have k3 : ¬ k = 3 := by omega
  have k4 : ¬ k = 4 := by omega
  have k5 : ¬ k = 5 := by omega
  have k6 : ¬ k = 6 := by omega
  have G := Lib.hid hN
  clear hN hk
  go_enter Tryd.func9, Tryd.ntmps9
  go_wp2_with (refine wpList_store_mid rfl 26 (.tmp 4) (.tmp 56) rfl w.heap.size 0 zv6.toArray rfl rfl G.out.t0 size_val6 (all_oneCell_toArray one6r) ?_)
  refine bodyPost_ret (results_cell_mid6 rfl _ _ w.heap.size 0 zv6 _ rfl (range_stored G.out.t0) Tryd.underlying26 rfl size_val6) rfl ?_
  exact RdRet.none_ (below_setCells G.out.bel (Nat.le_refl _) _ 0)
end Go.Proofs.YthnbcilpallhjaaDoor
