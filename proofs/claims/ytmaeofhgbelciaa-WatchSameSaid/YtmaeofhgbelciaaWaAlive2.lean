/-
  The document's examples of layer 21, as the law plays them.
-/
import Derived.Test.YtmaeofhgbelciaaWaAlive
namespace Go.Proofs.Ytmaeofhgbelciaa
open Go.RowKit
set_option maxRecDepth 100000
set_option maxRecDepth 100000
set_option linter.unusedVariables false
set_option linter.unusedSimpArgs false
/-- A table stands under an elder one's calls. -/
theorem WtAt.fxo {W W' : World} {tb1 tb2 : Nat} {v : Value} {vs : List Wr} {row : Option Nat} (h : WtAt W tb2 v vs) (hf : Fx tb1 row W W') (h1 : tb1 < tb2) (h2 : ∀ k, row = some k → k < tb2) : WtAt W' tb2 v vs := by
  have key : ∀ {e sz n' : Nat} {u : Value} {xs : List Value}, W.ownsRow tb2 e sz u n' xs → u.ownBlock ≠ some tb1 ∧ (u.ownBlock = none ∨ u.ownBlock ≠ row) := fun ho => by
    refine ⟨own_low ho h1, ?_⟩
    cases hu : Value.ownBlock _ with
    | none => exact .inl rfl
    | some k => exact .inr fun e => by have := h2 k e.symm; have := (ho.lt k hu).1; omega
  exact ⟨(hf.block tb2 h.lt (by omega) (fun e => by have := h2 _ e.symm; omega)).trans h.blk, hf.row_ h.row (key h.row).1 (key h.row).2, fun s hs => ⟨(h.each s hs).1.fx hf (fun n c A e sz xs _ ho => key ho), (h.each s hs).2⟩, h.few⟩
theorem path_lit (w : World) : inK.At (w.alloc (.cells #[.int .i64 3] 3)) (w.heap.size + 1) (some ⟨w.heap.size, 0, none⟩) 1 [3] :=
  ⟨rfl, fun _ => ⟨w.heap.size, 0, rfl, Nat.lt_succ_self _, fun i s hs j u hj => by
    have hi : i = 0 := by have := (List.getElem?_eq_some_iff.1 hs).1; simp at this; omega
    subst hi
    obtain rfl := Option.some.inj hs
    rw [show 0 + 0 * 1 + j = j by omega, cell_of_row _ _ _ _ _ _ (heap_alloc_new w _), ← Array.getElem?_toList]
    exact hj⟩⟩
/-- The path stands in its literal under a table's calls. -/
theorem path_keep {w W : World} {tb : Nat} {v : Value} {vs : List Wr} (h : WtAt w tb v vs) (hf : Fx tb v.ownBlock (w.alloc (.cells #[.int .i64 3] 3)) W) : inK.At W W.heap.size (some ⟨w.heap.size, 0, none⟩) 1 [3] := by
  have hl := h.lt
  have hx := hf.block w.heap.size (by rw [alloc_size]; omega) (by omega) (fun e => by have := (h.row.lt _ e.symm).2; omega)
  rw [heap_alloc_new] at hx
  refine ⟨rfl, fun _ => ⟨w.heap.size, 0, rfl, by have := hf.size; rw [alloc_size] at this; omega, fun i s hs j u hj => ?_⟩⟩
  have hi : i = 0 := by have := (List.getElem?_eq_some_iff.1 hs).1; simp at this; omega
  subst hi
  obtain rfl := Option.some.inj hs
  rw [show 0 + 0 * 1 + j = j by omega, cell_of_row _ _ _ _ _ _ hx, ← Array.getElem?_toList]
  exact hj
theorem tok_keep {w W : World} {tb : Nat} {v : Value} {vs : List Wr} (h : WtAt w tb v vs) (hf : Fx tb v.ownBlock (w.alloc (.cells #[.int .u8 7] 5)) W) : Bs W W.heap.size (some ⟨w.heap.size, 0, none⟩) 1 [7] := by
  have hl := h.lt
  have hx := hf.block w.heap.size (by rw [alloc_size]; omega) (by omega) (fun e => by have := (h.row.lt _ e.symm).2; omega)
  rw [heap_alloc_new] at hx
  refine ⟨rfl, fun _ => ⟨w.heap.size, 0, rfl, by have := hf.size; rw [alloc_size] at this; omega, fun j u hu => ?_⟩⟩
  rw [Nat.zero_add, cell_of_row _ _ _ _ _ _ hx]
  have hj : j = 0 := by have := (List.getElem?_eq_some_iff.1 hu).1; simp at this; omega
  subst hj
  obtain rfl := Option.some.inj hu
  rfl
theorem left_one {p : Wq → Bool} {vs : List Wr} {q : Wq} (h : vs.map Wr.q = [q]) (hp : p q = true) : leftW p vs = [] := by
  obtain ⟨x, hx, hq⟩ := List.map_eq_singleton_iff.1 h
  subst hx
  unfold leftW
  rw [List.filter_cons, hq, hp]
  rfl
theorem len_one {vs : List Wr} {q : Wq} (h : vs.map Wr.q = [q]) : vs.length = 1 := by
  have := congrArg List.length h
  simpa using this
def S1 (b : Nat) : Wr := ⟨aq1, none, 0, 0, some ⟨b, 0, none⟩, 1, 1, none, 0, 0⟩
def S2 (b : Nat) : Wr := ⟨aq2, some ⟨b, 0, none⟩, 1, 1, none, 0, 0, none, 0, 0⟩
theorem sm1 (b : Nat) : Wsm (S1 b) := ⟨(show ((0 : Nat) : Int) ≤ 1048576 by decide), (show ((1 : Nat) : Int) ≤ 1048576 by decide), (show ((0 : Nat) : Int) ≤ 1048576 by decide), (show (0 : Nat) ≤ 1048576 by decide)⟩
theorem sm2 (b : Nat) : Wsm (S2 b) := ⟨(show ((1 : Nat) : Int) ≤ 1048576 by decide), (show ((0 : Nat) : Int) ≤ 1048576 by decide), (show ((0 : Nat) : Int) ≤ 1048576 by decide), (show (0 : Nat) ≤ 1048576 by decide)⟩
theorem in64_ (n : Int) (h : 0 ≤ n ∧ n ≤ 100) : In64 n := by unfold In64; omega
set_option maxHeartbeats 16000000 in
theorem walive_f (w : World) : Calls Try.prog 7 #[] w fun e w' => e = .returned (.bool true) ∧ Below w.heap.size w w' := by
  go_enter Try.func7, Try.ntmps7
  go_wp2_with fail
  refine (wnew_f w).mono ?_
  rintro e w1 ⟨rfl, t1, b1, z1⟩
  have H1 := Lib.hid (And.intro t1 (And.intro b1 z1))
  clear t1 b1 z1
  try dsimp only
  go_wp2_with fail
  refine (num_f 1 _).mono ?_
  rintro e w2 ⟨rfl, b2⟩
  have hp := alloc_below w1 (.cells #[.int .i64 3] 3)
  have b12 : Below w1.heap.size w1 w2 := hp.trans (b2.mono hp.size)
  have pth2 := ((path_lit w1).below' b2 (by rw [alloc_size]; exact Nat.le_refl _)).more (B' := w2.heap.size) (by have := b2.size; rw [alloc_size] at this; omega)
  have H2 := Lib.hid (And.intro (H1.out.1.below b12) (And.intro (H1.out.2.1.trans (b12.mono H1.out.2.1.size)) pth2))
  clear hp b12 pth2 b2
  try dsimp only
  go_wp2_with fail
  have ca := wadd_f H2.out.1 (S1 w1.heap.size) w2.heap.size ⟨Bs.empty _ _ _, H2.out.2.2, Bs.empty _ _ _⟩ (Nat.le_refl _) (sm1 _) (in64_ 1 (by decide))
  refine Calls.mono (show Calls _ _ _ _ _ from ca) ?_
  rintro e w3 ⟨he, v3, vs3, t3, q3, r3, f3⟩
  replace he : e = .returned (.int .i64 0) := he
  replace q3 : vs3.map Wr.q = [aq1] := q3
  subst he
  have H3 := Lib.hid (And.intro t3 (And.intro q3 (Fx.lowT H2.out.1 H2.out.2.1 f3)))
  clear ca t3 q3 r3 f3
  try dsimp only
  go_wp2_with fail
  refine (num_f 2 _).mono ?_
  rintro e w4 ⟨rfl, b4⟩
  have H4 := Lib.hid (And.intro (H3.out.1.below b4) (H3.out.2.2.trans (b4.mono H3.out.2.2.size)))
  clear b4
  try dsimp only
  go_wp2_with fail
  have cd := due_num H4.out.1 2 (in64_ 2 (by decide)) 3
  rw [H3.out.2.1] at cd
  refine cd.mono ?_
  rintro e w5 ⟨A5, n5, c5, X5, vs5, rfl, hT, hX, hW, hq, hF⟩
  rw [al_2] at hX hq
  obtain rfl := told_none hT hX
  have H5 := Lib.hid (And.intro hW (And.intro hq (Fx.lowT H4.out.1 H4.out.2 hF)))
  clear cd hT hX hW hq hF
  try dsimp only
  go_wp2_with fail
  refine (num_f 2 _).mono ?_
  rintro e w6 ⟨rfl, b6⟩
  have H6 := Lib.hid (And.intro (H5.out.1.below b6) (H5.out.2.2.trans (b6.mono H5.out.2.2.size)))
  clear b6
  try dsimp only
  go_wp2_with fail
  have cd := due_num H6.out.1 2 (in64_ 2 (by decide)) 5
  rw [H5.out.2.1] at cd
  refine cd.mono ?_
  rintro e w7 ⟨A7, n7, c7, X7, vs7, rfl, hT, hX, hW, hq, hF⟩
  rw [al_3] at hX hq
  obtain ⟨hn, hc, g7, x7, rfl, hx7, hg7, r7⟩ := told_one hT hX
  subst hn
  have y20 := r7 20 _ rfl
  have y14 := r7 14 _ rfl
  rw [hx7] at y20 y14
  have H7 := Lib.hid (And.intro hW (And.intro hq (And.intro (Fx.lowT H6.out.1 H6.out.2 hF) (And.intro y20 (And.intro y14 hg7)))))
  have hc7 : (1 : Int) ≤ c7 := by omega
  clear cd hT hX hW hq hF y20 y14 hx7 r7 hg7
  try dsimp only
  go_wp2_with fail
  refine (wnew_f w7).mono ?_
  rintro e w8 ⟨rfl, t8, b8, z8⟩
  have H8 := Lib.hid (And.intro t8 (And.intro b8 z8))
  clear t8 b8 z8
  try dsimp only
  go_wp2_with fail
  refine (num_f 5 _).mono ?_
  rintro e w9 ⟨rfl, b9⟩
  have hp := alloc_below w8 (.cells #[.int .u8 7] 5)
  have b89 : Below w8.heap.size w8 w9 := hp.trans (b9.mono hp.size)
  have tk9 := ((Bs.lit_ w8 5 #[.int .u8 7] (0, 0) [7] rfl).below' b9 (by rw [alloc_size]; exact Nat.le_refl _)).more (B' := w9.heap.size) (by have := b9.size; rw [alloc_size] at this; omega)
  have H9 := Lib.hid (And.intro (H8.out.1.below b89) (And.intro (H8.out.2.1.trans (b89.mono H8.out.2.1.size)) tk9))
  clear hp b89 tk9 b9
  try dsimp only
  go_wp2_with fail
  have ca := wadd_f H9.out.1 (S2 w8.heap.size) w9.heap.size ⟨H9.out.2.2, RowK.At.nil_ _ _ _, Bs.empty _ _ _⟩ (Nat.le_refl _) (sm2 _) (in64_ 5 (by decide))
  refine Calls.mono (show Calls _ _ _ _ _ from ca) ?_
  rintro e w10 ⟨he, v10, vs10, t10, q10, r10, f10⟩
  replace he : e = .returned (.int .i64 0) := he
  replace q10 : vs10.map Wr.q = [aq2] := q10
  subst he
  have H10 := Lib.hid (And.intro t10 (And.intro q10 (Fx.lowT H9.out.1 H9.out.2.1 f10)))
  clear ca t10 q10 r10 f10
  try dsimp only
  go_wp2_with fail
  refine (num_f 11 _).mono ?_
  rintro e w11 ⟨rfl, b11⟩
  have H11 := Lib.hid (And.intro (H10.out.1.below b11) (H10.out.2.2.trans (b11.mono H10.out.2.2.size)))
  clear b11
  try dsimp only
  go_wp2_with fail
  have cd := due_num H11.out.1 11 (in64_ 11 (by decide)) 1
  rw [H10.out.2.1] at cd
  refine cd.mono ?_
  rintro e w12 ⟨A12, n12, c12, X12, vs12, rfl, hT, hX, hW, hq, hF⟩
  rw [al_5] at hX hq
  obtain ⟨hn, hc12, _⟩ := told_one hT hX
  subst hn
  have H12 := Lib.hid (And.intro hW (And.intro hq (Fx.lowT H11.out.1 H11.out.2 hF)))
  clear cd hT hX hW hq hF hc12
  try dsimp only
  go_wp2_with fail
  refine (num_f 12 _).mono ?_
  rintro e w13 ⟨rfl, b13⟩
  have H13 := Lib.hid (And.intro (H12.out.1.below b13) (H12.out.2.2.trans (b13.mono H12.out.2.2.size)))
  clear b13
  try dsimp only
  go_wp2_with fail
  have cd := due_num H13.out.1 12 (in64_ 12 (by decide)) 2
  rw [H12.out.2.1] at cd
  refine cd.mono ?_
  rintro e w14 ⟨A14, n14, c14, X14, vs14, rfl, hT, hX, hW, hq, hF⟩
  rw [al_6] at hX hq
  obtain rfl := told_none hT hX
  have H14 := Lib.hid (And.intro hW (And.intro hq (Fx.lowT H13.out.1 H13.out.2 hF)))
  clear cd hT hX hW hq hF
  try dsimp only
  go_wp2_with fail
  refine (wall_f H14.out.1).mono ?_
  rintro e w15 ⟨A15, n15, c15, X15, rfl, hT, hX, b15⟩
  rw [H14.out.2.1] at hX
  obtain ⟨hn, hc15', g15, x15, rfl, hx15, hg15, r15⟩ := told_one hT hX
  subst hn
  have y19 := r15 19 _ rfl
  rw [hx15] at y19
  replace y19 : w15.cell? ⟨g15, 19, none⟩ = some (.int .i64 1) := by rw [Nat.zero_add] at y19; exact y19
  have bl := H14.out.2.2.trans (b15.mono (Nat.le_of_lt H14.out.1.lt))
  have y20 : w15.cell? ⟨g7, 20, none⟩ = some (.int .i64 1) := by
    have := H7.out.2.2.2.1
    rw [Nat.zero_add] at this
    exact (bl.cell (p := ⟨g7, 20, none⟩) H7.out.2.2.2.2.2).trans this
  have y14 : w15.cell? ⟨g7, 14, none⟩ = some (.int .i64 2) := by
    have := H7.out.2.2.2.2.1
    rw [Nat.zero_add] at this
    exact (bl.cell (p := ⟨g7, 14, none⟩) H7.out.2.2.2.2.2).trans this
  have t1 := H7.out.1.below bl
  have H15 := Lib.hid (And.intro t1 (And.intro (H14.out.1.below b15) (H7.out.2.2.1.trans (bl.mono H7.out.2.2.1.size))))
  have hc15 : (1 : Int) ≤ c15 := by omega
  clear hT hX b15 hx15 hg15 r15 bl t1
  try dsimp only
  go_wp2_with fail
  have cl := wlen_f H15.out.1
  rw [len_one H7.out.2.1] at cl
  refine cl.mono ?_
  rintro e w' ⟨rfl, hw⟩
  obtain rfl := hw.symm
  clear cl
  try dsimp only
  go_wp2_with fail
  have ha := alloc_below w15 (.cells #[.int .i64 3] 3)
  have cdp := wdroppath_f (H15.out.1.below ha) (some ⟨w15.heap.size, 0, none⟩) 1 1 [3] (fun W hf => path_keep H15.out.1 hf) (by decide) (fun x hx => (H15.out.1.each x hx).1.2.1.cap)
  rw [len_one H7.out.2.1, left_one H7.out.2.1 rfl, show (((1 : Nat) : Int) - ((([] : List Wr).length : Nat) : Int)) = 1 from rfl] at cdp
  refine cdp.mono ?_
  rintro e w16 ⟨rfl, v16, hW16, hF16, _⟩
  have hlt7 := H7.out.1.lt
  have t2 := (H15.out.2.1.below ha).fxo hF16 hlt7 (fun k hk => (H7.out.1.row.lt k hk).2)
  have H16 := Lib.hid (And.intro t2 (And.intro (Fx.lowT (H15.out.1.below ha) (H15.out.2.2.trans (ha.mono H15.out.2.2.size)) hF16) hlt7))
  clear cdp ha hW16 hF16 t2 hlt7
  try dsimp only
  go_wp2_with fail
  have ha := alloc_below w16 (.cells #[.int .u8 7] 5)
  have cdr := wdrop_f (H16.out.1.below ha) 1 (some ⟨w16.heap.size, 0, none⟩) 1 1 [7] (fun W hf => tok_keep H16.out.1 hf)
  rw [len_one H14.out.2.1, left_one H14.out.2.1 rfl, show decide ((([] : List Wr).length) < 1) = true from rfl] at cdr
  refine cdr.mono ?_
  rintro e w17 ⟨rfl, v17, hW17, hF17, _⟩
  have bl := Fx.lowT (H16.out.1.below ha) (ha.mono (Nat.le_of_lt H16.out.1.lt)) hF17
  have H17 := Lib.hid (And.intro hW17 (H16.out.2.1.trans (bl.mono (Nat.le_of_lt H16.out.2.2))))
  clear cdr ha hW17 hF17 bl
  try dsimp only
  go_wp2_with fail
  have ha := alloc_below w17 (.cells #[.int .u8 7] 5)
  have cdr := wdrop_f (H17.out.1.below ha) 1 (some ⟨w17.heap.size, 0, none⟩) 1 1 [7] (fun W hf => tok_keep H17.out.1 hf)
  rw [show leftW (hitW 1 [7]) [] = [] from rfl, show decide ((([] : List Wr).length) < ([] : List Wr).length) = false from rfl] at cdr
  refine cdr.mono ?_
  rintro e w18 ⟨rfl, v18, hW18, hF18, _⟩
  have bl := Fx.lowT (H17.out.1.below ha) (ha.mono (Nat.le_of_lt H17.out.1.lt)) hF18
  have H18 := Lib.hid (And.intro hW18 (H17.out.2.trans (bl.mono (Nat.le_of_lt H16.out.2.2))))
  clear cdr ha hW18 hF18 bl
  try dsimp only
  go_wp2_with fail
  have cds := wdropsv_f H18.out.1 1
  rw [show leftW (fun q => q.sv == 1) [] = [] from rfl, show (((([] : List Wr).length : Nat) : Int) - ((([] : List Wr).length : Nat) : Int)) = 0 from rfl] at cds
  refine cds.mono ?_
  rintro e w19 ⟨rfl, v19, hW19, hF19, _⟩
  have bl := Fx.lowT H18.out.1 (Below.refl _ _) hF19
  have H19 := Lib.hid (H18.out.2.trans (bl.mono (Nat.le_of_lt H16.out.2.2)))
  clear cds hW19 hF19 bl
  try dsimp only
  go_wp2_with fail
  refine (fresh_f 1 2 0 0 w19).mono ?_
  rintro e w' ⟨rfl, hw⟩
  obtain rfl := hw.symm
  rw [al_7]
  try dsimp only
  go_wp2_with fail
  refine (fresh_f 2 1 0 0 w19).mono ?_
  rintro e w' ⟨rfl, hw⟩
  obtain rfl := hw.symm
  rw [al_8]
  try dsimp only
  go_wp2_with fail
  refine (fresh_f 2 1 0 200 w19).mono ?_
  rintro e w' ⟨rfl, hw⟩
  obtain rfl := hw.symm
  rw [al_9]
  try dsimp only
  go_wp2
  go_ret
  exact ⟨rfl, H19.out⟩
end Go.Proofs.Ytmaeofhgbelciaa
