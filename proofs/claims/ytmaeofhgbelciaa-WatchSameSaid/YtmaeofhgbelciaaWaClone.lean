/-
  A value's clone, a watch's clone.
-/
import Derived.Test.YtmaeofhgbelciaaWaBase
import Derived.Test.YtmaeofhgbelciaaRelMem
namespace Go.Proofs.Ytmaeofhgbelciaa
open Go.RowKit
set_option maxRecDepth 100000
set_option maxRecDepth 100000
set_option linter.unusedVariables false
theorem range_stored {W : World} {b : Nat} {vs : List Value} (h : W.there b 0 vs.length) : (W.setCells b 0 vs).rangeAt b 0 vs := by
  intro j v hv
  have hj := (List.getElem?_eq_some_iff.1 hv).1
  rw [World.cell?_setCells_in b vs 0 W (fun k hk => (h k hk).1) j hj]
  rw [List.getElem?_eq_getElem hj] at hv
  exact hv
theorem Ob.fxn {w w' : World} {b B n c : Nat} {A : Option Addr} {l : List UInt8} (h : Ob w B A n c l) (hf : Fx b none w w') (hb : b < B) : Ob w' B A n c l := ⟨hf.row_ h.1 (own_low h.1 hb) (own_no _), h.2⟩
theorem Oi.fxn {w w' : World} {b B n c : Nat} {A : Option Addr} {l : List Int} (h : Oi w B A n c l) (hf : Fx b none w w') (hb : b < B) : Oi w' B A n c l := ⟨hf.row_ h.1 (own_low h.1 hb) (own_no _), h.2⟩
/-- What is made of a value's fields. -/
def PV (B : Nat) (s : ByteArray) (n : Nat) (l : List UInt8) (j : Nat) (w : World) (x : Value) : Prop :=
  match j with
  | 0 => x = .string s
  | _ => ∃ A c, x = .slice A n c ∧ Ob w B A n c l
theorem PV.keep {b B n : Nat} {s : ByteArray} {l : List UInt8} (hb : b < B) (j : Nat) (w w' : World) (x : Value) (hf : Fx b none w w') (h : PV B s n l j w x) : PV B s n l j w' x := by
  unfold PV at h ⊢
  split at h
  · exact h
  · obtain ⟨A, c, e, ho⟩ := h
    exact ⟨A, c, e, ho.fxn hf hb⟩
def VR (b : Nat) (s : ByteArray) (A : Option Addr) (n c : Nat) (g : Nat → Option Value) (i : Nat) (w : World) (v : Value) : Prop :=
  match i with
  | 0 => v = .pointer (some ⟨b, 2, none⟩)
  | 1 => v = .string s
  | 2 => g 0 = some v
  | 3 => v = .pointer (some ⟨b, 3, none⟩)
  | 4 => v = .slice A n c
  | 5 => g 1 = some v
  | 6 => v = .pointer (some ⟨b, 2, none⟩)
  | 8 => v = .pointer (some ⟨b, 3, none⟩)
  | _ => True
theorem VR.grow {b : Nat} {s : ByteArray} {A : Option Addr} {n c : Nat} (i : Nat) (g : Nat → Option Value) (w : World) (g' : Nat → Option Value) (w' : World) (v : Value) (hT : MT b g w g' w') (h : VR b s A n c g i w v) : VR b s A n c g' i w' v := by
  unfold VR at h ⊢
  split at h <;> first | exact h | exact hT.2 _ _ h | trivial
set_option maxHeartbeats 4000000 in
theorem vclone_f (v : Vq) (A : Option Addr) (n c : Nat) (w : World) (B : Nat) (hb : Bs w B A n v.b) (hB : B ≤ w.heap.size) (hn : (n : Int) ≤ 1048576) (hs : v.s.size ≤ 1048576) :
    Calls Try.prog 36 #[.agg (vvals v A n c).toArray] w fun e w' => ∃ A' c', e = .returned (.agg (vvals v A' n c').toArray) ∧ Ob w' w.heap.size A' n c' v.b ∧ Below w.heap.size w w' := by
  obtain ⟨k, m, s, l, o, i⟩ := v
  dsimp only [vvals] at *
  obtain ⟨W1, hW1⟩ : ∃ W1, ((w.alloc (.cells #[.int .i64 k, .int .i64 m, .string s, .slice A n c, .int .i64 o, .int .i64 i] 34)).alloc (.cells #[.int .i64 0, .int .i64 0, .string ⟨#[]⟩, .slice none 0 0, .int .i64 0, .int .i64 0] 34)) = W1 := ⟨_, rfl⟩
  have hz1 : W1.heap.size = w.heap.size + 2 := by rw [← hW1, alloc_size, alloc_size]
  have hbl : Below w.heap.size w W1 := by rw [← hW1]; exact (alloc_below w _).alloc (by rw [alloc_size]; omega) _
  have h0 : W1.heap[w.heap.size]? = some (.cells #[.int .i64 k, .int .i64 m, .string s, .slice A n c, .int .i64 o, .int .i64 i] 34 (0, 0)) := by rw [← hW1]; exact heap_alloc2_old w _ _
  have h1 : W1.there (w.heap.size + 1) 0 6 := by rw [← hW1]; exact there_new1 w _ _ _ rfl
  have hb1 : Bs W1 B A n l := hb.below' hbl hB
  have HH := Lib.hid (And.intro hz1 (And.intro hbl (And.intro h0 (And.intro h1 (And.intro hb1 (And.intro hB (And.intro hn hs)))))))
  have HW := Lib.hid hW1
  clear hz1 hbl h0 h1 hb1 hb hB hW1
  go_enter Try.func36, Try.ntmps36
  go_wp2
  rw [HW.out]
  have hP : ∀ j w2 w3 x, Fx w.heap.size none w2 w3 → PV (w.heap.size + 2) s n l j w2 x → PV (w.heap.size + 2) s n l j w3 x := fun j w2 w3 x => PV.keep (by omega) j w2 w3 x
  refine wp_region_relG2 (MC W1 w.heap.size 34 2 (fun j => [1, 4].getD j 0) (fun j => [2, 5].getD j 0) (fun j => [7, 9].getD j 0) (fun y => #[.int .i64 k, .int .i64 m, y 0, y 1, .int .i64 o, .int .i64 i]) (fun j => if j = 0 then .string s else .slice A n c) (PV (w.heap.size + 2) s n l)) (MT w.heap.size) (VR w.heap.size s A n c) [(1, .pointer (some ⟨w.heap.size, 0, none⟩))] (by kernel_rfl) (by kernel_rfl) (by kernel_rfl) ?base (fun _ => none) (MC.first ⟨fun j => if j = 0 then .string s else .slice A n c, HH.out.2.2.1, fun j _ => rfl⟩) VR.grow ?steps ?fin
  case base =>
    intro x hx
    simp only [List.mem_cons, List.not_mem_nil, or_false] at hx
    rcases hx with rfl <;> exact ⟨rfl, rfl⟩
  case steps =>
    refine steps_cons ?_ (steps_cons ?_ (steps_cons ?_ (steps_cons ?_ (steps_cons ?_ (steps_cons ?_ (steps_cons ?_ (steps_cons ?_ (steps_cons ?_ (steps_cons ?_ steps_nil)))))))))
    · intro a wx L g K hLi hLd hS hB hR hK
      rw [if_pos (wanted_none rfl)]
      have h1 := tmp_is (hB.1)
      go_simp
      exact hK (.pointer (some ⟨w.heap.size, 2, none⟩)) wx g (hS.quiet 0 (by decide)) (MT.refl _ _ _) rfl
    · intro a wx L g K hLi hLd hS hB hR hK
      rw [if_pos (wanted_none rfl)]
      have h3 := tmp_is (hR.1)
      obtain ⟨y, hy, hyj⟩ := hS.old (j := 0) (by decide) hLi
      have hc : wx.cell? ⟨w.heap.size, 2, none⟩ = some (.string s) := by rw [cell_of_row _ _ _ _ _ _ hy]; show some (y _) = _; rw [hyj]; rfl
      go_simp
      exact hK (.string s) wx g (hS.quiet 1 (by decide)) (MT.refl _ _ _) rfl
    · intro a wx L g K hLi hLd hS hB hR hK
      rw [if_pos (wanted_none rfl)]
      have h4 := tmp_is (hR.1)
      go_simp
      refine (sclone_f s wx HH.out.2.2.2.2.2.2.2).mono ?_
      rintro e w3 ⟨rfl, b3⟩
      obtain ⟨hS2, hT2⟩ := hS.call hP (by have := HH.out.1; have := hS.fr.size; omega) (j := 0) (by decide) hLi (by decide) b3 (.string s) rfl
      exact hK _ w3 _ hS2 hT2 (updF_eq _ _ _)
    · intro a wx L g K hLi hLd hS hB hR hK
      rw [if_pos (wanted_none rfl)]
      have h1 := tmp_is (hB.1)
      go_simp
      exact hK (.pointer (some ⟨w.heap.size, 3, none⟩)) wx g (hS.quiet 3 (by decide)) (MT.refl _ _ _) rfl
    · intro a wx L g K hLi hLd hS hB hR hK
      rw [if_pos (wanted_none rfl)]
      have h6 := tmp_is (hR.1)
      obtain ⟨y, hy, hyj⟩ := hS.old (j := 1) (by decide) hLi
      have hc : wx.cell? ⟨w.heap.size, 3, none⟩ = some (.slice A n c) := by rw [cell_of_row _ _ _ _ _ _ hy]; show some (y _) = _; rw [hyj]; rfl
      go_simp
      exact hK (.slice A n c) wx g (hS.quiet 4 (by decide)) (MT.refl _ _ _) rfl
    · intro a wx L g K hLi hLd hS hB hR hK
      rw [if_pos (wanted_none rfl)]
      have h7 := tmp_is (hR.1)
      go_simp
      refine (clone_f A n c l wx _ (HH.out.2.2.2.2.1.below (hS.fr.toBelow HH.out.2.2.2.2.2.1 (by have := HH.out.1; have := HH.out.2.2.2.2.2.1; omega) (fun k h => by cases h))) (by have := HH.out.1; have := hS.fr.size; have := HH.out.2.2.2.2.2.1; omega) (by have := HH.out.2.2.2.2.2.2.1; omega)).mono ?_
      rintro e w3 ⟨v3, rfl, ho3, b3⟩
      obtain ⟨hS2, hT2⟩ := hS.call hP (by have := HH.out.1; have := hS.fr.size; omega) (j := 1) (by decide) hLi (by decide) b3 (v3) (by obtain ⟨A3, c3, rfl, _⟩ := Bs.of_own ho3; have hl := HH.out.2.2.2.2.1.len; rw [hl] at ho3 ⊢; exact ⟨A3, c3, rfl, rk_mono ho3 (by have := HH.out.1; have := hS.fr.size; omega), HH.out.2.2.2.2.2.2.1⟩)
      exact hK _ w3 _ hS2 hT2 (updF_eq _ _ _)
    · intro a wx L g K hLi hLd hS hB hR hK
      rw [if_pos (wanted_none rfl)]
      have h1 := tmp_is (hB.1)
      go_simp
      exact hK (.pointer (some ⟨w.heap.size, 2, none⟩)) wx g (hS.quiet 6 (by decide)) (MT.refl _ _ _) rfl
    · intro a wx L g K hLi hLd hS hB hR hK
      rw [if_pos (wanted_none rfl)]
      have h9 := tmp_is (hR.1)
      have hv := hR.2.1
      have hth := hS.there (n := 6) (fun _ => rfl)
      obtain ⟨xv, hxv⟩ : ∃ xv, a.eval (.tmp 5) = xv := ⟨_, rfl⟩
      have h5 := tmp_is hxv
      replace hv : g 0 = some xv := by rw [← hxv]; exact hv
      obtain rfl : xv = .string s := hS.made 0 _ hv
      have hc := (hth 2 (by omega)).1
      have hf := (hth 2 (by omega)).2
      obtain ⟨u, hu⟩ := Option.isSome_iff_exists.1 hc
      rw [Nat.zero_add] at hu hf
      go_simp
      obtain ⟨hS2, hT2⟩ := hS.store hP (j := 0) (by decide) (hLd 1 (by decide)) (by decide) hv 2 [_] (fun y => (by decide : 3 ≤ 6)) (fun y => rfl)
      exact hK undef _ _ hS2 hT2 trivial
    · intro a wx L g K hLi hLd hS hB hR hK
      rw [if_pos (wanted_none rfl)]
      have h1 := tmp_is (hB.1)
      go_simp
      exact hK (.pointer (some ⟨w.heap.size, 3, none⟩)) wx g (hS.quiet 8 (by decide)) (MT.refl _ _ _) rfl
    · intro a wx L g K hLi hLd hS hB hR hK
      rw [if_pos (wanted_none rfl)]
      have h10 := tmp_is (hR.1)
      have hv := hR.2.1
      have hth := hS.there (n := 6) (fun _ => rfl)
      obtain ⟨xv, hxv⟩ : ∃ xv, a.eval (.tmp 8) = xv := ⟨_, rfl⟩
      have h8 := tmp_is hxv
      replace hv : g 1 = some xv := by rw [← hxv]; exact hv
      obtain ⟨A3, c3, rfl, _⟩ := hS.made 1 _ hv
      have hc := (hth 3 (by omega)).1
      have hf := (hth 3 (by omega)).2
      obtain ⟨u, hu⟩ := Option.isSome_iff_exists.1 hc
      rw [Nat.zero_add] at hu hf
      go_simp
      obtain ⟨hS2, hT2⟩ := hS.store hP (j := 1) (by decide) (hLd 4 (by decide)) (by decide) hv 3 [_] (fun y => (by decide : 4 ≤ 6)) (fun y => rfl)
      exact hK undef _ _ hS2 hT2 trivial
  case fin =>
    intro a wx L g hS hL ha hR
    obtain ⟨y, hy, hyj⟩ := hS.blk
    have g0 := hS.made 0 _ ((hyj 0 (by decide)).2 (hL 7 (by decide)))
    have g1 := hS.made 1 _ ((hyj 1 (by decide)).2 (hL 9 (by decide)))
    obtain ⟨A3, c3, e3, ho3⟩ := g1
    replace g0 : y 0 = .string s := g0
    try dsimp only at hy
    rw [g0, e3] at hy
    have hr : wx.rangeAt w.heap.size 0 [.int .i64 k, .int .i64 m, .string s, .slice A3 n c3, .int .i64 o, .int .i64 i] := fun j u hj => by
      rw [Nat.zero_add, cell_of_row _ _ _ _ _ _ hy, ← Array.getElem?_toList]; exact hj
    have ht : wx.there (w.heap.size + 1) 0 6 := fun j hj => by
      have hb2 := hS.fr.block (w.heap.size + 1) (by have := HH.out.1; omega) (by omega) (by simp)
      have := HH.out.2.2.2.1 j hj
      rw [World.cell?_of_block hb2]
      refine ⟨this.1, ?_⟩
      rw [← this.2]
      unfold World.frozen?
      rw [hb2]
    have hbel : Below w.heap.size w wx := HH.out.2.1.trans (hS.fr.toBelow (Nat.le_refl _) (by have := HH.out.1; omega) (fun k h => by cases h))
    have HX := Lib.hid (And.intro ht (And.intro hbel ho3))
    clear hR hS hy hyj g0 e3 ho3 ht hbel hP
    simp only [pin] at ha
    rw [ha]
    simp only [List.setIfInBounds_toArray, List.set_cons_zero, List.set_cons_succ]
    clear ha
    go_wp2_with (first | (refine wpList_load_mid rfl 34 (.tmp 1) rfl w.heap.size 0 rfl [.int .i64 k, .int .i64 m, .string s, .slice A3 n c3, .int .i64 o, .int .i64 i] _ hr Try.underlying34 rfl size_vl ?_) | (refine wpList_store_mid rfl 34 (.tmp 2) (.tmp 11) rfl (w.heap.size + 1) 0 #[.int .i64 k, .int .i64 m, .string s, .slice A3 n c3, .int .i64 o, .int .i64 i] rfl rfl HX.out.1 size_vl (all_oneCell_toArray (vv_one ⟨k, m, s, l, o, i⟩ A3 n c3)) ?_))
    refine bodyPost_ret (results_cell_mid rfl _ _ (w.heap.size + 1) 0 [.int .i64 k, .int .i64 m, .string s, .slice A3 n c3, .int .i64 o, .int .i64 i] _ rfl (range_stored HX.out.1) Try.underlying34 rfl size_vl) rfl ?_
    refine ⟨A3, c3, rfl, ?_, below_setCells HX.out.2.1 (by omega) _ 0⟩
    obtain ⟨ho, hn3⟩ := HX.out.2.2
    obtain ⟨o1, o2, o3⟩ := os_setCells [.int .i64 k, .int .i64 m, .string s, .slice A3 n c3, .int .i64 o, .int .i64 i] (w.heap.size + 1) 0 wx
    have hf : Fx (w.heap.size + 1) none wx (wx.setCells (w.heap.size + 1) 0 [.int .i64 k, .int .i64 m, .string s, .slice A3 n c3, .int .i64 o, .int .i64 i]) := ⟨o1, o2, o3, by rw [size_setCells']; exact Nat.le_refl _, fun k _ hk _ => heap_setCells_other (w.heap.size + 1) k hk _ 0 wx⟩
    exact (Ob.fxn ⟨ho, hn3⟩ hf (by omega)).mono (by omega)
/-- What is made of a watch's fields. -/
def PW (B : Nat) (tn : Nat) (tok : List UInt8) (pn : Nat) (pa : List Int) (bn : Nat) (l : List UInt8) (j : Nat) (w : World) (x : Value) : Prop :=
  match j with
  | 0 => ∃ A c, x = .slice A tn c ∧ Ob w B A tn c tok
  | 1 => ∃ A c, x = .slice A pn c ∧ Oi w B A pn c pa
  | _ => ∃ A c, x = .slice A bn c ∧ Ob w B A bn c l
theorem PW.keep {b B tn : Nat} {tok : List UInt8} {pn : Nat} {pa : List Int} {bn : Nat} {l : List UInt8} (hb : b < B) (j : Nat) (w w' : World) (x : Value) (hf : Fx b none w w') (h : PW B tn tok pn pa bn l j w x) : PW B tn tok pn pa bn l j w' x := by
  unfold PW at h ⊢
  split at h
  · obtain ⟨A, c, e, ho⟩ := h
    exact ⟨A, c, e, ho.fxn hf hb⟩
  · obtain ⟨A, c, e, ho⟩ := h
    exact ⟨A, c, e, ho.fxn hf hb⟩
  · obtain ⟨A, c, e, ho⟩ := h
    exact ⟨A, c, e, ho.fxn hf hb⟩
def WR (b : Nat) (x0 x1 : Value) (vl : Value → Value) (x2 : Value) (g : Nat → Option Value) (i : Nat) (w : World) (v : Value) : Prop :=
  match i with
  | 0 => v = .pointer (some ⟨b, 1, none⟩)
  | 1 => v = x0
  | 2 => g 0 = some v
  | 3 => v = .pointer (some ⟨b, 2, none⟩)
  | 4 => v = x1
  | 5 => g 1 = some v
  | 6 => v = .pointer (some ⟨b, 13, none⟩)
  | 7 => v = vl x2
  | 8 => ∃ x, g 2 = some x ∧ v = vl x
  | 9 => v = .pointer (some ⟨b, 1, none⟩)
  | 11 => v = .pointer (some ⟨b, 2, none⟩)
  | 13 => v = .pointer (some ⟨b, 13, none⟩)
  | _ => True
theorem WR.grow {b : Nat} {x0 x1 : Value} {vl : Value → Value} {x2 : Value} (i : Nat) (g : Nat → Option Value) (w : World) (g' : Nat → Option Value) (w' : World) (v : Value) (hT : MT b g w g' w') (h : WR b x0 x1 vl x2 g i w v) : WR b x0 x1 vl x2 g' i w' v := by
  unfold WR at h ⊢
  split at h
  all_goals first | exact h | exact hT.2 _ _ h | exact trivial | (obtain ⟨x, h1, h2⟩ := h; exact ⟨x, hT.2 _ _ h1, h2⟩)
/-- A watch whose memory is of the call's own. -/
def Wok (w : World) (B : Nat) (s : Wr) : Prop := Ob w B s.tA s.tn s.tc s.q.tok ∧ Oi w B s.pA s.pn s.pc s.q.pa ∧ Ob w B s.bA s.bn s.bc s.q.v.b
/-- A watch that can be read. -/
def Wrd (w : World) (B : Nat) (s : Wr) : Prop := Bs w B s.tA s.tn s.q.tok ∧ inK.At w B s.pA s.pn s.q.pa ∧ Bs w B s.bA s.bn s.q.v.b
def Wsm (s : Wr) : Prop := (s.tn : Int) ≤ 1048576 ∧ (s.pn : Int) ≤ 1048576 ∧ (s.bn : Int) ≤ 1048576 ∧ s.q.v.s.size ≤ 1048576
set_option maxHeartbeats 8000000 in
theorem wclone_f (s : Wr) (w : World) (B : Nat) (h : Wrd w B s) (hB : B ≤ w.heap.size) (hsm : Wsm s) :
    Calls Try.prog 34 #[.agg s.vals.toArray] w fun e w' => ∃ s' : Wr, e = .returned (.agg s'.vals.toArray) ∧ s'.q = s.q ∧ Wok w' w.heap.size s' ∧ Wsm s' ∧ Below w.heap.size w w' := by
  obtain ⟨⟨sv, tok, pa, ⟨ca, cb, cha, chb, cg, cl, cs, chg, chl, chs⟩, ⟨k, m, str, l, o, i⟩, t, sq⟩, tA, tn, tc, pA, pn, pc, bA, bn, bc⟩ := s
  obtain ⟨h1, h2, h3⟩ := h
  obtain ⟨z1, z2, z3, z4⟩ := hsm
  dsimp only [Wr.vals] at *
  obtain ⟨W1, hW1⟩ : ∃ W1, ((w.alloc (.cells #[.int .i64 sv, .slice tA tn tc, .slice pA pn pc, .int .i64 ca, .int .i64 cb, .bool cha, .bool chb, .int .i64 cg, .int .i64 cl, .int .i64 cs, .bool chg, .bool chl, .bool chs, .int .i64 k, .int .i64 m, .string str, .slice bA bn bc, .int .i64 o, .int .i64 i, .int .i64 t, .int .i64 sq] 37)).alloc (.cells #[.int .i64 0, .slice none 0 0, .slice none 0 0, .int .i64 0, .int .i64 0, .bool false, .bool false, .int .i64 0, .int .i64 0, .int .i64 0, .bool false, .bool false, .bool false, .int .i64 0, .int .i64 0, .string ⟨#[]⟩, .slice none 0 0, .int .i64 0, .int .i64 0, .int .i64 0, .int .i64 0] 37)) = W1 := ⟨_, rfl⟩
  have hz1 : W1.heap.size = w.heap.size + 2 := by rw [← hW1, alloc_size, alloc_size]
  have hbl : Below w.heap.size w W1 := by rw [← hW1]; exact (alloc_below w _).alloc (by rw [alloc_size]; omega) _
  have h0 : W1.heap[w.heap.size]? = some (.cells #[.int .i64 sv, .slice tA tn tc, .slice pA pn pc, .int .i64 ca, .int .i64 cb, .bool cha, .bool chb, .int .i64 cg, .int .i64 cl, .int .i64 cs, .bool chg, .bool chl, .bool chs, .int .i64 k, .int .i64 m, .string str, .slice bA bn bc, .int .i64 o, .int .i64 i, .int .i64 t, .int .i64 sq] 37 (0, 0)) := by rw [← hW1]; exact heap_alloc2_old w _ _
  have ht1 : W1.there (w.heap.size + 1) 0 21 := by rw [← hW1]; exact there_new1 w _ _ _ rfl
  have hb1 := h1.below' hbl hB
  have hb2 := h2.below' hbl hB
  have hb3 := h3.below' hbl hB
  have HZ := Lib.hid (And.intro z1 (And.intro z2 (And.intro z3 z4)))
  have HH := Lib.hid (And.intro hz1 (And.intro hbl (And.intro h0 (And.intro ht1 (And.intro hB (And.intro hb1 (And.intro hb2 hb3)))))))
  have HW := Lib.hid hW1
  clear hz1 hbl h0 ht1 hb1 hb2 hb3 h1 h2 h3 hB hW1 z1 z2 z3 z4
  go_enter Try.func34, Try.ntmps34
  go_wp2
  rw [HW.out]
  have hP : ∀ j w2 w3 x, Fx w.heap.size none w2 w3 → PW (w.heap.size + 2) tn tok pn pa bn l j w2 x → PW (w.heap.size + 2) tn tok pn pa bn l j w3 x := fun j w2 w3 x => PW.keep (by omega) j w2 w3 x
  refine wp_region_relG2 (MC W1 w.heap.size 37 3 (fun j => [1, 4, 7].getD j 0) (fun j => [2, 5, 8].getD j 0) (fun j => [10, 12, 14].getD j 0) (fun y => #[.int .i64 sv, y 0, y 1, .int .i64 ca, .int .i64 cb, .bool cha, .bool chb, .int .i64 cg, .int .i64 cl, .int .i64 cs, .bool chg, .bool chl, .bool chs, .int .i64 k, .int .i64 m, .string str, y 2, .int .i64 o, .int .i64 i, .int .i64 t, .int .i64 sq]) (fun j => if j = 0 then .slice tA tn tc else if j = 1 then .slice pA pn pc else .slice bA bn bc) (PW (w.heap.size + 2) tn tok pn pa bn l)) (MT w.heap.size) (WR w.heap.size (.slice tA tn tc) (.slice pA pn pc) (fun x => .agg #[.int .i64 k, .int .i64 m, .string str, x, .int .i64 o, .int .i64 i]) (.slice bA bn bc)) [(1, .pointer (some ⟨w.heap.size, 0, none⟩))] (by kernel_rfl) (by kernel_rfl) (by kernel_rfl) ?base (fun _ => none) (MC.first ⟨(fun j => if j = 0 then .slice tA tn tc else if j = 1 then .slice pA pn pc else .slice bA bn bc), HH.out.2.2.1, fun j _ => rfl⟩) WR.grow ?steps ?fin
  case base =>
    intro x hx
    simp only [List.mem_cons, List.not_mem_nil, or_false] at hx
    rcases hx with rfl <;> exact ⟨rfl, rfl⟩
  case steps =>
    refine steps_cons ?_ (steps_cons ?_ (steps_cons ?_ (steps_cons ?_ (steps_cons ?_ (steps_cons ?_ (steps_cons ?_ (steps_cons ?_ (steps_cons ?_ (steps_cons ?_ (steps_cons ?_ (steps_cons ?_ (steps_cons ?_ (steps_cons ?_ (steps_cons ?_ steps_nil))))))))))))))
    · intro a wx L g K hLi hLd hS hB hR hK
      rw [if_pos (wanted_none rfl)]
      have h1 := tmp_is (hB.1)
      go_simp
      exact hK (.pointer (some ⟨w.heap.size, 1, none⟩)) wx g (hS.quiet 0 (by decide)) (MT.refl _ _ _) rfl
    · intro a wx L g K hLi hLd hS hB hR hK
      rw [if_pos (wanted_none rfl)]
      have h3 := tmp_is (hR.1)
      obtain ⟨y, hy, hyj⟩ := hS.old (j := 0) (by decide) hLi
      have hc : wx.cell? ⟨w.heap.size, 1, none⟩ = some (.slice tA tn tc) := by rw [cell_of_row _ _ _ _ _ _ hy]; show some (y _) = _; rw [hyj]; rfl
      go_simp
      exact hK (.slice tA tn tc) wx g (hS.quiet 1 (by decide)) (MT.refl _ _ _) rfl
    · intro a wx L g K hLi hLd hS hB hR hK
      rw [if_pos (wanted_none rfl)]
      have h4 := tmp_is (hR.1)
      go_simp
      refine (clone_f tA tn tc tok wx _ (HH.out.2.2.2.2.2.1.below (hS.fr.toBelow HH.out.2.2.2.2.1 (by have := HH.out.1; have := HH.out.2.2.2.2.1; omega) (fun k h => by cases h))) (by have := HH.out.1; have := hS.fr.size; have := HH.out.2.2.2.2.1; omega) (by have := HZ.out.1; omega)).mono ?_
      rintro e w3 ⟨v3, rfl, ho3, b3⟩
      obtain ⟨hS2, hT2⟩ := hS.call hP (by have := HH.out.1; have := hS.fr.size; omega) (j := 0) (by decide) hLi (by decide) b3 (v3) (by obtain ⟨A3, c3, rfl, _⟩ := Bs.of_own ho3; have hl := HH.out.2.2.2.2.2.1.len; rw [hl] at ho3 ⊢; exact ⟨A3, c3, rfl, rk_mono ho3 (by have := HH.out.1; have := hS.fr.size; omega), HZ.out.1⟩)
      exact hK _ w3 _ hS2 hT2 (updF_eq _ _ _)
    · intro a wx L g K hLi hLd hS hB hR hK
      rw [if_pos (wanted_none rfl)]
      have h1 := tmp_is (hB.1)
      go_simp
      exact hK (.pointer (some ⟨w.heap.size, 2, none⟩)) wx g (hS.quiet 3 (by decide)) (MT.refl _ _ _) rfl
    · intro a wx L g K hLi hLd hS hB hR hK
      rw [if_pos (wanted_none rfl)]
      have h6 := tmp_is (hR.1)
      obtain ⟨y, hy, hyj⟩ := hS.old (j := 1) (by decide) hLi
      have hc : wx.cell? ⟨w.heap.size, 2, none⟩ = some (.slice pA pn pc) := by rw [cell_of_row _ _ _ _ _ _ hy]; show some (y _) = _; rw [hyj]; rfl
      go_simp
      exact hK (.slice pA pn pc) wx g (hS.quiet 4 (by decide)) (MT.refl _ _ _) rfl
    · intro a wx L g K hLi hLd hS hB hR hK
      rw [if_pos (wanted_none rfl)]
      have h7 := tmp_is (hR.1)
      go_simp
      refine (iclone_f pA pn pc pa wx _ (HH.out.2.2.2.2.2.2.1.below (hS.fr.toBelow HH.out.2.2.2.2.1 (by have := HH.out.1; have := HH.out.2.2.2.2.1; omega) (fun k h => by cases h))) (by have := HH.out.1; have := hS.fr.size; have := HH.out.2.2.2.2.1; omega) HZ.out.2.1).mono ?_
      rintro e w3 ⟨A3, c3, rfl, ho3, b3⟩
      obtain ⟨hS2, hT2⟩ := hS.call hP (by have := HH.out.1; have := hS.fr.size; omega) (j := 1) (by decide) hLi (by decide) b3 (.slice A3 pn c3) ⟨A3, c3, rfl, ho3.mono (by have := HH.out.1; have := hS.fr.size; omega)⟩
      exact hK _ w3 _ hS2 hT2 (updF_eq _ _ _)
    · intro a wx L g K hLi hLd hS hB hR hK
      rw [if_pos (wanted_none rfl)]
      have h1 := tmp_is (hB.1)
      go_simp
      exact hK (.pointer (some ⟨w.heap.size, 13, none⟩)) wx g (hS.quiet 6 (by decide)) (MT.refl _ _ _) rfl
    · intro a wx L g K hLi hLd hS hB hR hK
      rw [if_pos (wanted_none rfl)]
      obtain ⟨y, hy, hyj⟩ := hS.old (j := 2) (by decide) hLi
      have hk : ∀ q, wx.cell? ⟨w.heap.size, q, none⟩ = (#[.int .i64 sv, y 0, y 1, .int .i64 ca, .int .i64 cb, .bool cha, .bool chb, .int .i64 cg, .int .i64 cl, .int .i64 cs, .bool chg, .bool chl, .bool chs, .int .i64 k, .int .i64 m, .string str, y 2, .int .i64 o, .int .i64 i, .int .i64 t, .int .i64 sq])[q]? := fun q => cell_of_row _ _ _ _ _ _ hy
      replace hyj : y 2 = .slice bA bn bc := hyj
      rw [hyj] at hk
      have k0 := hk 13
      have k1 := hk 14
      have k2 := hk 15
      have k3 := hk 16
      have k4 := hk 17
      have k5 := hk 18
      clear hk hy
      have hrg : wx.rangeAt w.heap.size 13 [.int .i64 k, .int .i64 m, .string str, .slice bA bn bc, .int .i64 o, .int .i64 i] := fun j u hj => by
        match j, hj with
        | 0, hj => exact k0.trans hj
        | 1, hj => exact k1.trans hj
        | 2, hj => exact k2.trans hj
        | 3, hj => exact k3.trans hj
        | 4, hj => exact k4.trans hj
        | 5, hj => exact k5.trans hj
      refine wp_load_mid 34 (.tmp 9) (by rfl) w.heap.size 13 (hR.1) [.int .i64 k, .int .i64 m, .string str, .slice bA bn bc, .int .i64 o, .int .i64 i] _ hrg Try.underlying34 rfl size_vl ?_
      exact hK (.agg #[.int .i64 k, .int .i64 m, .string str, .slice bA bn bc, .int .i64 o, .int .i64 i]) wx g (hS.quiet 7 (by decide)) (MT.refl _ _ _) rfl
    · intro a wx L g K hLi hLd hS hB hR hK
      rw [if_pos (wanted_none rfl)]
      have h10 := tmp_is (hR.1)
      go_simp
      refine (vclone_f ⟨k, m, str, l, o, i⟩ bA bn bc wx _ (HH.out.2.2.2.2.2.2.2.below (hS.fr.toBelow HH.out.2.2.2.2.1 (by have := HH.out.1; have := HH.out.2.2.2.2.1; omega) (fun k h => by cases h))) (by have := HH.out.1; have := hS.fr.size; have := HH.out.2.2.2.2.1; omega) HZ.out.2.2.1 HZ.out.2.2.2).mono ?_
      rintro e w3 ⟨A3, c3, rfl, ho3, b3⟩
      obtain ⟨hS2, hT2⟩ := hS.call hP (by have := HH.out.1; have := hS.fr.size; omega) (j := 2) (by decide) hLi (by decide) b3 (.slice A3 bn c3) ⟨A3, c3, rfl, ho3.mono (by have := HH.out.1; have := hS.fr.size; omega)⟩
      exact hK _ w3 _ hS2 hT2 ⟨_, updF_eq _ _ _, rfl⟩
    · intro a wx L g K hLi hLd hS hB hR hK
      rw [if_pos (wanted_none rfl)]
      have h1 := tmp_is (hB.1)
      go_simp
      exact hK (.pointer (some ⟨w.heap.size, 1, none⟩)) wx g (hS.quiet 9 (by decide)) (MT.refl _ _ _) rfl
    · intro a wx L g K hLi hLd hS hB hR hK
      rw [if_pos (wanted_none rfl)]
      have h12 := tmp_is (hR.1)
      have hv := hR.2.1
      have hth := hS.there (n := 21) (fun _ => rfl)
      obtain ⟨xv, hxv⟩ : ∃ xv, a.eval (.tmp 5) = xv := ⟨_, rfl⟩
      have h5 := tmp_is hxv
      replace hv : g 0 = some xv := by rw [← hxv]; exact hv
      obtain ⟨A3, c3, rfl, _⟩ := hS.made 0 _ hv
      have hc := (hth 1 (by omega)).1
      have hf := (hth 1 (by omega)).2
      obtain ⟨u, hu⟩ := Option.isSome_iff_exists.1 hc
      rw [Nat.zero_add] at hu hf
      go_simp
      obtain ⟨hS2, hT2⟩ := hS.store hP (j := 0) (by decide) (hLd 1 (by decide)) (by decide) hv 1 [_] (fun y => (by decide : 2 ≤ 21)) (fun y => rfl)
      exact hK undef _ _ hS2 hT2 trivial
    · intro a wx L g K hLi hLd hS hB hR hK
      rw [if_pos (wanted_none rfl)]
      have h1 := tmp_is (hB.1)
      go_simp
      exact hK (.pointer (some ⟨w.heap.size, 2, none⟩)) wx g (hS.quiet 11 (by decide)) (MT.refl _ _ _) rfl
    · intro a wx L g K hLi hLd hS hB hR hK
      rw [if_pos (wanted_none rfl)]
      have h13 := tmp_is (hR.1)
      have hv := hR.2.1
      have hth := hS.there (n := 21) (fun _ => rfl)
      obtain ⟨xv, hxv⟩ : ∃ xv, a.eval (.tmp 8) = xv := ⟨_, rfl⟩
      have h8 := tmp_is hxv
      replace hv : g 1 = some xv := by rw [← hxv]; exact hv
      obtain ⟨A3, c3, rfl, _⟩ := hS.made 1 _ hv
      have hc := (hth 2 (by omega)).1
      have hf := (hth 2 (by omega)).2
      obtain ⟨u, hu⟩ := Option.isSome_iff_exists.1 hc
      rw [Nat.zero_add] at hu hf
      go_simp
      obtain ⟨hS2, hT2⟩ := hS.store hP (j := 1) (by decide) (hLd 4 (by decide)) (by decide) hv 2 [_] (fun y => (by decide : 3 ≤ 21)) (fun y => rfl)
      exact hK undef _ _ hS2 hT2 trivial
    · intro a wx L g K hLi hLd hS hB hR hK
      rw [if_pos (wanted_none rfl)]
      have h1 := tmp_is (hB.1)
      go_simp
      exact hK (.pointer (some ⟨w.heap.size, 13, none⟩)) wx g (hS.quiet 13 (by decide)) (MT.refl _ _ _) rfl
    · intro a wx L g K hLi hLd hS hB hR hK
      rw [if_pos (wanted_none rfl)]
      obtain ⟨xv, hg, hv⟩ := hR.2.1
      obtain ⟨A3, c3, rfl, _⟩ := hS.made 2 _ hg
      have hth : wx.there w.heap.size 13 6 := fun j hj => by
        have := hS.there (n := 21) (fun _ => rfl) (13 + j) (by omega)
        rwa [Nat.zero_add] at this
      obtain ⟨hS2, hT2⟩ := hS.store hP (j := 2) (by decide) (hLd 7 (by decide)) (by decide) hg 13 [.int .i64 k, .int .i64 m, .string str, .slice A3 bn c3, .int .i64 o, .int .i64 i] (fun y => (by decide : 19 ≤ 21)) (fun y => rfl)
      refine wp_store_mid 34 (.tmp 14) (.tmp 11) (by rfl) w.heap.size 13 #[.int .i64 k, .int .i64 m, .string str, .slice A3 bn c3, .int .i64 o, .int .i64 i] (hR.1) hv hth size_vl (all_oneCell_toArray (vv_one ⟨k, m, str, l, o, i⟩ A3 bn c3)) ?_
      exact hK undef _ _ hS2 hT2 trivial
  case fin =>
    intro a wx L g hS hL ha hR
    obtain ⟨y, hy, hyj⟩ := hS.blk
    obtain ⟨A1, c1, e1, ho1⟩ := hS.made 0 _ ((hyj 0 (by decide)).2 (hL 10 (by decide)))
    obtain ⟨A2, c2, e2, ho2⟩ := hS.made 1 _ ((hyj 1 (by decide)).2 (hL 12 (by decide)))
    obtain ⟨A3, c3, e3, ho3⟩ := hS.made 2 _ ((hyj 2 (by decide)).2 (hL 14 (by decide)))
    try dsimp only at hy
    rw [e1, e2, e3] at hy
    have hr : wx.rangeAt w.heap.size 0 [.int .i64 sv, .slice A1 tn c1, .slice A2 pn c2, .int .i64 ca, .int .i64 cb, .bool cha, .bool chb, .int .i64 cg, .int .i64 cl, .int .i64 cs, .bool chg, .bool chl, .bool chs, .int .i64 k, .int .i64 m, .string str, .slice A3 bn c3, .int .i64 o, .int .i64 i, .int .i64 t, .int .i64 sq] := fun j u hj => by
      rw [Nat.zero_add, cell_of_row _ _ _ _ _ _ hy, ← Array.getElem?_toList]; exact hj
    have ht : wx.there (w.heap.size + 1) 0 21 := fun j hj => by
      have hb2 := hS.fr.block (w.heap.size + 1) (by have := HH.out.1; omega) (by omega) (by simp)
      have := HH.out.2.2.2.1 j hj
      rw [World.cell?_of_block hb2]
      refine ⟨this.1, ?_⟩
      rw [← this.2]
      unfold World.frozen?
      rw [hb2]
    have hbel : Below w.heap.size w wx := HH.out.2.1.trans (hS.fr.toBelow (Nat.le_refl _) (by have := HH.out.1; omega) (fun k h => by cases h))
    have HX := Lib.hid (And.intro ht (And.intro hbel (And.intro ho1 (And.intro ho2 ho3))))
    clear hR hS hy hyj e1 e2 e3 ho1 ho2 ho3 ht hbel hP
    simp only [pin] at ha
    rw [ha]
    simp only [List.setIfInBounds_toArray, List.set_cons_zero, List.set_cons_succ]
    clear ha
    obtain ⟨S, hS⟩ : ∃ S : Wr, S = ⟨⟨sv, tok, pa, ⟨ca, cb, cha, chb, cg, cl, cs, chg, chl, chs⟩, ⟨k, m, str, l, o, i⟩, t, sq⟩, A1, tn, c1, A2, pn, c2, A3, bn, c3⟩ := ⟨_, rfl⟩
    have hrS : wx.rangeAt w.heap.size 0 S.vals := by rw [hS]; exact hr
    have HSS := Lib.hid hS
    clear hr hS
    go_wp2_with (first | (refine wpList_load_mid rfl 37 (.tmp 1) rfl w.heap.size 0 rfl S.vals _ hrS Try.underlying37 rfl size_wr ?_) | (refine wpList_store_mid rfl 37 (.tmp 2) (.tmp 15) rfl (w.heap.size + 1) 0 S.vals.toArray rfl rfl HX.out.1 size_wr (all_oneCell_toArray (wK.one S)) ?_))
    refine bodyPost_ret (results_cell_mid rfl _ _ (w.heap.size + 1) 0 S.vals _ rfl (range_stored HX.out.1) Try.underlying37 rfl size_wr) rfl ?_
    obtain ⟨o1, o2, o3⟩ := os_setCells S.vals (w.heap.size + 1) 0 wx
    have hf : Fx (w.heap.size + 1) none wx (wx.setCells (w.heap.size + 1) 0 S.vals) := ⟨o1, o2, o3, by rw [size_setCells']; exact Nat.le_refl _, fun k _ hk _ => heap_setCells_other (w.heap.size + 1) k hk _ 0 wx⟩
    refine ⟨S, rfl, by rw [HSS.out], ?_, ?_, below_setCells HX.out.2.1 (by omega) _ 0⟩
    · rw [HSS.out] at hf ⊢
      exact ⟨(HX.out.2.2.1.fxn hf (by omega)).mono (by omega), (HX.out.2.2.2.1.fxn hf (by omega)).mono (by omega), (HX.out.2.2.2.2.fxn hf (by omega)).mono (by omega)⟩
    · rw [HSS.out]; exact HZ.out
end Go.Proofs.Ytmaeofhgbelciaa
