/-
  An answer to a message: without options by the program, any by the document.
-/
import Derived.Test.YtdgihhepmmkkpaaMsgRef
namespace Go.Proofs.Ytdgihhepmmkkpaa
open Go.RowKit
set_option maxRecDepth 100000
set_option linter.unusedVariables false
/-- The cell of the message that is returned, behind the box of the one that is asked. -/
structure Zr (w W : World) : Prop where
  there : W.there (w.heap.size + 1) 0 6
  bel : Below w.heap.size w W
  size : w.heap.size + 2 ≤ W.heap.size
theorem Zr.new_ (w : World) (o : Obj) : Zr w ((w.alloc o).alloc (.cells Z6.toArray 26)) := ⟨there_new1 w o _ _ rfl, (alloc_below w o).alloc (by rw [alloc_size]; omega) _, by rw [alloc_size, alloc_size]; exact Nat.le_refl _⟩
theorem Zr.step {w W W' : World} (h : Zr w W) (hb : Below W.heap.size W W') : Zr w W' := by
  have := h.size
  have := hb.size
  exact ⟨there_below h.there hb (by omega), h.bel.trans (hb.mono (by omega)), by omega⟩
theorem Zr.stored {w W : World} (h : Zr w W) (vs : List Value) (hl : vs.length = 6) : (W.setCells (w.heap.size + 1) 0 vs).rangeAt (w.heap.size + 1) 0 vs ∧ Below w.heap.size w (W.setCells (w.heap.size + 1) 0 vs) :=
  ⟨World.rangeAt_setCells_same _ _ _ _ (by rw [hl]; exact h.there), below_setCells h.bel (Nat.le_succ _) _ _⟩
theorem range_mid (w : World) (A B : Obj) (cs : Array Value) (t : TypeId) {vs : List Value} (h : cs.toList = vs) : (((w.alloc A).alloc (.cells cs t)).alloc B).rangeAt (w.heap.size + 1) 0 vs :=
  range_below (range_new1 w A cs t h) (alloc_below _ B) (by rw [alloc_size, alloc_size]; omega)
theorem below3 (w : World) (A B C : Obj) : Below w.heap.size w (((w.alloc A).alloc B).alloc C) := ((alloc_below w A).alloc (by rw [alloc_size]; omega) B).alloc (by rw [alloc_size, alloc_size]; omega) C
theorem Bs.setM {w : World} {B n N : Nat} {A : Option Addr} {l : List UInt8} (h : Bs w B A n l) (hz : w.heap[N]? = some (.cells Z6.toArray 26)) (vs : List Value) : Bs (w.setCells N 0 vs) B A n l := h.set_ hz vs
theorem Zr.blk3 {w W0 W : World} {o : Obj} (h : Zr w W0) (hb : Below W0.heap.size W0 W) (hW : (w.alloc o).alloc (.cells Z6.toArray 26) = W0) : W.heap[w.heap.size + 1]? = some (.cells Z6.toArray 26) := by
  rw [hb.block _ (by have := h.size; omega), ← hW, show w.heap.size + 1 = (w.alloc o).heap.size by rw [alloc_size]]
  exact heap_alloc_new _ _
theorem range_drew {w : World} {b o : Nat} {vs : List Value} (h : w.rangeAt b o vs) : w.drew.rangeAt b o vs := h
set_option maxHeartbeats 2000000 in
theorem reply0_f (kd cd id : Int) (tA : Option Addr) (tn tc : Nat) (oA : Option Addr) (on oc : Nat) (bA : Option Addr) (bn bc : Nat) (vs : List Sv) (tok : List UInt8) (ps : List (Int × List UInt8)) (body : List UInt8) (code nid : Int) (pA : Option Addr) (pc : Nat) (qA : Option Addr) (qn qc : Nat) (l : List UInt8) (w : World)
    (hm : Ms w w.heap.size tA tn oA on vs bA bn tok ps body) (hl : Bs w w.heap.size qA qn l) (htn : (tn : Int) ≤ 140737488355328) (hqn : (qn : Int) ≤ 140737488355328) :
    Calls Try.prog 30 #[.agg #[.int .i64 kd, .int .i64 cd, .int .i64 id, .slice tA tn tc, .slice oA on oc, .slice bA bn bc], .int .i64 code, .int .i64 nid, .slice pA 0 pc, .slice qA qn qc] w
      (RetM ⟨if kd = 0 then 2 else 1, code, if kd = 0 then id else nid, tok, [], l⟩ w) := by
  have HZ := Lib.hid (Zr.new_ w (.cells #[.int .i64 kd, .int .i64 cd, .int .i64 id, .slice tA tn tc, .slice oA on oc, .slice bA bn bc] 26))
  have hbox := six (range_below (range_newA w #[.int .i64 kd, .int .i64 cd, .int .i64 id, .slice tA tn tc, .slice oA on oc, .slice bA bn bc] 26 rfl) (alloc_below _ (.cells Z6.toArray 26)) (by rw [alloc_size]; omega))
  have hcell : ∀ W, Below (w.heap.size + 2) ((w.alloc (.cells #[.int .i64 kd, .int .i64 cd, .int .i64 id, .slice tA tn tc, .slice oA on oc, .slice bA bn bc] 26)).alloc (.cells Z6.toArray 26)) W → W.cell? ⟨w.heap.size, 0, none⟩ = some (.int .i64 kd) ∧ W.cell? ⟨w.heap.size, 2, none⟩ = some (.int .i64 id) := fun W hb =>
    ⟨(hb.cell (p := ⟨w.heap.size, 0, none⟩) (by show w.heap.size < _; omega)).trans hbox.1, (hb.cell (p := ⟨w.heap.size, 2, none⟩) (by show w.heap.size < _; omega)).trans hbox.2.2.1⟩
  obtain ⟨W0, hW0⟩ : ∃ W0, (w.alloc (.cells #[.int .i64 kd, .int .i64 cd, .int .i64 id, .slice tA tn tc, .slice oA on oc, .slice bA bn bc] 26)).alloc (.cells Z6.toArray 26) = W0 := ⟨_, rfl⟩
  have hs0 : W0.heap.size = w.heap.size + 2 := by rw [← hW0, alloc_size, alloc_size]
  rw [hW0] at hcell
  have HZ0 := Lib.hid (show Zr w W0 from hW0 ▸ HZ.out)
  have hcl1 := bclone_f tA tn tc tok W0 _ ((hm.t.below HZ0.out.bel).more HZ0.out.bel.size) (Nat.le_refl _) htn
  have hcl2 := fun W (hb : Below W0.heap.size W0 W) => bclone_f qA qn qc l W _ ((hl.below (HZ0.out.step hb).bel).more (HZ0.out.step hb).bel.size) (Nat.le_refl _) hqn
  have HO := Lib.hid (And.intro hcl1 (And.intro hcl2 (And.intro hcell hs0)))
  have HW := Lib.hid hW0
  clear hm hl htn hqn HZ hbox hcell hW0 hs0 hcl1 hcl2
  by_cases hk : kd = 0
  · subst hk
    rw [if_pos rfl, if_pos rfl]
    go_enter Try.func30, Try.ntmps30
    go_wp2_with fail
    refine calls_at_world (F := fun W => W = W0) HW.out fun W1 e1 => ?_
    obtain rfl := e1.symm
    refine HO.out.1.mono ?_
    rintro e w1 ⟨u1, rfl, ho1, b1⟩
    obtain ⟨tB, td, rfl, htd, hbt⟩ := own_bs ho1
    have htm := row_cap ho1
    have H1 := Lib.hid (And.intro hbt (And.intro htd (And.intro htm b1)))
    clear ho1 htd hbt htm b1
    go_wp2_with fail
    refine (HO.out.2.1 w1 H1.out.2.2.2).mono ?_
    rintro e w2 ⟨u2, rfl, ho2, b2⟩
    obtain ⟨qB, qd, rfl, hqd, hbq⟩ := own_bs ho2
    have hqm := row_cap ho2
    have B2 : Below W0.heap.size W0 w2 := H1.out.2.2.2.trans (b2.mono H1.out.2.2.2.size)
    have H2 := Lib.hid (And.intro ((H1.out.1.below b2).more b2.size) (And.intro hbq (And.intro hqd (And.intro hqm B2))))
    have k0 : ∀ o, (w2.alloc o).cell? ⟨w.heap.size, 0, none⟩ = some (.int .i64 _) := fun o => (HO.out.2.2.1 (w2.alloc o) ((B2.alloc B2.size o).mono (by have := HO.out.2.2.2; omega))).1
    have k2 : ∀ o, (w2.alloc o).cell? ⟨w.heap.size, 2, none⟩ = some (.int .i64 _) := fun o => (HO.out.2.2.1 (w2.alloc o) ((B2.alloc B2.size o).mono (by have := HO.out.2.2.2; omega))).2
    clear ho2 hqd hbq hqm b2 B2
    go_wp2_with fail
    go_region
    go_wp2
    refine wp_at_world (F := fun W => Below w2.heap.size w2 W ∧ w2.heap.size + 1 ≤ W.heap.size ∧ W.rangeAt w2.heap.size 0 [.int .i64 2, .int .i64 code, .int .i64 id, .slice tB tok.length td, .slice none 0 0, .slice qB l.length qd]) ⟨(alloc_below w2 _).drew, by show _ ≤ (w2.alloc _).heap.size; rw [alloc_size]; exact Nat.le_refl _, range_drew (range_newA w2 _ _ rfl)⟩ fun W3 ⟨b3, l3, r3⟩ => ?_
    have B3 : Below W0.heap.size W0 W3 := H2.out.2.2.2.2.trans (b3.mono H2.out.2.2.2.2.size)
    have Z3 := HZ0.out.step B3
    have H3 := Lib.hid (And.intro Z3 (And.intro b3 l3))
    clear k0 k2 B3 Z3 b3 l3
    go_loopw [31] (fun i wr => i = .int .i64 0 ∧ wr = W3) (fun _ _ => 0)
    case atStart => exact ⟨rfl, rfl⟩
    case round =>
      obtain ⟨rfl, hwr⟩ := hrel
      obtain rfl := hwr.symm
      go_wp2_with (first
        | (refine wpList_load_mid rfl 26 (.tmp 11) rfl w2.heap.size 0 rfl [.int .i64 2, .int .i64 code, .int .i64 id, .slice tB tok.length td, .slice none 0 0, .slice qB l.length qd] _ r3 Try.underlying26 rfl size_msg ?_)
        | (refine wpList_store_mid rfl 26 (.tmp 10) (.tmp 47) rfl (w.heap.size + 1) 0 (List.toArray [.int .i64 2, .int .i64 code, .int .i64 id, .slice tB tok.length td, .slice none 0 0, .slice qB l.length qd]) rfl rfl H3.out.1.there size_msg (all_oneCell_toArray (one6 _ _ _ _ _ _ _ _ _ _ _ _)) ?_))
      have hf := H3.out.1.stored [.int .i64 2, .int .i64 code, .int .i64 id, .slice tB tok.length td, .slice none 0 0, .slice qB l.length qd] rfl
      refine bodyPost_ret (results_cell_mid rfl _ _ (w.heap.size + 1) 0 [.int .i64 2, .int .i64 code, .int .i64 id, .slice tB tok.length td, .slice none 0 0, .slice qB l.length qd] _ rfl hf.1 Try.underlying26 rfl size_msg) rfl ?_
      refine ⟨tB, tok.length, td, none, 0, 0, qB, l.length, qd, [], rfl, ⟨H1.out.2.1, H1.out.2.2.1, Nat.le_refl _, Nat.zero_le _, H2.out.2.2.1, H2.out.2.2.2.1⟩, ?_, hf.2⟩
      rw [size_setCells_]
      have b3 := H3.out.2.1
      refine ⟨Bs.setM ((H2.out.1.below b3).more b3.size) ?_ _, Os.nil_ _ _ _, Bs.setM ((H2.out.2.1.below b3).more b3.size) ?_ _⟩
      all_goals
        exact (HZ0.out.blk3 (H2.out.2.2.2.2.trans (b3.mono H2.out.2.2.2.2.size)) HW.out)
  · have hkd : (kd == 0) = false := by simpa using hk
    rw [if_neg hk, if_neg hk]
    clear hk
    go_enter Try.func30, Try.ntmps30
    go_wp2_with fail
    refine calls_at_world (F := fun W => W = W0) HW.out fun W1 e1 => ?_
    obtain rfl := e1.symm
    refine HO.out.1.mono ?_
    rintro e w1 ⟨u1, rfl, ho1, b1⟩
    obtain ⟨tB, td, rfl, htd, hbt⟩ := own_bs ho1
    have htm := row_cap ho1
    have H1 := Lib.hid (And.intro hbt (And.intro htd (And.intro htm b1)))
    clear ho1 htd hbt htm b1
    go_wp2_with fail
    refine (HO.out.2.1 w1 H1.out.2.2.2).mono ?_
    rintro e w2 ⟨u2, rfl, ho2, b2⟩
    obtain ⟨qB, qd, rfl, hqd, hbq⟩ := own_bs ho2
    have hqm := row_cap ho2
    have B2 : Below W0.heap.size W0 w2 := H1.out.2.2.2.trans (b2.mono H1.out.2.2.2.size)
    have H2 := Lib.hid (And.intro ((H1.out.1.below b2).more b2.size) (And.intro hbq (And.intro hqd (And.intro hqm B2))))
    have k0 : ∀ o, (w2.alloc o).cell? ⟨w.heap.size, 0, none⟩ = some (.int .i64 _) := fun o => (HO.out.2.2.1 (w2.alloc o) ((B2.alloc B2.size o).mono (by have := HO.out.2.2.2; omega))).1
    have k2 : ∀ o, (w2.alloc o).cell? ⟨w.heap.size, 2, none⟩ = some (.int .i64 _) := fun o => (HO.out.2.2.1 (w2.alloc o) ((B2.alloc B2.size o).mono (by have := HO.out.2.2.2; omega))).2
    clear ho2 hqd hbq hqm b2 B2
    go_wp2_with fail
    refine wp_at_world (F := fun W => Below w2.heap.size w2 W ∧ w2.heap.size + 1 ≤ W.heap.size ∧ W.rangeAt w2.heap.size 0 [.int .i64 1, .int .i64 code, .int .i64 nid, .slice tB tok.length td, .slice none 0 0, .slice qB l.length qd]) ⟨alloc_below w2 _, by rw [alloc_size]; exact Nat.le_refl _, range_newA w2 _ _ rfl⟩ fun W3 ⟨b3, l3, r3⟩ => ?_
    have B3 : Below W0.heap.size W0 W3 := H2.out.2.2.2.2.trans (b3.mono H2.out.2.2.2.2.size)
    have Z3 := HZ0.out.step B3
    have H3 := Lib.hid (And.intro Z3 (And.intro b3 l3))
    clear k0 k2 B3 Z3 b3 l3
    go_loopw [31] (fun i wr => i = .int .i64 0 ∧ wr = W3) (fun _ _ => 0)
    case atStart => exact ⟨rfl, rfl⟩
    case round =>
      obtain ⟨rfl, hwr⟩ := hrel
      obtain rfl := hwr.symm
      go_wp2_with (first
        | (refine wpList_load_mid rfl 26 (.tmp 11) rfl w2.heap.size 0 rfl [.int .i64 1, .int .i64 code, .int .i64 nid, .slice tB tok.length td, .slice none 0 0, .slice qB l.length qd] _ r3 Try.underlying26 rfl size_msg ?_)
        | (refine wpList_store_mid rfl 26 (.tmp 10) (.tmp 47) rfl (w.heap.size + 1) 0 (List.toArray [.int .i64 1, .int .i64 code, .int .i64 nid, .slice tB tok.length td, .slice none 0 0, .slice qB l.length qd]) rfl rfl H3.out.1.there size_msg (all_oneCell_toArray (one6 _ _ _ _ _ _ _ _ _ _ _ _)) ?_))
      have hf := H3.out.1.stored [.int .i64 1, .int .i64 code, .int .i64 nid, .slice tB tok.length td, .slice none 0 0, .slice qB l.length qd] rfl
      refine bodyPost_ret (results_cell_mid rfl _ _ (w.heap.size + 1) 0 [.int .i64 1, .int .i64 code, .int .i64 nid, .slice tB tok.length td, .slice none 0 0, .slice qB l.length qd] _ rfl hf.1 Try.underlying26 rfl size_msg) rfl ?_
      refine ⟨tB, tok.length, td, none, 0, 0, qB, l.length, qd, [], rfl, ⟨H1.out.2.1, H1.out.2.2.1, Nat.le_refl _, Nat.zero_le _, H2.out.2.2.1, H2.out.2.2.2.1⟩, ?_, hf.2⟩
      rw [size_setCells_]
      have b3 := H3.out.2.1
      refine ⟨Bs.setM ((H2.out.1.below b3).more b3.size) ?_ _, Os.nil_ _ _ _, Bs.setM ((H2.out.2.1.below b3).more b3.size) ?_ _⟩
      all_goals
        exact (HZ0.out.blk3 (H2.out.2.2.2.2.trans (b3.mono H2.out.2.2.2.2.size)) HW.out)
end Go.Proofs.Ytdgihhepmmkkpaa
