/-
  Watches taken away; all watches.
-/
import Derived.Test.YtmaeofhgbelciaaWaTab
namespace Go.Proofs.Ytmaeofhgbelciaa
open Go.RowKit
set_option maxRecDepth 100000
set_option maxRecDepth 100000
set_option linter.unusedVariables false
theorem Wok.grown {w w' : World} {B k m : Nat} {s : Wr} {v : Value} {xs : List Value} (h : Wok w B s) (hr : w.ownsRow k 37 21 v m xs) (hg : w.grownBy w' v.ownBlock) : Wok w' B s :=
  h.fx (Fx.grown (tb := w.heap.size) hg) fun n c A e sz xs he ho => by
    refine ⟨fun e1 => ?_, ?_⟩
    · have := (ho.lt _ e1).2; omega
    · rcases he with rfl | rfl
      · exact rk_apart ho hr (by decide)
      · exact rk_apart ho hr (by decide)
/-- The table with another row stored. -/
theorem WtAt.turn {w w2 : World} {tb : Nat} {v v' : Value} {vs vs' : List Wr} (h : WtAt w tb v vs) (hg : w.grownBy w2 v.ownBlock) (hr : w2.ownsRow tb 37 21 v' vs'.length (wK.all vs')) (he : ∀ s ∈ vs', s ∈ vs) (hf : vs'.length ≤ 6) : WtAt (w2.setCell ⟨tb, 0, none⟩ v') tb v' vs' ∧ Fx tb v.ownBlock w (w2.setCell ⟨tb, 0, none⟩ v') := by
  have hb2 : w2.heap[tb]? = some (.cells #[v] 68) := (hg.block tb h.lt (fun e => h.row_ne e.symm)).trans h.blk
  have hne := rk_ne hr hb2 (by decide)
  refine ⟨⟨heap_setCell_same w2 tb 0 _ 68 _ hb2, (Fx.store (tb := tb) w2 0 _).row_ hr hne (own_no _), fun s hs => ⟨?_, (h.each s (he s hs)).2⟩, hf⟩, (Fx.grown hg).trans (Fx.wide (Fx.store w2 0 _))⟩
  exact (((h.each s (he s hs)).1.fxt (Fx.grown hg) h.blk h.row).fxt (v := .slice none 0 0) (Fx.store w2 0 _) hb2 (World.ownsRow_nil w2 tb _ _))
set_option maxHeartbeats 4000000 in
theorem away_f {tb : Nat} {v : Value} {vs : List Wr} {w : World} (h : WtAt w tb v vs) (gf : Nat) (lb : Array Value) (p : Wq → Bool) (eg : FnW gf)
    (hp : ∀ (W : World) (s : Wr), w.grownBy W v.ownBlock → s ∈ vs → Wrd W W.heap.size s → Wsm s → Calls Try.prog gf (#[.agg s.vals.toArray] ++ lb) W fun e w' => e = .returned (.bool (p s.q)) ∧ Below W.heap.size W w') :
    Calls Try.prog 40 #[.pointer (some ⟨tb, 0, none⟩), .func (.func gf) #[] lb] w fun e w' => ∃ v', e = .returned (.int .i64 ((vs.length : Int) - ((vs.filter (fun s => !p s.q)).length : Int))) ∧ WtAt w' tb v' (vs.filter (fun s => !p s.q)) ∧ Fx tb v.ownBlock w w' ∧ (v' = v ∨ v'.ownBlock = v.ownBlock) := by
  have hlen := wlen_f h
  have hdel := wdel_f v vs.length vs w tb h.row gf lb p eg (by have := h.few; omega) (fun W s hg hs => hp W s hg hs (((h.each s hs).1.grown h.row hg).rd) (h.each s hs).2.1)
  have c0 := h.cell0
  have f0 := h.fz 0
  have hfl := List.length_filter_le (fun s : Wr => !p s.q) vs
  have hfew := h.few
  have hmem : ∀ s ∈ vs.filter (fun s => !p s.q), s ∈ vs := fun s hs => (List.mem_filter.1 hs).1
  obtain ⟨A, c, hv, _⟩ := h.open_
  obtain ⟨vs', hvs'⟩ : ∃ vs', vs.filter (fun s => !p s.q) = vs' := ⟨_, rfl⟩
  rw [hvs'] at hdel hfl hmem ⊢
  obtain ⟨n, hn⟩ : ∃ n, vs.length = n := ⟨_, rfl⟩
  obtain ⟨m, hm⟩ : ∃ m, vs'.length = m := ⟨_, rfl⟩
  have hT := fun W v' hg hr => h.turn (v' := v') (vs' := vs') (w2 := W) hg hr hmem (by omega)
  have hlt := h.lt
  have hne := h.row_ne
  rw [hn] at hlen hfew hfl hv ⊢
  rw [hm] at hdel hfl ⊢
  have hcell : ∀ W, w.grownBy W v.ownBlock → W.cell? ⟨tb, 0, none⟩ = some v ∧ W.frozen? ⟨tb, 0, none⟩ = false := fun W hg => by
    have hb := hg.block tb hlt (fun e => hne e.symm)
    refine ⟨(World.cell?_of_block hb).trans c0, ?_⟩
    rw [← f0]; unfold World.frozen?; rw [hb]
  have HH := Lib.hid (And.intro hlen (And.intro hdel (And.intro hT (And.intro hm hcell))))
  have hnI : (n : Int) ≤ 6 := by omega
  have hmI : (m : Int) ≤ n := by omega
  clear hlen hdel hT hm hn hfew hfl hmem hvs' hp hcell h hne
  subst hv
  go_enter Try.func40, Try.ntmps40
  go_wp2_with fail
  refine HH.out.1.mono ?_
  rintro e w1 ⟨rfl, hw⟩
  obtain rfl := hw.symm
  go_wp2_with fail
  refine HH.out.2.1.mono ?_
  rintro e w2 ⟨v', rfl, hr2, hg2, hv2⟩
  obtain ⟨g0, g1⟩ := HH.out.2.2.2.2 w2 hg2
  rw [← HH.out.2.2.2.1] at hr2
  obtain ⟨hA, hF⟩ := HH.out.2.2.1 w2 v' hg2 hr2
  obtain ⟨A', c', hv', _⟩ := hA.open_
  rw [HH.out.2.2.2.1] at hv'
  have hlen2 := wlen_f hA
  rw [HH.out.2.2.2.1] at hlen2
  have H2 := Lib.hid (And.intro hA (And.intro hF (And.intro hv2 hlen2)))
  clear hA hF hv2 hlen2 hr2 hg2
  subst hv'
  try dsimp only
  go_wp2_with (go_at_call 28; refine H2.out.2.2.2.mono ?_; rintro e w3 ⟨rfl, hw⟩; subst hw)
  go_ret
  exact ⟨_, rfl, H2.out.1, H2.out.2.1, H2.out.2.2.1⟩
theorem FnW.out_ {g : Nat} (h : FnW g) : FnW g := h
/-- The watches that stay. -/
def leftW (p : Wq → Bool) (vs : List Wr) : List Wr := vs.filter (fun s => !p s.q)
def AwayPost (w : World) (tb : Nat) (v : Value) (vs' : List Wr) (w' : World) : Prop := ∃ v', WtAt w' tb v' vs' ∧ Fx tb v.ownBlock w w' ∧ (v' = v ∨ v'.ownBlock = v.ownBlock)
theorem OfV.gro {sv : Int} {A : Option Addr} {n c k m : Nat} {fv v : Value} {W W' : World} {xs : List Value} (h : OfV sv A n c fv W) (hr : W.ownsRow k 37 21 v m xs) (hz : ∀ (b1 b2 : Nat), fv = .func (.func 55) #[] #[.pointer (some ⟨b1, 0, none⟩), .pointer (some ⟨b2, 0, none⟩)] → v.ownBlock ≠ some b1 ∧ v.ownBlock ≠ some b2) (hg : W.grownBy W' v.ownBlock) : OfV sv A n c fv W' := by
  obtain ⟨b1, b2, e, h1, h2, h3, h4⟩ := h
  obtain ⟨z1, z2⟩ := hz b1 b2 e
  exact ⟨b1, b2, e, Nat.lt_of_lt_of_le h1 hg.size, Nat.lt_of_lt_of_le h2 hg.size, (World.cell?_of_block (hg.block b1 h1 (fun q => z1 q.symm))).trans h3, (World.cell?_of_block (hg.block b2 h2 (fun q => z2 q.symm))).trans h4⟩
set_option maxHeartbeats 4000000 in
theorem wdrop_f {tb : Nat} {v : Value} {vs : List Wr} {w : World} (h : WtAt w tb v vs) (sv : Int) (A : Option Addr) (n c : Nat) (tok : List UInt8) (hb : ∀ W, Fx tb v.ownBlock w W → Bs W W.heap.size A n tok) :
    Calls Try.prog 21 #[.pointer (some ⟨tb, 0, none⟩), .int .i64 sv, .slice A n c] w fun e w' => e = .returned (.bool (decide ((leftW (hitW sv tok) vs).length < vs.length))) ∧ AwayPost w tb v (leftW (hitW sv tok) vs) w' := by
  have hb2 := (alloc_below w (.cells #[.int .i64 sv] 3)).trans ((alloc_below (w.alloc (.cells #[.int .i64 sv] 3)) (.cells #[.slice A n c] 31)).mono (alloc_below w _).size)
  have h2 := h.below hb2
  have hov := OfV.new_ sv A n c w
  have hfx0 : Fx tb v.ownBlock w ((w.alloc (.cells #[.int .i64 sv] 3)).alloc (.cells #[.slice A n c] 31)) := Fx.below hb2
  have haw := away_f h2 55 #[.pointer (some ⟨w.heap.size, 0, none⟩), .pointer (some ⟨w.heap.size + 1, 0, none⟩)] (hitW sv tok) fn_of (fun W s hg hs hrd hsm => by
    have hz : ∀ k, v.ownBlock = some k → k < w.heap.size := fun k e => (h.row.lt k e).2
    obtain ⟨b1, b2, e, q1, q2, q3, q4⟩ := hov.gro h2.row (fun b1 b2 e => by
      simp only [Value.func.injEq, true_and, Array.mk.injEq, List.cons.injEq, and_true, Value.pointer.injEq, Option.some.injEq, Addr.mk.injEq] at e
      obtain ⟨rfl, rfl⟩ := e
      exact ⟨fun q => by have := hz _ q; omega, fun q => by have := hz _ q; omega⟩) hg
    simp only [Value.func.injEq, true_and, Array.mk.injEq, List.cons.injEq, and_true, Value.pointer.injEq, Option.some.injEq, Addr.mk.injEq] at e
    obtain ⟨rfl, rfl⟩ := e
    exact of1_f _ _ sv A n c tok s W hrd hsm q1 q2 q3 q4 (by
      exact hb W (hfx0.trans (Fx.grown hg))))
  obtain ⟨n0, hn0⟩ : ∃ n0, vs.length = n0 := ⟨_, rfl⟩
  obtain ⟨m0, hm0⟩ : ∃ m0, (leftW (hitW sv tok) vs).length = m0 := ⟨_, rfl⟩
  have hI : (n0 : Int) ≤ 6 := by have := h.few; omega
  have hmI : (m0 : Int) ≤ n0 := by have := List.length_filter_le (fun s : Wr => !hitW sv tok s.q) vs; unfold leftW at hm0; omega
  replace haw : Calls Try.prog 40 #[.pointer (some ⟨tb, 0, none⟩), .func (.func 55) #[] #[.pointer (some ⟨w.heap.size, 0, none⟩), .pointer (some ⟨w.heap.size + 1, 0, none⟩)]] ((w.alloc (.cells #[.int .i64 sv] 3)).alloc (.cells #[.slice A n c] 31)) fun e w' => e = .returned (.int .i64 ((n0 : Int) - (m0 : Int))) ∧ AwayPost w tb v (leftW (hitW sv tok) vs) w' := by
    rw [← hn0, ← hm0]
    refine haw.mono ?_
    rintro e w' ⟨v', rfl, hA, hF, hv⟩
    exact ⟨rfl, v', hA, hfx0.trans hF, hv⟩
  rw [hn0, hm0]
  have HO := Lib.hid (of_f sv A n c w)
  have HH := Lib.hid haw
  clear haw hn0 hm0 hb2 h2 hov hb h hfx0
  go_enter Try.func21, Try.ntmps21
  go_wp2_with fail
  refine HO.out.mono ?_
  rintro e w1 ⟨rfl, rfl⟩
  try dsimp only
  go_wp2_with fail
  refine HH.out.mono ?_
  rintro e w2 ⟨rfl, hA⟩
  have H2 := Lib.hid hA
  clear hA
  try dsimp only
  go_wp2
  go_ret
  exact ⟨rfl, H2.out⟩
set_option maxHeartbeats 4000000 in
theorem wdropsv_f {tb : Nat} {v : Value} {vs : List Wr} {w : World} (h : WtAt w tb v vs) (sv : Int) :
    Calls Try.prog 23 #[.pointer (some ⟨tb, 0, none⟩), .int .i64 sv] w fun e w' => e = .returned (.int .i64 ((vs.length : Int) - ((leftW (fun q => q.sv == sv) vs).length : Int))) ∧ AwayPost w tb v (leftW (fun q => q.sv == sv) vs) w' := by
  have hb2 := alloc_below w (.cells #[.int .i64 sv] 3)
  have h2 := h.below hb2
  have hfx0 : Fx tb v.ownBlock w (w.alloc (.cells #[.int .i64 sv] 3)) := Fx.below hb2
  have hz : ∀ k, v.ownBlock = some k → k < w.heap.size := fun k e => (h.row.lt k e).2
  have haw := away_f h2 44 #[.pointer (some ⟨w.heap.size, 0, none⟩)] (fun q => q.sv == sv) fn_ds (fun W s hg hs hrd hsm => ds1_f w.heap.size sv s W (by have := hg.size; rw [alloc_size] at this; omega) (by
    rw [World.cell?_of_block (hg.block w.heap.size (by rw [alloc_size]; omega) (fun q => by have := hz _ q.symm; omega)), cell_of_row _ _ _ _ _ _ (heap_alloc_new w _)]; rfl))
  obtain ⟨n0, hn0⟩ : ∃ n0, vs.length = n0 := ⟨_, rfl⟩
  obtain ⟨m0, hm0⟩ : ∃ m0, (leftW (fun q => q.sv == sv) vs).length = m0 := ⟨_, rfl⟩
  replace haw : Calls Try.prog 40 #[.pointer (some ⟨tb, 0, none⟩), .func (.func 44) #[] #[.pointer (some ⟨w.heap.size, 0, none⟩)]] (w.alloc (.cells #[.int .i64 sv] 3)) fun e w' => e = .returned (.int .i64 ((n0 : Int) - (m0 : Int))) ∧ AwayPost w tb v (leftW (fun q => q.sv == sv) vs) w' := by
    rw [← hn0, ← hm0]
    refine haw.mono ?_
    rintro e w' ⟨v', rfl, hA, hF, hv⟩
    exact ⟨rfl, v', hA, hfx0.trans hF, hv⟩
  rw [hn0, hm0]
  have HH := Lib.hid haw
  clear haw hn0 hm0 hb2 h2 h hfx0 hz
  go_enter Try.func23, Try.ntmps23
  go_wp2_with fail
  refine HH.out.mono ?_
  rintro e w2 ⟨rfl, hA⟩
  have H2 := Lib.hid hA
  clear hA
  try dsimp only
  go_wp2
  go_ret
  exact ⟨rfl, H2.out⟩
end Go.Proofs.Ytmaeofhgbelciaa
