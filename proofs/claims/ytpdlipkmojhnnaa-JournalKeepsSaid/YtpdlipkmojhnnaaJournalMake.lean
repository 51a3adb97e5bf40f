/-
  Open: the journal of two groups. Epoch.
-/
import Derived.Test.YtpdlipkmojhnnaaJournalOpen
namespace Go.Proofs.Ytpdlipkmojhnnaa
open Go.RowKit Go.Maps Go.Shelf
set_option maxRecDepth 100000
set_option linter.unusedVariables false
set_option maxRecDepth 100000
theorem epoch_f (W : World) (J : JP) (F : Fl) (s : JS) (h : JAt W J F s) : Calls Try.prog 16 #[.pointer (some ⟨J.jb, 0, none⟩)] W fun e w' => e = .returned (.int .u32 s.ep) ∧ w' = W := by
  have c4 := h.c4
  go_enter Try.func16, Try.ntmps16
  go_wp2
  go_ret
  exact ⟨rfl, rfl⟩
/-- Where a journal's things lie, that is made in a world. -/
structure PQ where
  g : Nat
  bb : Nat
  wb : Nat
  pp : Nat → Nat
  fi : Nat → Nat
  co : Nat → Nat
  be : Nat → Nat
  si : Nat → Nat
def PQ.at_ (Q : PQ) (n : Nat) : JP := ⟨n, n + 1, Q.g, Q.bb, Q.wb, Q.pp, Q.fi, Q.co, Q.be, Q.si⟩
/-- Two parts of a flash. -/
structure PQAt (W : World) (Q : PQ) (F : Fl) : Prop where
  part : ∀ i, i < 2 → PartAt W (Q.pp i) Q.g (Q.fi i) (Q.co i) (Q.be i) (Q.si i)
  ok : ∀ i, i < 2 → PartOk F (Q.fi i) (Q.co i) (Q.be i) (Q.si i)
  fl : FlashAt W Q.g Q.bb Q.wb F
  sane : Sane F
  off : ∀ i, i < 2 → Q.pp i ≠ Q.g ∧ Q.pp i ≠ Q.bb ∧ Q.pp i ≠ Q.wb
theorem PQAt.below {W w : World} {Q : PQ} {F : Fl} (h : PQAt W Q F) (hb : Below W.heap.size W w) : PQAt w Q F :=
  ⟨fun i hi => (h.part i hi).below hb, h.ok, h.fl.below hb, h.sane, h.off⟩
/-- A journal that is being made: its cells. -/
structure Fresh (W w : World) (Q : PQ) (z : Int) : Prop where
  bel : Below W.heap.size W w
  lt : W.heap.size < w.heap.size
  c0 : ∀ i, i < 2 → w.cell? ⟨W.heap.size, i, none⟩ = some (.pointer (some ⟨Q.pp i, 0, none⟩))
  c2 : w.cell? ⟨W.heap.size, 2, none⟩ = some (.int .i64 z)
  c3 : w.cell? ⟨W.heap.size, 3, none⟩ = some (.int .i64 0)
  c4 : w.cell? ⟨W.heap.size, 4, none⟩ = some (.int .u32 0)
  c5 : w.cell? ⟨W.heap.size, 5, none⟩ = some (.int .i64 0)
  c6 : w.cell? ⟨W.heap.size, 6, none⟩ = some (.map none)
  frz : w.there W.heap.size 0 7
theorem Fresh.new_ (W : World) (Q : PQ) (t : TypeId) : Fresh W (W.alloc (.cells #[.pointer (some ⟨Q.pp 0, 0, none⟩), .pointer (some ⟨Q.pp 1, 0, none⟩), .int .i64 0, .int .i64 0, .int .u32 0, .int .i64 0, .map none] t)) Q 0 := by
  have hc : ∀ j, (W.alloc (.cells #[.pointer (some ⟨Q.pp 0, 0, none⟩), .pointer (some ⟨Q.pp 1, 0, none⟩), .int .i64 0, .int .i64 0, .int .u32 0, .int .i64 0, .map none] t)).cell? ⟨W.heap.size, j, none⟩ = (#[Value.pointer (some ⟨Q.pp 0, 0, none⟩), .pointer (some ⟨Q.pp 1, 0, none⟩), .int .i64 0, .int .i64 0, .int .u32 0, .int .i64 0, .map none] : Array Value)[j]? := fun j => cell_of_row _ _ _ _ _ _ (heap_alloc_new W _)
  refine ⟨alloc_below W _, by rw [alloc_size]; omega, fun i hi => ?_, hc 2, hc 3, hc 4, hc 5, hc 6, there_new W _ t rfl⟩
  match i, hi with
  | 0, _ => exact hc 0
  | 1, _ => exact hc 1
theorem Fresh.below {W w w' : World} {Q : PQ} {z : Int} (h : Fresh W w Q z) (hb : Below w.heap.size w w') : Fresh W w' Q z := by
  have hc : ∀ j, w'.cell? ⟨W.heap.size, j, none⟩ = w.cell? ⟨W.heap.size, j, none⟩ := fun j => hb.cell (p := ⟨W.heap.size, j, none⟩) h.lt
  exact ⟨h.bel.trans (hb.mono h.bel.size), Nat.lt_of_lt_of_le h.lt hb.size, fun i hi => (hc i).trans (h.c0 i hi), (hc 2).trans h.c2, (hc 3).trans h.c3, (hc 4).trans h.c4, (hc 5).trans h.c5, (hc 6).trans h.c6, there_below h.frz hb h.lt⟩
theorem Fresh.set {W w : World} {Q : PQ} {z : Int} (h : Fresh W w Q z) (y : Int) : Fresh W (w.setCell ⟨W.heap.size, 2, none⟩ (.int .i64 y)) Q y := by
  have hc : ∀ j, j ≠ 2 → (w.setCell ⟨W.heap.size, 2, none⟩ (.int .i64 y)).cell? ⟨W.heap.size, j, none⟩ = w.cell? ⟨W.heap.size, j, none⟩ := fun j hj => World.cell?_setCell_other _ _ _ _ (fun e => by injection e; omega)
  exact ⟨h.bel.setCell (Nat.le_refl _) _, by simpa [World.setCell] using h.lt, fun i hi => (hc i (by omega)).trans (h.c0 i hi), World.cell?_setCell_same _ _ _ h.c2, (hc 3 (by omega)).trans h.c3, (hc 4 (by omega)).trans h.c4, (hc 5 (by omega)).trans h.c5, (hc 6 (by omega)).trans h.c6, World.there_setCells h.frz W.heap.size 2 [.int .i64 y]⟩
def S0 (sz : Nat) : JS := ⟨sz, 0, 0, 0, none, .nil, noV⟩
theorem nil_vals (w : World) (lo : Nat) : Vals w lo none .nil noV :=
  ⟨.inl ⟨rfl, rfl⟩, fun k => rfl, fun k l h => (by cases h), fun b e => (by cases e), fun k h => (by cases h), fun k l h => (by cases h)⟩
theorem Fresh.jat {W w : World} {Q : PQ} {F : Fl} {sz : Nat} (h : Fresh W w Q (sz : Int)) (hq : PQAt W Q F) (h0 : sz ≤ Q.si 0) (h1 : sz ≤ Q.si 1) : JAt w (Q.at_ W.heap.size) F (S0 sz) := by
  have hq' := hq.below h.bel
  have hl := hq.fl.lt
  refine ⟨h.c0, h.c2, h.c3, h.c4, h.c5, h.c6, h.frz, hq'.part, hq.ok, hq'.fl, hq.sane, hq.off, ⟨?_, ?_, ?_⟩, ⟨?_, ?_, ?_⟩, Nat.lt_succ_self _, nil_vals _ _, by show 0 < 2; omega, ⟨by show (0 : Int) ≤ 0; omega, by show (0 : Int) < _; decide⟩, fun i hi => ?_, Nat.zero_le _, h.lt⟩
  · show W.heap.size ≠ Q.g; omega
  · show W.heap.size ≠ Q.bb; omega
  · show W.heap.size ≠ Q.wb; omega
  · show Q.g < W.heap.size + 1; omega
  · show Q.bb < W.heap.size + 1; omega
  · show Q.wb < W.heap.size + 1; omega
  · match i, hi with
    | 0, _ => exact h0
    | 1, _ => exact h1
/-- What Open leaves. -/
def MakePost (W : World) (Q : PQ) (F : Fl) (e : Ending) (w' : World) : Prop :=
  if F.down = true then e = .returned (.tuple #[.pointer none, .int .i64 30]) ∧ Below W.heap.size W w'
  else if min (Q.si 0) (Q.si 1) < 32 then e = .returned (.tuple #[.pointer none, .int .i64 53]) ∧ Below W.heap.size W w'
  else ∃ w1 ec, JAt w1 (Q.at_ W.heap.size) F (S0 (min (Q.si 0) (Q.si 1))) ∧ Below W.heap.size W w1 ∧ OpenPost w1 (Q.at_ W.heap.size) F (S0 (min (Q.si 0) (Q.si 1))) (.returned (.int .i64 ec)) w' ∧
    e = .returned (.tuple #[if ec = 0 then .pointer (some ⟨W.heap.size, 0, none⟩) else .pointer none, .int .i64 ec])
theorem OpenPost.returns {W : World} {J : JP} {F : Fl} {s : JS} {e : Ending} {w' : World} (h : OpenPost W J F s e w') : ∃ ec : Int, e = .returned (.int .i64 ec) := by
  have hl : ∀ {W jb gi g bb wb fi be si co F pv V ep}, LayPost W jb gi g bb wb fi be si co F pv V ep e w' → ∃ ec : Int, e = .returned (.int .i64 ec) := fun ⟨_, _, _, _, ec, _, _, he, _⟩ => ⟨ec, he⟩
  unfold OpenPost at h
  split at h
  · obtain ⟨wr, _, _, hp⟩ := h
    exact hl hp
  · split at h
    · exact ⟨_, h.1⟩
    · obtain ⟨mb, D, wr, _, _, hp⟩ := h
      split at hp
      · exact ⟨_, hp.1⟩
      · rcases hp with ⟨_, he, _⟩ | ⟨_, hp⟩
        · exact ⟨_, he⟩
        · exact hl hp
set_option maxHeartbeats 1600000 in
theorem jopen_f (W : World) (Q : PQ) (F : Fl) (h : PQAt W Q F) (hn : ((min (Q.si 0) (Q.si 1) : Nat) : Int) ≤ 65536) :
    Calls Try.prog 7 #[.pointer (some ⟨Q.pp 0, 0, none⟩), .pointer (some ⟨Q.pp 1, 0, none⟩)] W (MakePost W Q F) := by
  have HQ : Aside _ := h
  have hF := Fresh.new_ W Q 59
  obtain ⟨sz, hsz⟩ : ∃ sz, min (Q.si 0) (Q.si 1) = sz := ⟨_, rfl⟩
  have hmin : min ((Q.si 0 : Nat) : Int) ((Q.si 1 : Nat) : Int) = (sz : Int) := by omega
  have HZ : Aside _ := hsz
  rw [hsz] at hn
  have h0 : sz ≤ Q.si 0 := by omega
  have h1 : sz ≤ Q.si 1 := by omega
  have HS : Aside _ := And.intro h0 h1
  clear h hsz h0 h1
  go_enter Try.func7, Try.ntmps7
  go_wp2_with fail
  refine calls_at_world (F := fun w => Fresh W w Q 0) hF fun w0 hF0 => ?_
  have hq0 := HQ.out.below hF0.bel
  have kd := jdown_f w0 W.heap.size (Q.pp 0) (Q.pp 1) Q.g Q.bb Q.wb (Q.fi 0) (Q.co 0) (Q.be 0) (Q.si 0) (Q.fi 1) (Q.co 1) (Q.be 1) (Q.si 1) F (hF0.c0 0 (by omega)) (hF0.c0 1 (by omega)) (hq0.part 0 (by omega)) (hq0.part 1 (by omega)) hq0.fl ((HQ.out.ok 0 (by omega)).fits HQ.out.fl.ok) ((HQ.out.ok 1 (by omega)).fits HQ.out.fl.ok)
  clear hF hq0
  refine kd.mono ?_
  rintro e w1 ⟨rfl, b1⟩
  have hF1 := hF0.below b1
  clear kd
  cases hd : F.down with
  | true =>
    have HB : Aside _ := hF1.bel
    have HD : Aside _ := hd
    clear hF0 hF1 b1 hd
    go_wp2
    go_ret2
    unfold MakePost
    rw [if_pos HD.out]
    exact ⟨rfl, HB.out⟩
  | false =>
    have hq1 := HQ.out.below hF1.bel
    have k0 := jsize_f w1 (Q.pp 0) Q.g (Q.fi 0) (Q.co 0) (Q.be 0) (Q.si 0) (hq1.part 0 (by omega))
    have k1 := jsize_f w1 (Q.pp 1) Q.g (Q.fi 1) (Q.co 1) (Q.be 1) (Q.si 1) (hq1.part 1 (by omega))
    have c2 := hF1.c2
    have z2 : w1.frozen? ⟨W.heap.size, 2, none⟩ = false := by have := (hF1.frz 2 (by omega)).2; rwa [Nat.zero_add] at this
    have HF1 : Aside _ := hF1
    have HD : Aside _ := hd
    clear hF0 hF1 b1 hq1
    go_wp2_with fail
    refine k0.mono ?_
    rintro e w2 ⟨rfl, hw⟩
    obtain rfl := hw.symm
    clear k0
    go_wp2_with fail
    refine k1.mono ?_
    rintro e w2 ⟨rfl, hw⟩
    obtain rfl := hw.symm
    clear k1
    by_cases h32 : (sz : Int) < 32
    · have hF2 : Aside _ := HF1.out.set (sz : Int)
      go_wp2
      go_ret2
      unfold MakePost
      rw [if_neg (by rw [HD.out]; decide), HZ.out, if_pos (by omega)]
      exact ⟨rfl, hF2.out.bel⟩
    · have hF2 := HF1.out.set (sz : Int)
      have hj := hF2.jat HQ.out HS.out.1 HS.out.2
      have ko := open_f _ (Q.at_ W.heap.size) F (S0 sz) hj rfl rfl HD.out (by show 32 ≤ sz; omega) hn
      have HJ : Aside _ := And.intro hj hF2.bel
      clear hj hF2
      go_wp2_with fail
      refine ko.mono ?_
      intro e w3 hp
      obtain ⟨ec, rfl⟩ := hp.returns
      have HP : Aside _ := hp
      clear hp ko
      by_cases he : ec = 0
      · have q0 : (ec != 0) = false := bne_eq_false_iff_eq.2 he
        have HE : Aside _ := he
        clear he
        go_wp2
        go_ret2
        unfold MakePost
        rw [if_neg (by rw [HD.out]; decide), HZ.out, if_neg (by omega)]
        exact ⟨_, ec, HJ.out.1, HJ.out.2, HP.out, by rw [if_pos HE.out, HE.out]; rfl⟩
      · have q0 : (ec != 0) = true := bne_iff_ne.2 he
        have HE : Aside _ := he
        clear he
        go_wp2
        go_ret2
        unfold MakePost
        rw [if_neg (by rw [HD.out]; decide), HZ.out, if_neg (by omega)]
        exact ⟨_, ec, HJ.out.1, HJ.out.2, HP.out, by rw [if_neg HE.out]; rfl⟩
end Go.Proofs.Ytpdlipkmojhnnaa
