/-
  A flash in memory, and the calls that tell of it.
-/
import Derived.Test.YtpdlipkmojhnnaaMem
namespace Go.Proofs.Ytpdlipkmojhnnaa
open Go.RowKit
set_option maxRecDepth 100000
/-- Numbers as values. -/
def Nats (l : List Nat) : List Value := l.map fun n : Nat => Value.int .i64 (n : Int)
theorem Nats_length (l : List Nat) : (Nats l).length = l.length := List.length_map _
theorem Nats_get (l : List Nat) (k : Nat) : (Nats l)[k]? = (l[k]?).map fun n : Nat => Value.int .i64 (n : Int) := by simp [Nats]
theorem Nats_set (l : List Nat) (k n : Nat) : Nats (l.set k n) = (Nats l).set k (.int .i64 (n : Int)) := by unfold Nats; rw [List.map_set]
/-- What a flash is. -/
structure Fl where
  dat : List UInt8
  sec : Nat
  wear : List Nat
  turned : Nat
  cut : Bool
  rest : Int
  down : Bool
structure FlOk (F : Fl) : Prop where
  sec : 16 ≤ F.sec ∧ F.sec ≤ 4096
  len : F.dat.length = F.wear.length * F.sec
  wear : 1 ≤ F.wear.length ∧ F.wear.length ≤ 64
  turned : F.turned ≤ 1073741824
  each : ∀ (j n : Nat), F.wear[j]? = some n → n ≤ 1073741824
  int : -9223372036854775808 ≤ F.rest ∧ F.rest ≤ 9223372036854775807
theorem FlOk.small {F : Fl} (h : FlOk F) : F.dat.length ≤ 262144 := by
  rw [h.len]
  exact Nat.le_trans (Nat.mul_le_mul h.wear.2 h.sec.2) (by decide)
/-- It lies in three blocks. -/
structure FlashAt (w : World) (g bb wb : Nat) (F : Fl) : Prop where
  c0 : w.cell? ⟨g, 0, none⟩ = some (.slice (some ⟨bb, 0, none⟩) F.dat.length F.dat.length)
  c1 : w.cell? ⟨g, 1, none⟩ = some (.int .i64 (F.sec : Int))
  c2 : w.cell? ⟨g, 2, none⟩ = some (.slice (some ⟨wb, 0, none⟩) F.wear.length F.wear.length)
  c3 : w.cell? ⟨g, 3, none⟩ = some (.int .i64 (F.turned : Int))
  c4 : w.cell? ⟨g, 4, none⟩ = some (.bool F.cut)
  c5 : w.cell? ⟨g, 5, none⟩ = some (.int .i64 F.rest)
  c6 : w.cell? ⟨g, 6, none⟩ = some (.bool F.down)
  frz : w.there g 0 7
  dat : w.rangeAt bb 0 (U8 F.dat)
  datw : w.there bb 0 F.dat.length
  wr : w.rangeAt wb 0 (Nats F.wear)
  wrw : w.there wb 0 F.wear.length
  ne : g ≠ bb ∧ g ≠ wb ∧ bb ≠ wb
  lt : g < w.heap.size ∧ bb < w.heap.size ∧ wb < w.heap.size
  ok : FlOk F
/-- All blocks below B but three are as they were. -/
structure But3 (B g bb wb : Nat) (w w' : World) : Prop where
  os : w'.os = w.os
  tape : w'.tape = w.tape
  output : w'.output = w.output
  size : w.heap.size ≤ w'.heap.size
  block : ∀ k, k < B → k ≠ g → k ≠ bb → k ≠ wb → w'.heap[k]? = w.heap[k]?
theorem But3.refl (B g bb wb : Nat) (w : World) : But3 B g bb wb w w := ⟨rfl, rfl, rfl, Nat.le_refl _, fun _ _ _ _ _ => rfl⟩
theorem But3.trans {B B' g bb wb : Nat} {a b c : World} (h : But3 B g bb wb a b) (k : But3 B' g bb wb b c) (hB : B ≤ B') : But3 B g bb wb a c :=
  ⟨k.os.trans h.os, k.tape.trans h.tape, k.output.trans h.output, Nat.le_trans h.size k.size, fun i hi h1 h2 h3 => (k.block i (by omega) h1 h2 h3).trans (h.block i hi h1 h2 h3)⟩
theorem But3.below {B g bb wb : Nat} {a b : World} (h : Below B a b) : But3 B g bb wb a b := ⟨h.os, h.tape, h.output, h.size, fun i hi _ _ _ => h.block i hi⟩
theorem But3.less {B B' g bb wb : Nat} {a b : World} (h : But3 B g bb wb a b) (hB : B' ≤ B) : But3 B' g bb wb a b := ⟨h.os, h.tape, h.output, h.size, fun i hi => h.block i (by omega)⟩
theorem But3.toBelow {B B' g bb wb : Nat} {a b : World} (h : But3 B g bb wb a b) (hB : B' ≤ B) (h1 : B' ≤ g) (h2 : B' ≤ bb) (h3 : B' ≤ wb) : Below B' a b :=
  ⟨h.os, h.tape, h.output, h.size, fun i hi => h.block i (by omega) (by omega) (by omega) (by omega)⟩
theorem But3.only1 {B g bb wb : Nat} {a b : World} (h : Only B g a b) : But3 B g bb wb a b := ⟨h.os, h.tape, h.output, h.size, fun i hi h1 _ _ => h.block i hi h1⟩
theorem But3.only2 {B g bb wb : Nat} {a b : World} (h : Only B bb a b) : But3 B g bb wb a b := ⟨h.os, h.tape, h.output, h.size, fun i hi _ h1 _ => h.block i hi h1⟩
theorem But3.only3 {B g bb wb : Nat} {a b : World} (h : Only B wb a b) : But3 B g bb wb a b := ⟨h.os, h.tape, h.output, h.size, fun i hi _ _ h1 => h.block i hi h1⟩
theorem But3.cell {B g bb wb : Nat} {w w' : World} (h : But3 B g bb wb w w') {p : Addr} (hp : p.block < B) (h1 : p.block ≠ g) (h2 : p.block ≠ bb) (h3 : p.block ≠ wb) : w'.cell? p = w.cell? p := World.cell?_of_block (w := w) (h.block p.block hp h1 h2 h3)
section
variable {w w' : World} {g bb wb : Nat} {F : Fl}
theorem FlashAt.keep (h : FlashAt w g bb wb F) (hk : ∀ k, k = g ∨ k = bb ∨ k = wb → w'.heap[k]? = w.heap[k]?) (hs : w.heap.size ≤ w'.heap.size) : FlashAt w' g bb wb F := by
  have cg : ∀ j, w'.cell? ⟨g, j, none⟩ = w.cell? ⟨g, j, none⟩ := fun j => World.cell?_of_block (w := w) (hk g (.inl rfl))
  have cb : ∀ j, w'.cell? ⟨bb, j, none⟩ = w.cell? ⟨bb, j, none⟩ := fun j => World.cell?_of_block (w := w) (hk bb (.inr (.inl rfl)))
  have cw : ∀ j, w'.cell? ⟨wb, j, none⟩ = w.cell? ⟨wb, j, none⟩ := fun j => World.cell?_of_block (w := w) (hk wb (.inr (.inr rfl)))
  have fg : ∀ j, w'.frozen? ⟨g, j, none⟩ = w.frozen? ⟨g, j, none⟩ := fun j => World.frozen?_of_block (w := w) (hk g (.inl rfl))
  have fb : ∀ j, w'.frozen? ⟨bb, j, none⟩ = w.frozen? ⟨bb, j, none⟩ := fun j => World.frozen?_of_block (w := w) (hk bb (.inr (.inl rfl)))
  have fw : ∀ j, w'.frozen? ⟨wb, j, none⟩ = w.frozen? ⟨wb, j, none⟩ := fun j => World.frozen?_of_block (w := w) (hk wb (.inr (.inr rfl)))
  exact ⟨(cg _).trans h.c0, (cg _).trans h.c1, (cg _).trans h.c2, (cg _).trans h.c3, (cg _).trans h.c4, (cg _).trans h.c5, (cg _).trans h.c6,
    fun j hj => ⟨by rw [cg]; exact (h.frz j hj).1, by rw [fg]; exact (h.frz j hj).2⟩, fun j v hj => (cb _).trans (h.dat j v hj),
    fun j hj => ⟨by rw [cb]; exact (h.datw j hj).1, by rw [fb]; exact (h.datw j hj).2⟩, fun j v hj => (cw _).trans (h.wr j v hj),
    fun j hj => ⟨by rw [cw]; exact (h.wrw j hj).1, by rw [fw]; exact (h.wrw j hj).2⟩, h.ne, ⟨by have := h.lt.1; omega, by have := h.lt.2.1; omega, by have := h.lt.2.2; omega⟩, h.ok⟩
theorem FlashAt.below (h : FlashAt w g bb wb F) (hb : Below w.heap.size w w') : FlashAt w' g bb wb F :=
  h.keep (fun k hk => hb.block k (by rcases hk with rfl | rfl | rfl <;> first | exact h.lt.1 | exact h.lt.2.1 | exact h.lt.2.2)) hb.size
theorem FlashAt.frozen (h : FlashAt w g bb wb F) (j : Nat) (hj : j < 7) : w.frozen? ⟨g, j, none⟩ = false := by
  have := (h.frz j hj).2
  rwa [Nat.zero_add] at this
/-- A field written. -/
theorem FlashAt.field (h : FlashAt w g bb wb F) (j : Nat) (hj : j < 7) (v : Value) (G : Fl) (hd : G.dat = F.dat) (hw : G.wear = F.wear) (hok : FlOk G)
    (h1 : j ≠ 1 → G.sec = F.sec) (h3 : j ≠ 3 → G.turned = F.turned) (h4 : j ≠ 4 → G.cut = F.cut) (h5 : j ≠ 5 → G.rest = F.rest) (h6 : j ≠ 6 → G.down = F.down)
    (hv : (j = 3 ∧ v = .int .i64 (G.turned : Int)) ∨ (j = 4 ∧ v = .bool G.cut) ∨ (j = 5 ∧ v = .int .i64 G.rest) ∨ (j = 6 ∧ v = .bool G.down)) :
    FlashAt (w.setCell ⟨g, j, none⟩ v) g bb wb G := by
  have ho : ∀ i, i ≠ j → (w.setCell ⟨g, j, none⟩ v).cell? ⟨g, i, none⟩ = w.cell? ⟨g, i, none⟩ := fun i hi => World.cell?_setCell_other _ _ _ _ (fun e => by injection e; omega)
  have hs : (w.setCell ⟨g, j, none⟩ v).cell? ⟨g, j, none⟩ = some v := by
    obtain ⟨u, hu⟩ := Option.isSome_iff_exists.1 (h.frz j hj).1
    rw [Nat.zero_add] at hu
    exact World.cell?_setCell_same _ _ _ hu
  have hO : Only (w.heap.size) g w (w.setCell ⟨g, j, none⟩ v) := (Only.refl _ g w).setCell j v
  refine ⟨?_, ?_, ?_, ?_, ?_, ?_, ?_, there_set h.frz _ _, ?_, ?_, ?_, ?_, h.ne, by simpa [World.setCell] using h.lt, hok⟩
  · rw [ho 0 (by omega), hd]; exact h.c0
  · rw [ho 1 (by omega), h1 (by omega)]; exact h.c1
  · rw [ho 2 (by omega), hw]; exact h.c2
  · by_cases e : j = 3
    · subst e; rcases hv with ⟨_, rfl⟩ | ⟨e, _⟩ | ⟨e, _⟩ | ⟨e, _⟩ <;> first | exact hs | omega
    · rw [ho 3 (by omega), h3 e]; exact h.c3
  · by_cases e : j = 4
    · subst e; rcases hv with ⟨e, _⟩ | ⟨_, rfl⟩ | ⟨e, _⟩ | ⟨e, _⟩ <;> first | exact hs | omega
    · rw [ho 4 (by omega), h4 e]; exact h.c4
  · by_cases e : j = 5
    · subst e; rcases hv with ⟨e, _⟩ | ⟨e, _⟩ | ⟨_, rfl⟩ | ⟨e, _⟩ <;> first | exact hs | omega
    · rw [ho 5 (by omega), h5 e]; exact h.c5
  · by_cases e : j = 6
    · subst e; rcases hv with ⟨e, _⟩ | ⟨e, _⟩ | ⟨e, _⟩ | ⟨_, rfl⟩ <;> first | exact hs | omega
    · rw [ho 6 (by omega), h6 e]; exact h.c6
  · rw [hd]; exact hO.range h.dat h.lt.2.1 (Ne.symm h.ne.1)
  · rw [hd]; exact hO.there h.datw h.lt.2.1 (Ne.symm h.ne.1)
  · rw [hw]; exact hO.range h.wr h.lt.2.2 (Ne.symm h.ne.2.1)
  · rw [hw]; exact hO.there h.wrw h.lt.2.2 (Ne.symm h.ne.2.1)
/-- The bytes written. -/
theorem FlashAt.bytes (h : FlashAt w g bb wb F) (hO : Only w.heap.size bb w w') (l : List UInt8) (hl : l.length = F.dat.length) (hr : w'.rangeAt bb 0 (U8 l)) (ht : w'.there bb 0 l.length) : FlashAt w' g bb wb { F with dat := l } := by
  have cg : ∀ j, w'.cell? ⟨g, j, none⟩ = w.cell? ⟨g, j, none⟩ := fun j => hO.cell (p := ⟨g, j, none⟩) h.lt.1 h.ne.1
  exact ⟨by rw [cg, hl]; exact h.c0, (cg _).trans h.c1, (cg _).trans h.c2, (cg _).trans h.c3, (cg _).trans h.c4, (cg _).trans h.c5, (cg _).trans h.c6,
    hO.there h.frz h.lt.1 h.ne.1, hr, ht, hO.range h.wr h.lt.2.2 (Ne.symm h.ne.2.2), hO.there h.wrw h.lt.2.2 (Ne.symm h.ne.2.2), h.ne,
    ⟨by have := h.lt.1; have := hO.size; omega, by have := h.lt.2.1; have := hO.size; omega, by have := h.lt.2.2; have := hO.size; omega⟩,
    ⟨h.ok.sec, by rw [hl]; exact h.ok.len, h.ok.wear, h.ok.turned, h.ok.each, h.ok.int⟩⟩
end
set_option maxHeartbeats 400000 in
theorem size_f (w : World) (g bb wb : Nat) (F : Fl) (h : FlashAt w g bb wb F) : Calls Try.prog 51 #[.pointer (some ⟨g, 0, none⟩)] w fun e w' => e = .returned (.int .i64 (F.dat.length : Int)) ∧ w' = w := by
  have h0 := h.c0
  go_enter Try.func51, Try.ntmps51
  go_wp2
  go_ret
  exact ⟨rfl, rfl⟩
theorem sector_f (w : World) (g bb wb : Nat) (F : Fl) (h : FlashAt w g bb wb F) : Calls Try.prog 37 #[.pointer (some ⟨g, 0, none⟩)] w fun e w' => e = .returned (.int .i64 (F.sec : Int)) ∧ w' = w := by
  have h0 := h.c1
  go_enter Try.func37, Try.ntmps37
  go_wp2
  go_ret
  exact ⟨rfl, rfl⟩
theorem down_f (w : World) (g bb wb : Nat) (F : Fl) (h : FlashAt w g bb wb F) : Calls Try.prog 64 #[.pointer (some ⟨g, 0, none⟩)] w fun e w' => e = .returned (.bool F.down) ∧ w' = w := by
  have h0 := h.c6
  go_enter Try.func64, Try.ntmps64
  go_wp2
  go_ret
  exact ⟨rfl, rfl⟩
end Go.Proofs.Ytpdlipkmojhnnaa
