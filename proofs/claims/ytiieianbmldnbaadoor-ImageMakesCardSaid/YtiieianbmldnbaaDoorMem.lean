/-
  Plain laws on memory: ranges of cells, worlds that keep blocks, rows that are written.
-/
import Derived.Deep.MidRow
import Derived.Great.BuildSlice
import Derived.Great.Ranges
import Derived.Test.YtiieianbmldnbaaDoorBase
import Derived.Test.YtiieianbmldnbaaDoorBits
import Derived.Test.YtiieianbmldnbaaDoorRel
import Derived.Test.YtiieianbmldnbaaDoorRows
import Derived.Test.YtiieianbmldnbaaDoorShaSched
import Derived.Test.YtiieianbmldnbaaDoorShaMix
import Derived.Test.YtiieianbmldnbaaDoorShaHash
import Derived.Test.YtiieianbmldnbaaDoorShaSum
import Derived.Test.YtiieianbmldnbaaDoorShaMade
import Derived.Test.YtiieianbmldnbaaDoorShaEnd
namespace Go.Proofs.YtiieianbmldnbaaDoor
open Go.RowKit
set_option maxRecDepth 100000
section
variable {P : Program} (w : World)
end
theorem alloc_below (w : World) (o : Obj) : Below w.heap.size w (w.alloc o) := (Below.refl _ w).alloc (Nat.le_refl _) o
theorem alloc_size (w : World) (o : Obj) : (w.alloc o).heap.size = w.heap.size + 1 := Array.size_push ..
theorem Only.from {B g : Nat} {a b c : World} (h : Below B a b) (k : Only B g b c) : Only B g a c :=
  ⟨k.os.trans h.os, k.tape.trans h.tape, k.output.trans h.output, Nat.le_trans h.size k.size, fun i hi hg => (k.block i hi hg).trans (h.block i hi)⟩
theorem Only.less {B B' g : Nat} {a b : World} (h : Only B g a b) (hB : B' ≤ B) : Only B' g a b := ⟨h.os, h.tape, h.output, h.size, fun i hi hg => h.block i (by omega) hg⟩
theorem drew_below (w : World) (B : Nat) : Below B w w.drew := Below.drew (Below.refl _ _)
theorem wp_at_world {P : Program} {c : Code} {Q : Exit → Act → World → Prop} {a : Act} {w0 : World} {F : World → Prop} (h0 : F w0) (h : ∀ W, F W → c.wp P Q a W) : c.wp P Q a w0 := h w0 h0
/-- What was there is as it was, but for the marks of rows. -/
structure Grow (w w' : World) : Prop where
  size : w.heap.size ≤ w'.heap.size
  cell : ∀ p : Addr, p.block < w.heap.size → w'.cell? p = w.cell? p
  row : ∀ (b : Nat) (cs : Array Value) (e : TypeId) (fr : Nat × Nat), w.heap[b]? = some (Obj.cells cs e fr) → ∃ fr' : Nat × Nat, w'.heap[b]? = some (Obj.cells cs e fr')
theorem Grow.below {w w' : World} (h : Below w.heap.size w w') : Grow w w' :=
  ⟨h.size, fun p hp => h.cell hp, fun b cs e fr hb => ⟨fr, by
    have hlt : b < w.heap.size := (Array.getElem?_eq_some_iff.1 hb).1
    rw [h.block b hlt]; exact hb⟩⟩
theorem Grow.refl (w : World) : Grow w w := ⟨Nat.le_refl _, fun _ _ => rfl, fun _ _ _ fr h => ⟨fr, h⟩⟩
/-- n cells of a row that bear bytes, and may be written. -/
def MI (w : World) (g n : Nat) : Prop := w.there g 0 n ∧ ∀ j, j < n → ∃ z : Int, w.cell? ⟨g, j, none⟩ = some (.int .u8 z)
theorem MI.below {w w' : World} {g n B : Nat} (h : MI w g n) (hb : Below B w w') (hg : g < B) : MI w' g n :=
  ⟨there_below h.1 hb hg, fun j hj => by obtain ⟨z, hz⟩ := h.2 j hj; exact ⟨z, (hb.cell (p := ⟨g, j, none⟩) hg).trans hz⟩⟩
theorem MI.only {w w' : World} {g n B k : Nat} (h : MI w g n) (hb : Only B k w w') (hg : g < B) (hk : g ≠ k) : MI w' g n :=
  ⟨hb.there h.1 hg hk, fun j hj => by obtain ⟨z, hz⟩ := h.2 j hj; exact ⟨z, (hb.cell (p := ⟨g, j, none⟩) hg hk).trans hz⟩⟩
theorem MI.set {w : World} {g n : Nat} (h : MI w g n) (i : Nat) (z : Int) : MI (w.setCell ⟨g, i, none⟩ (.int .u8 z)) g n := by
  have hs := World.there_setCells h.1 g i [.int .u8 z]
  refine ⟨hs, fun j hj => ?_⟩
  by_cases hij : i = j
  · subst hij
    obtain ⟨u, hu⟩ := h.2 i hj
    exact ⟨z, World.cell?_setCell_same _ _ _ hu⟩
  · obtain ⟨u, hu⟩ := h.2 j hj
    exact ⟨u, by rw [World.cell?_setCell_other _ _ _ _ (fun e => by injection e; omega)]; exact hu⟩
theorem MI.frozen {w : World} {g n : Nat} (h : MI w g n) (i : Nat) (hi : i < n) : w.frozen? ⟨g, i, none⟩ = false := by
  have := (h.1 i hi).2
  rwa [Nat.zero_add] at this
theorem own_open {w : World} {base n : Nat} {v : Value} {l : List UInt8} (h : w.ownsRow base 5 1 v n (U8 l)) :
    ∃ A c, v = .slice A n c ∧ n ≤ c ∧ Bs w w.heap.size A n l ∧ (0 < n → ∃ g, A = some ⟨g, 0, none⟩ ∧ base ≤ g ∧ g < w.heap.size ∧ MI w g n) := by
  obtain ⟨A, c, rfl, hc, hb⟩ := Bs.of_own h
  refine ⟨A, c, rfl, hc, hb, fun hn => ?_⟩
  have hb' := hb
  obtain ⟨b, off, rfl, hlt, _⟩ := hb'.place hn
  rcases h.2 with ⟨h', rfl⟩ | ⟨g, cap, cur, h', hbg, hg, _⟩
  · omega
  · simp only [Value.slice.injEq, Option.some.injEq, Addr.mk.injEq, and_true, true_and] at h'
    obtain ⟨⟨rfl, rfl⟩, rfl⟩ := h'
    have hlen := hb.len
    refine ⟨b, rfl, hbg, hlt, fun j hj => ?_, fun j hj => ?_⟩
    · rw [Nat.zero_add, h.cellAt j (by omega), h.frozenAt j]
      obtain ⟨u, hu⟩ := byte_get (l := l) (k := j) (by omega)
      rw [U8_get, hu]
      exact ⟨rfl, rfl⟩
    · obtain ⟨u, hu⟩ := byte_get (l := l) (k := j) (by omega)
      exact ⟨u.toNat, by rw [h.cellAt j (by omega), U8_get, hu]; rfl⟩
theorem calls_at_world {P : Program} {f : FuncId} {args : Array Value} {Q : Ending → World → Prop} {w0 : World} {F : World → Prop} (h0 : F w0) (h : ∀ W, F W → Calls P f args W Q) : Calls P f args w0 Q := h w0 h0
theorem U8_set (l : List UInt8) (k : Nat) (x : UInt8) : U8 (l.set k x) = (U8 l).set k (.int .u8 (x.toNat : Int)) := by unfold U8; rw [List.map_set]
/-- Integers that came in. -/
def Is (w : World) (A : Option Addr) (n : Nat) : Prop := 0 < n → ∃ x, A = some x ∧ ∀ j, j < n → ∃ z : Int, w.cell? (x.add j) = some (.int .i64 z)
theorem is_of_row {w : World} {a : Option Addr} {len cap : Nat} {zs : List Int}
    (h : (a = none ∧ len = 0 ∧ cap = 0 ∧ zs = []) ∨ ∃ x, a = some x ∧ len ≤ cap ∧ cap ≤ maxLen ∧ zs.length = cap ∧ (∀ i, i < zs.length → w.cell? (x.add i) = some (.int .i64 (zs.getD i 0))) ∧ ∀ n ∈ zs, (Lit.int .i64 n).wf = true) : Is w a len := by
  rcases h with ⟨rfl, rfl, rfl, rfl⟩ | ⟨x, rfl, hl, hm, hz, hcell, _⟩
  · intro h0; omega
  · exact fun _ => ⟨x, rfl, fun j hj => ⟨_, hcell j (by omega)⟩⟩
theorem Is.below {w w' : World} {A : Option Addr} {n : Nat} (h : Is w A n) (hb : Below w.heap.size w w') : Is w' A n := fun hn => by
  obtain ⟨x, e, hc⟩ := h hn
  refine ⟨x, e, fun j hj => ?_⟩
  obtain ⟨z, hz⟩ := hc j hj
  exact ⟨z, (hb.cell (World.block_lt_of_cell? _ _ hz)).trans hz⟩
theorem wpList_load_wanted {P : Program} {ops : Array Oper} {rest : List Oper} {o : Oper} {a : Act} {w : World} {Q : Exit → Act → World → Prop} (hw : Region.wanted o (yielded ops a.tmps) = true) (ty : TypeId) (x : Operand) (ho : o.op = .load ty x)
    (b off : Nat) (hx : a.eval x = .pointer (some ⟨b, off, none⟩)) (cs : List Value) (d : TypeDesc) (hc : w.rangeAt b off cs) (hu : P.underlying ty = some d) (hd : d.isRow = true) (hi : (P.info? ty).map (·.size) = some cs.length)
    (h : wpList P ops Q rest (a.put o.dst (.agg cs.toArray)) w) : wpList P ops Q (o :: rest) a w :=
  wpList_step fun K hK => by
    rw [if_pos hw]
    exact wp_load_mid ty x ho b off hx cs d hc hu hd hi (hK _ _ h)
section
variable {P : Program} (w : World)
end
end Go.Proofs.YtiieianbmldnbaaDoor
