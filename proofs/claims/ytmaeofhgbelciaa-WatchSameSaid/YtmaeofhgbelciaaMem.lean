/-
  Plain laws on memory: ranges of cells, worlds that keep blocks, rows that are written.
-/
import Derived.Deep.MidRow
import Derived.Great.BuildSlice
import Derived.Great.Ranges
import Derived.Test.YtmaeofhgbelciaaBase
import Derived.Test.YtmaeofhgbelciaaBits
import Derived.Test.YtmaeofhgbelciaaRel
import Derived.Test.YtmaeofhgbelciaaRows
namespace Go.Proofs.Ytmaeofhgbelciaa
open Go.RowKit
set_option maxRecDepth 100000
theorem range_set {w : World} {b o : Nat} {vs : List Value} (h : w.rangeAt b o vs) (ht : w.there b o vs.length) (k : Nat) (hk : k < vs.length) (v : Value) : (w.setCell ⟨b, o + k, none⟩ v).rangeAt b o (vs.set k v) := by
  intro j u hj
  by_cases hjk : k = j
  · subst hjk
    rw [List.getElem?_set_self hk] at hj
    obtain rfl := Option.some.inj hj
    obtain ⟨x, hx⟩ := Option.isSome_iff_exists.1 (ht k hk).1
    exact World.cell?_setCell_same _ _ _ hx
  · rw [List.getElem?_set_ne hjk] at hj
    rw [World.cell?_setCell_other _ _ _ _ (by intro e; injection e; omega)]
    exact h j u hj
theorem there_set {w : World} {b o n : Nat} (h : w.there b o n) (a : Addr) (v : Value) : (w.setCell a v).there b o n := by
  intro j hj
  obtain ⟨h1, h2⟩ := h j hj
  refine ⟨?_, by rw [World.frozen?_setCell]; exact h2⟩
  by_cases e : a = ⟨b, o + j, none⟩
  · subst e
    obtain ⟨x, hx⟩ := Option.isSome_iff_exists.1 h1
    rw [World.cell?_setCell_same _ _ _ hx]; rfl
  · rw [World.cell?_setCell_other _ _ _ _ e]; exact h1
theorem drewN_below (w : World) (B m : Nat) : Below B w (w.drewN m) := ⟨rfl, rfl, rfl, Nat.le_refl _, fun _ _ => rfl⟩
theorem results_cell_mid {P : Program} {fn : Func} {p : Tmp} {ty : TypeId} (h : fn.results = #[.cell p ty]) (tmps : Array Value) (w : World) (b o : Nat) (cs : List Value) (d : TypeDesc)
    (hp : tmps.getD p undef = .pointer (some ⟨b, o, none⟩)) (hc : w.rangeAt b o cs) (hu : P.underlying ty = some d) (hd : d.isRow = true) (hi : (P.info? ty).map (·.size) = some cs.length) :
    (results fn tmps).run P w = .ok (.agg cs.toArray) w := by
  have hp' : tmps[p]?.getD undef = .pointer (some ⟨b, o, none⟩) := by simpa using hp
  simp [results, h, hp', asAddr, run_loadVar_mid w b o ty cs d hc hu hd hi]
theorem below_setCells {B : Nat} {a w : World} (h : Below B a w) {b : Nat} (hb : B ≤ b) (vs : List Value) : ∀ (o : Nat), Below B a (w.setCells b o vs) := by
  induction vs generalizing w with
  | nil => intro o; exact h
  | cons v vs ih => intro o; rw [World.setCells]; exact ih (h.setCell (p := ⟨b, o, none⟩) hb v) (o + 1)
theorem range_new1 (w : World) (A : Obj) (cs : Array Value) (t : TypeId) {vs : List Value} (h : cs.toList = vs) : ((w.alloc A).alloc (.cells cs t)).rangeAt (w.heap.size + 1) 0 vs := by
  intro j v hj
  subst h
  rw [Nat.zero_add, cell_of_row _ _ _ _ _ _ (heap_alloc2_new w A _), ← Array.getElem?_toList]; exact hj
theorem there_new1 (w : World) (A : Obj) (cs : Array Value) (t : TypeId) {n : Nat} (h : cs.size = n) : ((w.alloc A).alloc (.cells cs t)).there (w.heap.size + 1) 0 n := by
  intro j hj
  rw [Nat.zero_add, cell_of_row _ _ _ _ _ _ (heap_alloc2_new w A _), frozen_of_row _ _ _ _ _ (heap_alloc2_new w A _)]
  exact ⟨by simp [h, hj], rfl⟩
theorem there_new0 (w : World) (cs : Array Value) (t : TypeId) (B : Obj) {n : Nat} (h : cs.size = n) : ((w.alloc (.cells cs t)).alloc B).there w.heap.size 0 n := by
  intro j hj
  rw [Nat.zero_add, cell_of_row _ _ _ _ _ _ (heap_alloc2_old w _ B), frozen_of_row _ _ _ _ _ (heap_alloc2_old w _ B)]
  exact ⟨by simp [h, hj], rfl⟩
theorem quiet_more {P : Program} {f : FuncId} {args : Array Value} {w : World} {n a : Nat} {v : Value} (h : Calls P f args (w.drewN (n + a)) fun e w' => e = .returned v ∧ w' = w.drewN (n + a)) :
    Calls P f args (w.drewN (n + a)) fun e w'' => e = .returned v ∧ ∃ m, w'' = w.drewN (n + m) :=
  h.mono fun _ _ ⟨he, hm⟩ => ⟨he, a, hm⟩
theorem there_new (w : World) (cs : Array Value) (t : TypeId) {n : Nat} (h : cs.size = n) : (w.alloc (.cells cs t)).there w.heap.size 0 n := by
  intro j hj
  rw [Nat.zero_add, cell_of_row _ _ _ _ _ _ (heap_alloc_new w _), frozen_of_row _ _ _ _ _ (heap_alloc_new w _)]
  exact ⟨by simp [h, hj], rfl⟩
theorem range_new0 (w : World) (cs : Array Value) (t : TypeId) (B : Obj) {vs : List Value} (h : cs.toList = vs) : ((w.alloc (.cells cs t)).alloc B).rangeAt w.heap.size 0 vs := by
  intro j v hj
  subst h
  rw [Nat.zero_add, cell_of_row _ _ _ _ _ _ (heap_alloc2_old w _ B), ← Array.getElem?_toList]; exact hj
theorem range_below {B b o : Nat} {w w' : World} {vs : List Value} (h : w.rangeAt b o vs) (hb : Below B w w') (hl : b < B) : w'.rangeAt b o vs :=
  fun j v hj => (hb.cell (p := ⟨b, o + j, none⟩) hl).trans (h j v hj)
theorem there_below {B b o n : Nat} {w w' : World} (h : w.there b o n) (hb : Below B w w') (hl : b < B) : w'.there b o n :=
  fun j hj => by rw [hb.cell (p := ⟨b, o + j, none⟩) hl, hb.frozen (p := ⟨b, o + j, none⟩) hl]; exact h j hj
theorem gen_world {F : World → Prop} {W0 : World} (P : World → Prop) (h0 : P W0) (h : ∀ W, P W → F W) : F W0 := h W0 h0
section
variable {P : Program} (w : World)
theorem run_copy_bs (dT sT ty elem : TypeId) (b o dLen dCap : Nat) {B : Nat} {A : Option Addr} {m c : Nat} {l : List UInt8} (hu : P.underlying dT = some (.slice elem)) (hs : (P.info? elem).map (·.size) = some 1)
    (hb : Bs w B A m l) (ht : w.there b o (min m dLen)) :
    (Builtin.copy_ #[dT, sT] ty #[.slice (some ⟨b, o, none⟩) dLen dCap, .slice A m c]).run P w = .ok (.int .i64 ((min m dLen : Nat) : Int)) (w.setCells b o (U8 (l.take (min m dLen)))) := by
  have hl := hb.len
  by_cases h0 : min m dLen = 0
  · have := run_copy_none (P := P) w dT sT ty elem (some ⟨b, o, none⟩) A dLen dCap m c hu hs h0
    rw [this, h0]; rfl
  · obtain ⟨b', o', rfl, _, hc⟩ := hb.place (by omega)
    have hlen : (U8 (l.take (min m dLen))).length = min m dLen := by rw [U8_length, List.length_take, hl]; omega
    have := run_copy_cells (P := P) w dT sT ty elem b o dLen dCap ⟨b', o', none⟩ m c (U8 (l.take (min m dLen))) hu hs hlen (fun j v hj => by
      rw [U8_get] at hj
      obtain ⟨x, hx, rfl⟩ := Option.map_eq_some_iff.1 hj
      rw [List.getElem?_take] at hx
      split at hx
      · rw [Addr.add_lit]; exact hc j x hx
      · cases hx) (fun j hj => (ht j (by omega)).1) (fun j hj => (ht j (by omega)).2) (U8_one _)
    rw [this, hlen]; rfl
theorem wpList_copy_bs {ops : Array Oper} {rest : List Oper} {o : Oper} {a : Act} {Q : Exit → Act → World → Prop} (hgd : o.guard = none) (d s : Operand) (dT sT : TypeId)
    (ho : o.op = .call { callee := .builtin .copy, args := #[d, s], argTypes := #[dT, sT] }) (elem : TypeId) (hu : P.underlying dT = some (.slice elem)) (hs : (P.info? elem).map (·.size) = some 1)
    (b off dLen dCap : Nat) (hd : a.eval d = .slice (some ⟨b, off, none⟩) dLen dCap) (B : Nat) (A : Option Addr) (m c : Nat) (l : List UInt8) (hx : a.eval s = .slice A m c) (hb : Bs w B A m l) (ht : w.there b off (min m dLen))
    (h : wpList P ops Q rest (a.put o.dst (.int .i64 ((min m dLen : Nat) : Int))) (w.setCells b off (U8 (l.take (min m dLen))))) : wpList P ops Q (o :: rest) a w := by
  refine wpList_plain hgd fun K hK => ?_
  have hrun := run_copy_bs (P := P) w dT sT o.type elem b off dLen dCap (c := c) hu hs hb ht
  unfold Oper.wp execOp
  simp only [ho, resolve, invoke, builtin, Sem.run_bind, Sem.run_pure, Result.andThen_ok, List.map_toArray, List.map_cons, List.map_nil, hd, hx, hrun]
  exact hK _ _ h
end
/-- Bytes that lie in another block than g. -/
def Off (g : Nat) (A : Option Addr) : Prop := ∀ a, A = some a → a.block ≠ g
theorem Bs.keepOff {w w' : World} {B n g : Nat} {A : Option Addr} {l : List UInt8} (h : Bs w B A n l) (ho : Off g A) (hk : ∀ p : Addr, p.block < B → p.block ≠ g → w'.cell? p = w.cell? p) : Bs w' B A n l :=
  ⟨h.len, fun hn => by
    obtain ⟨b, off, e, hb, hc⟩ := h.place hn
    exact ⟨b, off, e, hb, fun k u hu => (hk ⟨b, off + k, none⟩ hb (ho ⟨b, off, none⟩ e)).trans (hc k u hu)⟩⟩
/-- The blocks 0 .. B - 1 but g are as they were. -/
structure Only (B g : Nat) (w w' : World) : Prop where
  os : w'.os = w.os
  tape : w'.tape = w.tape
  output : w'.output = w.output
  size : w.heap.size ≤ w'.heap.size
  block : ∀ k, k < B → k ≠ g → w'.heap[k]? = w.heap[k]?
theorem Only.refl (B g : Nat) (w : World) : Only B g w w := ⟨rfl, rfl, rfl, Nat.le_refl _, fun _ _ _ => rfl⟩
theorem Only.below {B g : Nat} {a b c : World} (h : Only B g a b) (k : Below B b c) : Only B g a c :=
  ⟨k.os.trans h.os, k.tape.trans h.tape, k.output.trans h.output, Nat.le_trans h.size k.size, fun i hi hg => (k.block i hi).trans (h.block i hi hg)⟩
theorem Only.setCell {B g : Nat} {a w : World} (h : Only B g a w) (o : Nat) (v : Value) : Only B g a (w.setCell ⟨g, o, none⟩ v) :=
  ⟨h.os, h.tape, h.output, Nat.le_trans h.size (by simp [World.setCell]), fun i hi hg => (Below.heap_setCell w ⟨g, o, none⟩ v i hg).trans (h.block i hi hg)⟩
theorem Only.setCells {B g : Nat} {a w : World} (h : Only B g a w) (vs : List Value) : ∀ o, Only B g a (w.setCells g o vs) := by
  induction vs generalizing w with
  | nil => intro o; exact h
  | cons v vs ih => intro o; rw [World.setCells]; exact ih (h.setCell o v) (o + 1)
theorem Only.cell {B g : Nat} {w w' : World} (h : Only B g w w') {p : Addr} (hp : p.block < B) (hg : p.block ≠ g) : w'.cell? p = w.cell? p := World.cell?_of_block (w := w) (h.block p.block hp hg)
theorem Only.range {B g b o : Nat} {w w' : World} (h : Only B g w w') {vs : List Value} (hr : w.rangeAt b o vs) (hb : b < B) (hg : b ≠ g) : w'.rangeAt b o vs :=
  fun j v hj => (h.cell (p := ⟨b, o + j, none⟩) hb hg).trans (hr j v hj)
theorem Only.there {B g b o n : Nat} {w w' : World} (h : Only B g w w') (ht : w.there b o n) (hb : b < B) (hg : b ≠ g) : w'.there b o n :=
  fun j hj => by
    obtain ⟨h1, h2⟩ := ht j hj
    exact ⟨by rw [h.cell (p := ⟨b, o + j, none⟩) hb hg]; exact h1, by rw [World.frozen?_of_block (w := w) (a := ⟨b, o + j, none⟩) (h.block b hb hg)]; exact h2⟩
theorem Only.toBelow {B B' g : Nat} {w w' : World} (h : Only B g w w') (hB : B' ≤ B) (hg : B' ≤ g) : Below B' w w' :=
  ⟨h.os, h.tape, h.output, h.size, fun k hk => h.block k (by omega) (by omega)⟩
theorem size_setCells_ (vs : List Value) : ∀ (b o : Nat) (w : World), (w.setCells b o vs).heap.size = w.heap.size := by
  induction vs with
  | nil => intro b o w; rfl
  | cons v vs ih => intro b o w; rw [World.setCells, ih]; simp [World.setCell]
theorem alloc_below (w : World) (o : Obj) : Below w.heap.size w (w.alloc o) := (Below.refl _ w).alloc (Nat.le_refl _) o
theorem alloc_size (w : World) (o : Obj) : (w.alloc o).heap.size = w.heap.size + 1 := Array.size_push ..
theorem Only.from {B g : Nat} {a b c : World} (h : Below B a b) (k : Only B g b c) : Only B g a c :=
  ⟨k.os.trans h.os, k.tape.trans h.tape, k.output.trans h.output, Nat.le_trans h.size k.size, fun i hi hg => (k.block i hi hg).trans (h.block i hi)⟩
theorem Only.less {B B' g : Nat} {a b : World} (h : Only B g a b) (hB : B' ≤ B) : Only B' g a b := ⟨h.os, h.tape, h.output, h.size, fun i hi hg => h.block i (by omega) hg⟩
theorem drew_below (w : World) (B : Nat) : Below B w w.drew := Below.drew (Below.refl _ _)
theorem wp_at_world {P : Program} {c : Code} {Q : Exit → Act → World → Prop} {a : Act} {w0 : World} {F : World → Prop} (h0 : F w0) (h : ∀ W, F W → c.wp P Q a W) : c.wp P Q a w0 := h w0 h0
/-- What was there is as it was, but for the marks of rows. -/
structure Grow (w w' : World) : Prop where
  size : w.heap.size ≤ w'.heap.size
  cell : ∀ p : Addr, p.block < w.heap.size → w'.cell? p = w.cell? p
  row : ∀ (b : Nat) (cs : Array Value) (e : TypeId) (fr : Nat × Nat), w.heap[b]? = some (Obj.cells cs e fr) → ∃ fr' : Nat × Nat, w'.heap[b]? = some (Obj.cells cs e fr')
theorem Grow.below {w w' : World} (h : Below w.heap.size w w') : Grow w w' :=
  ⟨h.size, fun p hp => h.cell hp, fun b cs e fr hb => ⟨fr, by
    have hlt : b < w.heap.size := (Array.getElem?_eq_some_iff.1 hb).1
    rw [h.block b hlt]; exact hb⟩⟩
theorem Grow.refl (w : World) : Grow w w := ⟨Nat.le_refl _, fun _ _ => rfl, fun _ _ _ fr h => ⟨fr, h⟩⟩
/-- n cells of a row that bear bytes, and may be written. -/
def MI (w : World) (g n : Nat) : Prop := w.there g 0 n ∧ ∀ j, j < n → ∃ z : Int, w.cell? ⟨g, j, none⟩ = some (.int .u8 z)
theorem MI.below {w w' : World} {g n B : Nat} (h : MI w g n) (hb : Below B w w') (hg : g < B) : MI w' g n :=
  ⟨there_below h.1 hb hg, fun j hj => by obtain ⟨z, hz⟩ := h.2 j hj; exact ⟨z, (hb.cell (p := ⟨g, j, none⟩) hg).trans hz⟩⟩
theorem MI.only {w w' : World} {g n B k : Nat} (h : MI w g n) (hb : Only B k w w') (hg : g < B) (hk : g ≠ k) : MI w' g n :=
  ⟨hb.there h.1 hg hk, fun j hj => by obtain ⟨z, hz⟩ := h.2 j hj; exact ⟨z, (hb.cell (p := ⟨g, j, none⟩) hg hk).trans hz⟩⟩
theorem MI.set {w : World} {g n : Nat} (h : MI w g n) (i : Nat) (z : Int) : MI (w.setCell ⟨g, i, none⟩ (.int .u8 z)) g n := by
  have hs := World.there_setCells h.1 g i [.int .u8 z]
  refine ⟨hs, fun j hj => ?_⟩
  by_cases hij : i = j
  · subst hij
    obtain ⟨u, hu⟩ := h.2 i hj
    exact ⟨z, World.cell?_setCell_same _ _ _ hu⟩
  · obtain ⟨u, hu⟩ := h.2 j hj
    exact ⟨u, by rw [World.cell?_setCell_other _ _ _ _ (fun e => by injection e; omega)]; exact hu⟩
theorem MI.frozen {w : World} {g n : Nat} (h : MI w g n) (i : Nat) (hi : i < n) : w.frozen? ⟨g, i, none⟩ = false := by
  have := (h.1 i hi).2
  rwa [Nat.zero_add] at this
theorem own_open {w : World} {base n : Nat} {v : Value} {l : List UInt8} (h : w.ownsRow base 5 1 v n (U8 l)) :
    ∃ A c, v = .slice A n c ∧ n ≤ c ∧ Bs w w.heap.size A n l ∧ (0 < n → ∃ g, A = some ⟨g, 0, none⟩ ∧ base ≤ g ∧ g < w.heap.size ∧ MI w g n) := by
  obtain ⟨A, c, rfl, hc, hb⟩ := Bs.of_own h
  refine ⟨A, c, rfl, hc, hb, fun hn => ?_⟩
  have hb' := hb
  obtain ⟨b, off, rfl, hlt, _⟩ := hb'.place hn
  rcases h.2 with ⟨h', rfl⟩ | ⟨g, cap, cur, h', hbg, hg, _⟩
  · omega
  · simp only [Value.slice.injEq, Option.some.injEq, Addr.mk.injEq, and_true, true_and] at h'
    obtain ⟨⟨rfl, rfl⟩, rfl⟩ := h'
    have hlen := hb.len
    refine ⟨b, rfl, hbg, hlt, fun j hj => ?_, fun j hj => ?_⟩
    · rw [Nat.zero_add, h.cellAt j (by omega), h.frozenAt j]
      obtain ⟨u, hu⟩ := byte_get (l := l) (k := j) (by omega)
      rw [U8_get, hu]
      exact ⟨rfl, rfl⟩
    · obtain ⟨u, hu⟩ := byte_get (l := l) (k := j) (by omega)
      exact ⟨u.toNat, by rw [h.cellAt j (by omega), U8_get, hu]; rfl⟩
theorem calls_at_world {P : Program} {f : FuncId} {args : Array Value} {Q : Ending → World → Prop} {w0 : World} {F : World → Prop} (h0 : F w0) (h : ∀ W, F W → Calls P f args W Q) : Calls P f args w0 Q := h w0 h0
theorem U8_set (l : List UInt8) (k : Nat) (x : UInt8) : U8 (l.set k x) = (U8 l).set k (.int .u8 (x.toNat : Int)) := by unfold U8; rw [List.map_set]
/-- Integers that came in. -/
def Is (w : World) (A : Option Addr) (n : Nat) : Prop := 0 < n → ∃ x, A = some x ∧ ∀ j, j < n → ∃ z : Int, w.cell? (x.add j) = some (.int .i64 z)
theorem is_of_row {w : World} {a : Option Addr} {len cap : Nat} {zs : List Int}
    (h : (a = none ∧ len = 0 ∧ cap = 0 ∧ zs = []) ∨ ∃ x, a = some x ∧ len ≤ cap ∧ cap ≤ maxLen ∧ zs.length = cap ∧ (∀ i, i < zs.length → w.cell? (x.add i) = some (.int .i64 (zs.getD i 0))) ∧ ∀ n ∈ zs, (Lit.int .i64 n).wf = true) : Is w a len := by
  rcases h with ⟨rfl, rfl, rfl, rfl⟩ | ⟨x, rfl, hl, hm, hz, hcell, _⟩
  · intro h0; omega
  · exact fun _ => ⟨x, rfl, fun j hj => ⟨_, hcell j (by omega)⟩⟩
theorem Is.below {w w' : World} {A : Option Addr} {n : Nat} (h : Is w A n) (hb : Below w.heap.size w w') : Is w' A n := fun hn => by
  obtain ⟨x, e, hc⟩ := h hn
  refine ⟨x, e, fun j hj => ?_⟩
  obtain ⟨z, hz⟩ := hc j hj
  exact ⟨z, (hb.cell (World.block_lt_of_cell? _ _ hz)).trans hz⟩
theorem wpList_load_wanted {P : Program} {ops : Array Oper} {rest : List Oper} {o : Oper} {a : Act} {w : World} {Q : Exit → Act → World → Prop} (hw : Region.wanted o (yielded ops a.tmps) = true) (ty : TypeId) (x : Operand) (ho : o.op = .load ty x)
    (b off : Nat) (hx : a.eval x = .pointer (some ⟨b, off, none⟩)) (cs : List Value) (d : TypeDesc) (hc : w.rangeAt b off cs) (hu : P.underlying ty = some d) (hd : d.isRow = true) (hi : (P.info? ty).map (·.size) = some cs.length)
    (h : wpList P ops Q rest (a.put o.dst (.agg cs.toArray)) w) : wpList P ops Q (o :: rest) a w :=
  wpList_step fun K hK => by
    rw [if_pos hw]
    exact wp_load_mid ty x ho b off hx cs d hc hu hd hi (hK _ _ h)
theorem info_u8 : (Try.prog.info? 5).map (fun i => (i.zero, i.size, i.bytes)) = some (some (.int .u8 0), 1, 1) := by kernel_rfl
theorem take_snoc_U8 {l : List UInt8} {k : Nat} {u : UInt8} (h : l[k]? = some u) : U8 (l.take k) ++ U8 [u] = U8 (l.take (k + 1)) := by
  rw [← U8_append, List.take_add_one, h]; rfl
theorem made_zero (l c : Nat) (h : l ≤ c) : (madeCells (Value.int .u8 0).cells (c * 1)).toList.take l = U8 (List.replicate l 0) := by
  have : (madeCells (Value.int .u8 0).cells (c * 1)) = (Array.range c).map fun _ => Value.int .u8 0 := by
    unfold madeCells
    rw [Nat.mul_one]
    congr 1
    funext x
    show #[Value.int .u8 0][x % 1]! = _
    rw [Nat.mod_one]; rfl
  rw [this]
  refine List.ext_getElem? fun i => ?_
  rw [List.getElem?_take, U8_get]
  by_cases hi : i < l
  · rw [if_pos hi, List.getElem?_replicate, if_pos hi]
    simp [show i < c by omega]
  · rw [if_neg hi, List.getElem?_replicate, if_neg hi]; rfl
section
variable {P : Program} (w : World)
theorem wpList_make_part {ops : Array Oper} {rest : List Oper} {o : Oper} {a : Act} {Q : Exit → Act → World → Prop}
    (hg : o.guard = none) (x y : Operand) (t : TypeId) (hop : o.op = Op.makeSlice t x y)
    (base : Nat) (e : TypeId) (i : TypeInfo) (h1 : P.underlying t = some (.slice e)) (h2 : P.info? e = some i) (h3 : i.zero = some (.int .u8 0)) (h4 : i.size = 1) (h5 : i.bytes = 1)
    (kl kc : IntKind) (L C : Int) (l c : Nat) (hl : a.eval x = .int kl L) (hc : a.eval y = .int kc C) (hL : L = (l : Int)) (hC : C = (c : Int)) (hlc : l ≤ c) (hm : (c : Int) ≤ 1000000) (hb : base ≤ w.heap.size)
    (hK : ∀ w', w'.ownsRow base e 1 (.slice (some ⟨w.heap.size, 0, none⟩) l c) l (U8 (List.replicate l 0)) → w.grownBy w' none → wpList P ops Q rest (a.put o.dst (.slice (some ⟨w.heap.size, 0, none⟩) l c)) w') :
    wpList P ops Q (o :: rest) a w := by
  subst hL hC
  refine wpList_plain hg fun K hK' => ?_
  have hrun := run_make (P := P) w t e i (.int .u8 0) h1 h2 h3 kl kc l c (by omega) (by omega) (by rw [h5]; omega) (by omega)
  simp only [Int.toNat_natCast, h4] at hrun
  unfold Oper.wp
  simp only [execOp, hop, hl, hc, hrun, Result.andThen, Sem.run_bind, Sem.run_pure]
  refine hK' _ _ (hK _ ⟨by rw [U8_length, List.length_replicate, Nat.mul_one], .inr ⟨w.heap.size, c, _, rfl, hb, heap_alloc_new w _, hlc, by simp only [maxLen]; omega, size_madeCells _ _, ?_⟩⟩ (World.grownBy_alloc w _ none))
  rw [Nat.mul_one l]
  exact made_zero l c hlc
end
end Go.Proofs.Ytmaeofhgbelciaa
