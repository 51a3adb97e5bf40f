/-
  Watches as they lie: rows of twenty-one cells; values and their clones.
-/
import Derived.Test.YtmaeofhgbelciaaWaInts
import Derived.Test.YtmaeofhgbelciaaClone
import Derived.Test.YtmaeofhgbelciaaShelfS
namespace Go.Proofs.Ytmaeofhgbelciaa
open Go.RowKit
set_option maxRecDepth 100000
set_option maxRecDepth 100000
set_option linter.unusedVariables false
/-- A condition: its numbers, and which are told. -/
structure Cq where
  a : Int
  b : Int
  ha : Bool
  hb : Bool
  g : Int
  l : Int
  s : Int
  hg : Bool
  hl : Bool
  hs : Bool
def Cq.vals (c : Cq) : List Value := [.int .i64 c.a, .int .i64 c.b, .bool c.ha, .bool c.hb, .int .i64 c.g, .int .i64 c.l, .int .i64 c.s, .bool c.hg, .bool c.hl, .bool c.hs]
/-- A value. -/
structure Vq where
  k : Int
  n : Int
  s : ByteArray
  b : List UInt8
  o : Int
  i : Int
/-- A watch. -/
structure Wq where
  sv : Int
  tok : List UInt8
  pa : List Int
  c : Cq
  v : Vq
  t : Int
  sq : Int
/-- A watch as it lies. -/
structure Wr where
  q : Wq
  tA : Option Addr
  tn : Nat
  tc : Nat
  pA : Option Addr
  pn : Nat
  pc : Nat
  bA : Option Addr
  bn : Nat
  bc : Nat
def Wr.vals (s : Wr) : List Value := [.int .i64 s.q.sv, .slice s.tA s.tn s.tc, .slice s.pA s.pn s.pc, .int .i64 s.q.c.a, .int .i64 s.q.c.b, .bool s.q.c.ha, .bool s.q.c.hb, .int .i64 s.q.c.g, .int .i64 s.q.c.l, .int .i64 s.q.c.s, .bool s.q.c.hg, .bool s.q.c.hl, .bool s.q.c.hs, .int .i64 s.q.v.k, .int .i64 s.q.v.n, .string s.q.v.s, .slice s.bA s.bn s.bc, .int .i64 s.q.v.o, .int .i64 s.q.v.i, .int .i64 s.q.t, .int .i64 s.q.sq]
def wK : RowK Wr 21 where
  vals := Wr.vals
  len := fun _ => rfl
  one := fun s u hu => by
    simp only [Wr.vals, List.mem_cons, List.not_mem_nil, or_false] at hu
    rcases hu with rfl | rfl | rfl | rfl | rfl | rfl | rfl | rfl | rfl | rfl | rfl | rfl | rfl | rfl | rfl | rfl | rfl | rfl | rfl | rfl | rfl <;> rfl
  pos := by decide
def vvals (v : Vq) (A : Option Addr) (n c : Nat) : List Value := [.int .i64 v.k, .int .i64 v.n, .string v.s, .slice A n c, .int .i64 v.o, .int .i64 v.i]
theorem vv_one (v : Vq) (A : Option Addr) (n c : Nat) : ∀ u ∈ vvals v A n c, u.oneCell' = true := by
  intro u hu
  simp only [vvals, List.mem_cons, List.not_mem_nil, or_false] at hu
  rcases hu with rfl | rfl | rfl | rfl | rfl | rfl <;> rfl
theorem range_newV (w : World) (cs : Array Value) (t : TypeId) {vs : List Value} (h : cs.toList = vs) : (w.alloc (.cells cs t)).rangeAt w.heap.size 0 vs := by
  intro j v hj
  subst h
  rw [Nat.zero_add, cell_of_row _ _ _ _ _ _ (heap_alloc_new w _), ← Array.getElem?_toList]; exact hj
theorem size_wr : (Try.prog.info? 37).map (·.size) = some 21 := by kernel_rfl
theorem size_vl : (Try.prog.info? 34).map (·.size) = some 6 := by kernel_rfl
theorem info_wr : (Try.prog.info? 37).map (fun i => (i.zero, i.size, i.bytes)) = some (some (.agg #[.int .i64 0, .slice none 0 0, .slice none 0 0, .int .i64 0, .int .i64 0, .bool false, .bool false, .int .i64 0, .int .i64 0, .int .i64 0, .bool false, .bool false, .bool false, .int .i64 0, .int .i64 0, .string ⟨#[]⟩, .slice none 0 0, .int .i64 0, .int .i64 0, .int .i64 0, .int .i64 0]), 21, 200) := by kernel_rfl
theorem zero_wr (w : World) : (zeroValue 37).run Try.prog w = .ok (.agg #[.int .i64 0, .slice none 0 0, .slice none 0 0, .int .i64 0, .int .i64 0, .bool false, .bool false, .int .i64 0, .int .i64 0, .int .i64 0, .bool false, .bool false, .bool false, .int .i64 0, .int .i64 0, .string ⟨#[]⟩, .slice none 0 0, .int .i64 0, .int .i64 0, .int .i64 0, .int .i64 0]) w := by kernel_rfl
/-- A time as it counts. -/
def clampQ (t : Int) : Int := min (max t 0) 1099511627776
theorem clampQ_in (t : Int) : 0 ≤ clampQ t ∧ clampQ t ≤ 1099511627776 := by unfold clampQ; omega
theorem clamp_f (t : Int) (w : World) : Calls Try.prog 30 #[.int .i64 t] w fun e w' => e = .returned (.int .i64 (clampQ t)) ∧ w' = w := by
  have hm : min (max t 0) 1099511627776 = clampQ t := rfl
  generalize clampQ t = q at *
  obtain ⟨y, hy⟩ : ∃ y, max t 0 = y := ⟨_, rfl⟩
  rw [hy] at hm
  go_enter Try.func30, Try.ntmps30
  go_wp2
  go_ret
  exact ⟨rfl, rfl⟩
theorem sclone_f (s : ByteArray) (w : World) (hs : s.size ≤ 1048576) : Calls Try.prog 53 #[.string s] w fun e w' => e = .returned (.string s) ∧ Below w.heap.size w w' := by
  have h := Try.stringslite_Clone s w (by omega)
  have HH := Lib.hid h
  clear h
  go_enter Try.func53, Try.ntmps53
  go_wp2_with fail
  refine HH.out.mono ?_
  rintro e w1 ⟨rfl, b1⟩
  go_wp2
  go_ret
  exact ⟨rfl, b1⟩
/-- Numbers of the call's own. -/
def Oi (w : World) (B : Nat) (A : Option Addr) (n c : Nat) (l : List Int) : Prop := w.ownsRow B 3 1 (.slice A n c) n (inK.all l) ∧ (n : Int) ≤ 1048576
/-- Bytes of the call's own. -/
def Ob (w : World) (B : Nat) (A : Option Addr) (n c : Nat) (l : List UInt8) : Prop := w.ownsRow B 5 1 (.slice A n c) n (U8 l) ∧ (n : Int) ≤ 1048576
section
variable {w w' : World} {B B' n c : Nat} {A : Option Addr} {l : List UInt8} {zs : List Int}
theorem Ob.bs (h : Ob w B A n c l) : Bs w w.heap.size A n l := by
  have hl := h.1.1
  rw [U8_length, Nat.mul_one] at hl
  have hb := h.1
  rw [← hl] at hb ⊢
  obtain ⟨A', c', e, _, hbs⟩ := Bs.of_own hb
  injection e with e _ _
  rw [e]; exact hbs
theorem Ob.below (h : Ob w B A n c l) (hb : Below w.heap.size w w') : Ob w' B A n c l := ⟨rk_below h.1 hb, h.2⟩
theorem Ob.mono (h : Ob w B A n c l) (hb : B' ≤ B) : Ob w B' A n c l := ⟨rk_mono h.1 hb, h.2⟩
theorem Ob.len (h : Ob w B A n c l) : l.length = n := by have := h.1.1; rw [U8_length] at this; omega
theorem Oi.at_ (h : Oi w B A n c zs) : inK.At w w.heap.size A n zs := by
  obtain ⟨A', c', e, _, _, hat, _⟩ := RowK.At.of_own h.1
  injection e with e1 _ e3
  subst e1 e3
  exact hat
theorem Oi.below (h : Oi w B A n c zs) (hb : Below w.heap.size w w') : Oi w' B A n c zs := ⟨rk_below h.1 hb, h.2⟩
theorem Oi.mono (h : Oi w B A n c zs) (hb : B' ≤ B) : Oi w B' A n c zs := ⟨rk_mono h.1 hb, h.2⟩
theorem Oi.len (h : Oi w B A n c zs) : zs.length = n := RowK.own_len h.1
end
theorem run_eql_nil_i (W : World) (A : Option Addr) (n c : Nat) : (binOp .eql 32 (.slice A n c) (.slice none 0 0)).run Try.prog W = .ok (.bool A.isNone) W := Lib.run_eql_slice_nil W _ _ A n c _ _ Try.underlying32
set_option maxHeartbeats 1000000 in
/-- slices.Clone of numbers. -/
theorem iclone_f (A : Option Addr) (n c : Nat) (l : List Int) (w : World) (B : Nat) (hat : inK.At w B A n l) (hB : B ≤ w.heap.size) (hn : (n : Int) ≤ 1048576) :
    Calls Try.prog 50 #[.slice A n c] w fun e w' => ∃ A' c', e = .returned (.slice A' n c') ∧ Oi w' w.heap.size A' n c' l ∧ Below w.heap.size w w' := by
  obtain ⟨i0, hi0, hz0, hz1, hz2⟩ := info_parts info_in
  have hnil := fun W => run_eql_nil_i W A n c
  have hlen := Lib.hid hat.len
  cases A with
  | none =>
    have hn0 : n = 0 := by
      rcases Nat.eq_zero_or_pos n with h | h
      · exact h
      · obtain ⟨_, _, e, _⟩ := hat.place h
        cases e
    subst hn0
    have hl : l = [] := List.eq_nil_of_length_eq_zero hlen.out
    have HL := Lib.hid hl
    clear hl hat
    go_enter Try.func50, Try.ntmps50
    go_wp2
    go_ret
    refine ⟨_, _, rfl, ⟨?_, by decide⟩, Below.refl _ _⟩
    rw [HL.out]
    exact World.ownsRow_nil _ _ _ _
  | some ad =>
    have hcells : ∀ j u, (inK.all l)[j]? = some u → (w.alloc (.cells #[] 3)).cell? (ad.add j) = some u := by
      intro j u hu
      have hj : j < l.length := by have := (List.getElem?_eq_some_iff.1 hu).1; rw [inK.all_length] at this; omega
      obtain ⟨b, off, e, hb, hc⟩ := hat.place (by have := hlen.out; omega)
      injection e with e
      subst e
      have hz := List.getElem?_eq_getElem hj
      have h1 := inK.all_get l j _ 0 _ hz rfl
      rw [Nat.mul_one, Nat.add_zero, hu] at h1
      obtain rfl := Option.some.inj h1
      have h2 := hc j _ hz 0 _ rfl
      rw [Nat.mul_one, Nat.add_zero] at h2
      rw [rk_add, World.cell?_alloc_lt w _ _ (show b < w.heap.size by omega)]
      exact h2
    have hl2 : (inK.all l).length = n * 1 := by rw [inK.all_length, hlen.out]
    have HC := Lib.hid (And.intro hcells hl2)
    clear hcells hl2 hat
    go_enter Try.func50, Try.ntmps50
    go_wp2_with (at_builtin; refine wpList_append_own _ rfl (.tmp 5) (.tmp 6) 32 rfl w.heap.size 3 i0 _ 1 8 Try.underlying32 hi0 hz0 hz1 hz2 rfl (by decide) _ 0 _ rfl (rk_empty w _ (Nat.le_refl _) _ _) ad n c (inK.all l) rfl HC.out.2 HC.out.1 (inK.all_one l) (by unfold maxLen; omega) (by omega) (by rw [alloc_size]; omega) ?_; intro v' w1 hown1 hgrow _)
    have hown2 : w1.ownsRow w.heap.size 3 1 v' n (inK.all l) := by simpa using hown1
    obtain ⟨A', c', rfl, _⟩ := RowK.At.of_own hown2
    go_ret
    exact ⟨_, _, rfl, ⟨hown2, hn⟩, ((Below.refl w.heap.size w).alloc (Nat.le_refl _) _).grown hgrow (by rw [alloc_size]; omega) (own_ge (rk_empty w _ (Nat.le_refl _) 3 1))⟩
end Go.Proofs.Ytmaeofhgbelciaa
